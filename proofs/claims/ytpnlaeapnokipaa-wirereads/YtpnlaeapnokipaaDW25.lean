/- Texts of any size; an In that is only looked at. -/
import Derived.Test.YtpnlaeapnokipaaDW24
import Derived.Test.YtpnlaeapnokipaaDB9
import Derived.Test.YtpnlaeapnokipaaDS12
set_option linter.all false
set_option maxRecDepth 100000
namespace Go.Proofs.Ytpnlaeapnokipaa
open Go.RowKit Go.Sep
attribute [local irreducible] Go.wpList Go.Code.wp

theorem textA_c {I : IM} {l : List UInt8} {a : Option Addr} {k c r e : Nat} (hl : BSl I l (.slice a k c)) (hn9 : l.length ≤ 1000000) {z : Int} (hz : z < 9223372036854775808) : FunM Try.prog 49 #[.pointer (some ⟨r, 0, none⟩), .int .i64 z] I [(r, .cells #[.slice a k c, .int .i64 ((e : Nat) : Int)] 105)] (fun v J H' => ∃ b' : OB, H' = [b'] ∧ b'.1 = r ∧ ∃ (a' : Option Addr) (k' c' : Nat), v = .string ⟨(teV l e z).toArray⟩ ∧ b' = (r, .cells #[.slice a' k' c', .int .i64 ((teE l e z : Nat) : Int)] 105) ∧ BSl J (l.drop (teD l e z)) (.slice a' k' c')) := by
  rcases Int.lt_or_le z 0 with h | h
  · exact textN_c hl hn9 h
  · obtain ⟨n, rfl⟩ := Int.eq_ofNat_of_zero_le h
    exact textG_c hl hn9 (by omega)
theorem refTextA_c {I : IM} {P : List UInt8} {a : Option Addr} {k c x at0 e : Nat} (hl : BSl I P (.slice a k c)) (hn9 : P.length ≤ 1000000) (hat : at0 ≤ P.length) {z : Int} (hz : z < 9223372036854775808) : FunM Try.prog 50 #[.pointer (some ⟨x, 0, none⟩), .int .i64 z] I [(x, .cells #[.slice a k c, .int .i64 ((at0 : Nat) : Int), .int .i64 ((e : Nat) : Int)] 74)] (fun v J H' => ∃ b' : OB, H' = [b'] ∧ b'.1 = x ∧ v = .string ⟨(teV (P.drop at0) e z).toArray⟩ ∧ b' = (x, .cells #[.slice a k c, .int .i64 ((at0 + teD (P.drop at0) e z : Nat) : Int), .int .i64 ((teE (P.drop at0) e z : Nat) : Int)] 74)) := by
  rcases Int.lt_or_le z 0 with h | h
  · exact refTextN_c hl hn9 hat h
  · obtain ⟨n, rfl⟩ := Int.eq_ofNat_of_zero_le h
    exact refText_c hl hn9 hat (by omega)

set_option maxHeartbeats 400000 in
theorem errF_c {I : IM} {r e k c : Nat} {a : Option Addr} (hr : I r = some (.cells #[.slice a k c, .int .i64 ((e : Nat) : Int)] 105)) : Fun Try.prog 55 #[.pointer (some ⟨r, 0, none⟩)] I (fun v J => v = .int .i64 ((e : Nat) : Int)) := by
  refine enter_rule 9 [(0, .pointer (some ⟨r, 0, none⟩))] Try.func55 rfl (by kernel_rfl) ?_
  intro w s
  refine wp_seq ?_
  refine region_rule ?_
  refine ops_rule (C := []) [] [] 1 [] 0 (fun φ1 => [(2, .int .i64 0)]) (fun φ1 => []) (fun φ1 => []) s trivial (fun φ1 => by kernel_rfl) ?_
  intro φ1 w1 s
  refine ops_done (by kernel_rfl) ?_
  refine wp_seq ?_
  refine wp_seq ?_
  refine region_rule ?_
  refine ops_rule (C := []) [] [] 2 [] 0 (fun φ2 => [(4, .bool false), (3, .pointer (some ⟨r, 0, none⟩))]) (fun φ2 => []) (fun φ2 => []) s trivial (fun φ2 => by kernel_rfl) ?_
  intro φ2 w2 s
  refine ops_done (by kernel_rfl) ?_
  refine cond_false_rule (b := false) (by kernel_rfl) rfl ?_
  refine wp_skip ?_
  refine wp_seq ?_
  refine region_rule ?_
  refine ops_rule (C := [(r, .cells #[.slice a k c, .int .i64 ((e : Nat) : Int)] 105)]) [] [] 5 [.c 0] 0 (fun φ3 => [(2, .int .i64 ((e : Nat) : Int)), (8, .int .i64 ((e : Nat) : Int)), (7, .pointer (some ⟨r, 1, none⟩)), (6, .pointer (some ⟨r, 0, none⟩)), (5, .pointer (some ⟨r, 0, none⟩))]) (fun φ3 => []) (fun φ3 => [r]) s ⟨hr, trivial⟩ (fun φ3 => by kernel_rfl) ?_
  intro φ3 w3 s
  refine ops_done (by kernel_rfl) ?_
  refine wp_ret ?_
  refine ret_rule (C := []) [] [] (.int .i64 ((e : Nat) : Int)) [] [] s trivial (by kernel_rfl) ?_
  exact ⟨_, _, _, rfl, s, rfl⟩

set_option maxHeartbeats 400000 in
theorem leftF_c {I : IM} {r e k c : Nat} {a : Option Addr} (hr : I r = some (.cells #[.slice a k c, .int .i64 ((e : Nat) : Int)] 105)) : Fun Try.prog 56 #[.pointer (some ⟨r, 0, none⟩)] I (fun v J => v = .int .i64 ((k : Nat) : Int)) := by
  refine enter_rule 10 [(0, .pointer (some ⟨r, 0, none⟩))] Try.func56 rfl (by kernel_rfl) ?_
  intro w s
  refine wp_seq ?_
  refine region_rule ?_
  refine ops_rule (C := []) [] [] 1 [] 0 (fun φ1 => [(2, .int .i64 0)]) (fun φ1 => []) (fun φ1 => []) s trivial (fun φ1 => by kernel_rfl) ?_
  intro φ1 w1 s
  refine ops_done (by kernel_rfl) ?_
  refine wp_seq ?_
  refine wp_seq ?_
  refine region_rule ?_
  refine ops_rule (C := []) [] [] 2 [] 0 (fun φ2 => [(4, .bool false), (3, .pointer (some ⟨r, 0, none⟩))]) (fun φ2 => []) (fun φ2 => []) s trivial (fun φ2 => by kernel_rfl) ?_
  intro φ2 w2 s
  refine ops_done (by kernel_rfl) ?_
  refine cond_false_rule (b := false) (by kernel_rfl) rfl ?_
  refine wp_skip ?_
  refine wp_seq ?_
  refine region_rule ?_
  refine ops_rule (C := [(r, .cells #[.slice a k c, .int .i64 ((e : Nat) : Int)] 105)]) [] [] 6 [.c 0] 0 (fun φ3 => [(2, .int .i64 ((k : Nat) : Int)), (9, .int .i64 ((k : Nat) : Int)), (8, .slice a k c), (7, .pointer (some ⟨r, 0, none⟩)), (6, .pointer (some ⟨r, 0, none⟩)), (5, .pointer (some ⟨r, 0, none⟩))]) (fun φ3 => []) (fun φ3 => [r]) s ⟨hr, trivial⟩ (fun φ3 => by kernel_rfl) ?_
  intro φ3 w3 s
  refine ops_done (by kernel_rfl) ?_
  refine wp_ret ?_
  refine ret_rule (C := []) [] [] (.int .i64 ((k : Nat) : Int)) [] [] s trivial (by kernel_rfl) ?_
  exact ⟨_, _, _, rfl, s, rfl⟩

end Go.Proofs.Ytpnlaeapnokipaa
