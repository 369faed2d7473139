/- Texts are read. -/
import Derived.Test.YtpnlaeapnokipaaDW17
import Derived.Test.YtpnlaeapnokipaaDB5
import Derived.Test.YtpnlaeapnokipaaDC4
import Derived.Test.YtpnlaeapnokipaaDW3
import Derived.Test.YtpnlaeapnokipaaDB3
import Derived.Test.YtpnlaeapnokipaaDS11
import Derived.Laws.MakeOwn
import Derived.Test.YtpnlaeapnokipaaDC2
import Derived.Test.YtpnlaeapnokipaaDB6
set_option linter.all false
set_option maxRecDepth 100000
namespace Go.Proofs.Ytpnlaeapnokipaa
open Go.RowKit Go.Sep
attribute [local irreducible] Go.wpList Go.Code.wp

theorem newIn_c {I : IM} {l : List UInt8} {a : Option Addr} {n c : Nat} (hl : BSl I l (.slice a n c)) (hn : l.length ≤ 1000000) : FunM Try.prog 44 #[.slice a n c] I [] (fun v J F' => ∃ b a c, v = .pointer (some ⟨b, 0, none⟩) ∧ F' = [(b, .cells #[.slice a (List.length l) c, .int .i64 0] 105)] ∧ BSl J l (.slice a (List.length l) c)) := by
  obtain ⟨rfl, -⟩ := hl.cap
  refine enterM_rule 7 [(0, .slice a l.length c)] Try.func44 rfl (by kernel_rfl) ?_
  intro w s
  refine wp_seq ?_
  refine region_rule ?_
  refine ops_rule (C := []) [] [] 1 [] 0 (fun φ1 => [(2, .pointer none)]) (fun φ1 => []) (fun φ1 => []) s trivial (fun φ1 => by kernel_rfl) ?_
  intro φ1 w1 s
  refine ops_done (by kernel_rfl) ?_
  refine wp_seq ?_
  refine region_rule ?_
  refine ops_rule (C := []) [] [] 1 [] 0 (fun φ2 => [(3, .slice a l.length c)]) (fun φ2 => []) (fun φ2 => []) s trivial (fun φ2 => by kernel_rfl) ?_
  intro φ2 w2 s
  refine call_rule (some 4) s (clone_c hl (by omega)) (by kernel_rfl) ?_
  intro v3 I3 w3 le3 h3 s
  replace hl := BSl.mono le3 hl
  obtain ⟨a3, c3, rfl, h3_0⟩ := h3
  refine ops_rule (C := []) [] [] 3 [] 1 (fun φ4 => [(2, .pointer (some ⟨(φ4 0), 0, none⟩)), (6, .pointer (some ⟨(φ4 0), 0, none⟩)), (5, .agg #[.slice a3 (List.length l) c3, .int .i64 0])]) (fun φ4 => [((φ4 0), .cells #[.slice a3 (List.length l) c3, .int .i64 0] 105)]) (fun φ4 => []) s trivial (fun φ4 => by kernel_rfl) ?_
  intro φ4 w4 s
  refine ops_done (by kernel_rfl) ?_
  refine wp_ret ?_
  refine ret_rule (C := []) [((φ4 0), .cells #[.slice a3 (List.length l) c3, .int .i64 0] 105)] [] (.pointer (some ⟨(φ4 0), 0, none⟩)) [] [] s trivial (by kernel_rfl) ?_
  exact ⟨_, _, _, rfl, s, ⟨_, _, _, rfl, rfl, h3_0⟩⟩

theorem errI_c {I : IM} {r e : Nat} {v0 : Value} : FunM Try.prog 55 #[.pointer (some ⟨r, 0, none⟩)] I [(r, .cells #[v0, .int .i64 ((e : Nat) : Int)] 105)] (fun v J H' => ∃ b' : OB, H' = [b'] ∧ b'.1 = r ∧ v = .int .i64 ((e : Nat) : Int) ∧ b' = (r, .cells #[v0, .int .i64 ((e : Nat) : Int)] 105)) := by
  refine enterM_rule 9 [(0, .pointer (some ⟨r, 0, none⟩))] Try.func55 rfl (by kernel_rfl) ?_
  intro w s
  refine wp_seq ?_
  refine region_rule ?_
  refine ops_rule (C := []) [(r, .cells #[v0, .int .i64 ((e : Nat) : Int)] 105)] [] 1 [] 0 (fun φ1 => [(2, .int .i64 0)]) (fun φ1 => [(r, .cells #[v0, .int .i64 ((e : Nat) : Int)] 105)]) (fun φ1 => []) s trivial (fun φ1 => by kernel_rfl) ?_
  intro φ1 w1 s
  refine ops_done (by kernel_rfl) ?_
  refine wp_seq ?_
  refine wp_seq ?_
  refine region_rule ?_
  refine ops_rule (C := []) [(r, .cells #[v0, .int .i64 ((e : Nat) : Int)] 105)] [] 2 [] 0 (fun φ2 => [(4, .bool false), (3, .pointer (some ⟨r, 0, none⟩))]) (fun φ2 => [(r, .cells #[v0, .int .i64 ((e : Nat) : Int)] 105)]) (fun φ2 => []) s trivial (fun φ2 => by kernel_rfl) ?_
  intro φ2 w2 s
  refine ops_done (by kernel_rfl) ?_
  refine cond_false_rule (b := false) (by kernel_rfl) rfl ?_
  refine wp_skip ?_
  refine wp_seq ?_
  refine region_rule ?_
  refine ops_rule (C := []) [(r, .cells #[v0, .int .i64 ((e : Nat) : Int)] 105)] [] 5 [.o 0] 0 (fun φ3 => [(2, .int .i64 ((e : Nat) : Int)), (8, .int .i64 ((e : Nat) : Int)), (7, .pointer (some ⟨r, 1, none⟩)), (6, .pointer (some ⟨r, 0, none⟩)), (5, .pointer (some ⟨r, 0, none⟩))]) (fun φ3 => [(r, .cells #[v0, .int .i64 ((e : Nat) : Int)] 105)]) (fun φ3 => [r]) s trivial (fun φ3 => by kernel_rfl) ?_
  intro φ3 w3 s
  refine ops_done (by kernel_rfl) ?_
  refine wp_ret ?_
  refine ret_rule (C := []) [(r, .cells #[v0, .int .i64 ((e : Nat) : Int)] 105)] [] (.int .i64 ((e : Nat) : Int)) [] [] s trivial (by kernel_rfl) ?_
  exact ⟨_, _, _, rfl, s, ⟨_, rfl, rfl, rfl, rfl⟩⟩

theorem leftI_c {I : IM} {r e k c : Nat} {a : Option Addr} : FunM Try.prog 56 #[.pointer (some ⟨r, 0, none⟩)] I [(r, .cells #[.slice a k c, .int .i64 ((e : Nat) : Int)] 105)] (fun v J H' => ∃ b' : OB, H' = [b'] ∧ b'.1 = r ∧ v = .int .i64 ((k : Nat) : Int) ∧ b' = (r, .cells #[.slice a k c, .int .i64 ((e : Nat) : Int)] 105)) := by
  refine enterM_rule 10 [(0, .pointer (some ⟨r, 0, none⟩))] Try.func56 rfl (by kernel_rfl) ?_
  intro w s
  refine wp_seq ?_
  refine region_rule ?_
  refine ops_rule (C := []) [(r, .cells #[.slice a k c, .int .i64 ((e : Nat) : Int)] 105)] [] 1 [] 0 (fun φ1 => [(2, .int .i64 0)]) (fun φ1 => [(r, .cells #[.slice a k c, .int .i64 ((e : Nat) : Int)] 105)]) (fun φ1 => []) s trivial (fun φ1 => by kernel_rfl) ?_
  intro φ1 w1 s
  refine ops_done (by kernel_rfl) ?_
  refine wp_seq ?_
  refine wp_seq ?_
  refine region_rule ?_
  refine ops_rule (C := []) [(r, .cells #[.slice a k c, .int .i64 ((e : Nat) : Int)] 105)] [] 2 [] 0 (fun φ2 => [(4, .bool false), (3, .pointer (some ⟨r, 0, none⟩))]) (fun φ2 => [(r, .cells #[.slice a k c, .int .i64 ((e : Nat) : Int)] 105)]) (fun φ2 => []) s trivial (fun φ2 => by kernel_rfl) ?_
  intro φ2 w2 s
  refine ops_done (by kernel_rfl) ?_
  refine cond_false_rule (b := false) (by kernel_rfl) rfl ?_
  refine wp_skip ?_
  refine wp_seq ?_
  refine region_rule ?_
  refine ops_rule (C := []) [(r, .cells #[.slice a k c, .int .i64 ((e : Nat) : Int)] 105)] [] 6 [.o 0] 0 (fun φ3 => [(2, .int .i64 ((k : Nat) : Int)), (9, .int .i64 ((k : Nat) : Int)), (8, .slice a k c), (7, .pointer (some ⟨r, 0, none⟩)), (6, .pointer (some ⟨r, 0, none⟩)), (5, .pointer (some ⟨r, 0, none⟩))]) (fun φ3 => [(r, .cells #[.slice a k c, .int .i64 ((e : Nat) : Int)] 105)]) (fun φ3 => [r]) s trivial (fun φ3 => by kernel_rfl) ?_
  intro φ3 w3 s
  refine ops_done (by kernel_rfl) ?_
  refine wp_ret ?_
  refine ret_rule (C := []) [(r, .cells #[.slice a k c, .int .i64 ((e : Nat) : Int)] 105)] [] (.int .i64 ((k : Nat) : Int)) [] [] s trivial (by kernel_rfl) ?_
  exact ⟨_, _, _, rfl, s, ⟨_, rfl, rfl, rfl, rfl⟩⟩

end Go.Proofs.Ytpnlaeapnokipaa
