/- Texts are read. -/
import Derived.Test.YtpnlaeapnokipaaMW17
import Derived.Test.YtpnlaeapnokipaaMB5
import Derived.Test.YtpnlaeapnokipaaMC4
import Derived.Test.YtpnlaeapnokipaaMW3
import Derived.Test.YtpnlaeapnokipaaMB3
import Derived.Test.YtpnlaeapnokipaaMS10
import Derived.Laws.MakeOwn
import Derived.Test.YtpnlaeapnokipaaMC2
import Derived.Test.YtpnlaeapnokipaaMB6
set_option linter.all false
set_option maxRecDepth 100000
namespace Go.Proofs.Ytpnlaeapnokipaa
open Go.RowKit Go.Sep
attribute [local irreducible] Go.wpList Go.Code.wp

theorem take_string {s : List UInt8} {hi : Nat} : (⟨s.toArray⟩ : ByteArray).extract 0 hi = ⟨(s.take hi).toArray⟩ := by
  apply ByteArray.ext
  rw [ByteArray.data_extract]
  apply Array.ext'
  simp only [Array.toList_extract, List.extract_eq_take_drop]
  rfl
theorem run_takeStr {w : World} {s : List UInt8} {hi : Nat} (h : hi ≤ s.length) : (Instr.sliceAt 9 (.string ⟨s.toArray⟩) none (some (.int .i64 ((hi : Nat) : Int))) none).run Try.prog w = .ok (.string ⟨(s.take hi).toArray⟩) w := by
  rw [run_sliceStrTo under9 (by exact h), take_string]

theorem newIn_c {I : IM} {l : List UInt8} {a : Option Addr} {n c : Nat} (hl : BSl I l (.slice a n c)) (hn : l.length ≤ 1000000) : FunM Try.prog 44 #[.slice a n c] I [] (fun v J F' => ∃ b a c, v = .pointer (some ⟨b, 0, none⟩) ∧ F' = [(b, .cells #[.slice a (List.length l) c, .int .i64 0] 105)] ∧ BSl J l (.slice a (List.length l) c)) := by
  obtain ⟨rfl, -⟩ := hl.cap
  refine enterM_rule 7 [(0, .slice a l.length c)] Try.func44 rfl (by kernel_rfl) ?_
  intro w s
  refine wp_seq ?_
  refine region_rule ?_
  refine ops_rule (C := []) [] [] 1 [] 0 (fun φ1 => [(2, .pointer none)]) (fun φ1 => []) (fun φ1 => []) s trivial (fun φ1 => by kernel_rfl) ?_
  intro φ1 w1 s
  refine ops_done (by kernel_rfl) ?_
  refine wp_seq ?_
  refine region_rule ?_
  refine ops_rule (C := []) [] [] 1 [] 0 (fun φ2 => [(3, .slice a l.length c)]) (fun φ2 => []) (fun φ2 => []) s trivial (fun φ2 => by kernel_rfl) ?_
  intro φ2 w2 s
  refine call_rule (some 4) s (clone_c hl (by omega)) (by kernel_rfl) ?_
  intro v3 I3 w3 le3 h3 s
  replace hl := BSl.mono le3 hl
  obtain ⟨a3, c3, rfl, h3_0⟩ := h3
  refine ops_rule (C := []) [] [] 3 [] 1 (fun φ4 => [(2, .pointer (some ⟨(φ4 0), 0, none⟩)), (6, .pointer (some ⟨(φ4 0), 0, none⟩)), (5, .agg #[.slice a3 (List.length l) c3, .int .i64 0])]) (fun φ4 => [((φ4 0), .cells #[.slice a3 (List.length l) c3, .int .i64 0] 105)]) (fun φ4 => []) s trivial (fun φ4 => by kernel_rfl) ?_
  intro φ4 w4 s
  refine ops_done (by kernel_rfl) ?_
  refine wp_ret ?_
  refine ret_rule (C := []) [((φ4 0), .cells #[.slice a3 (List.length l) c3, .int .i64 0] 105)] [] (.pointer (some ⟨(φ4 0), 0, none⟩)) [] [] s trivial (by kernel_rfl) ?_
  exact ⟨_, _, _, rfl, s, ⟨_, _, _, rfl, rfl, h3_0⟩⟩

theorem errI_c {I : IM} {r e : Nat} {v0 : Value} : FunM Try.prog 55 #[.pointer (some ⟨r, 0, none⟩)] I [(r, .cells #[v0, .int .i64 ((e : Nat) : Int)] 105)] (fun v J H' => ∃ b' : OB, H' = [b'] ∧ b'.1 = r ∧ v = .int .i64 ((e : Nat) : Int) ∧ b' = (r, .cells #[v0, .int .i64 ((e : Nat) : Int)] 105)) := by
  refine enterM_rule 9 [(0, .pointer (some ⟨r, 0, none⟩))] Try.func55 rfl (by kernel_rfl) ?_
  intro w s
  refine wp_seq ?_
  refine region_rule ?_
  refine ops_rule (C := []) [(r, .cells #[v0, .int .i64 ((e : Nat) : Int)] 105)] [] 1 [] 0 (fun φ1 => [(2, .int .i64 0)]) (fun φ1 => [(r, .cells #[v0, .int .i64 ((e : Nat) : Int)] 105)]) (fun φ1 => []) s trivial (fun φ1 => by kernel_rfl) ?_
  intro φ1 w1 s
  refine ops_done (by kernel_rfl) ?_
  refine wp_seq ?_
  refine wp_seq ?_
  refine region_rule ?_
  refine ops_rule (C := []) [(r, .cells #[v0, .int .i64 ((e : Nat) : Int)] 105)] [] 2 [] 0 (fun φ2 => [(4, .bool false), (3, .pointer (some ⟨r, 0, none⟩))]) (fun φ2 => [(r, .cells #[v0, .int .i64 ((e : Nat) : Int)] 105)]) (fun φ2 => []) s trivial (fun φ2 => by kernel_rfl) ?_
  intro φ2 w2 s
  refine ops_done (by kernel_rfl) ?_
  refine cond_false_rule (b := false) (by kernel_rfl) rfl ?_
  refine wp_skip ?_
  refine wp_seq ?_
  refine region_rule ?_
  refine ops_rule (C := []) [(r, .cells #[v0, .int .i64 ((e : Nat) : Int)] 105)] [] 5 [.o 0] 0 (fun φ3 => [(2, .int .i64 ((e : Nat) : Int)), (8, .int .i64 ((e : Nat) : Int)), (7, .pointer (some ⟨r, 1, none⟩)), (6, .pointer (some ⟨r, 0, none⟩)), (5, .pointer (some ⟨r, 0, none⟩))]) (fun φ3 => [(r, .cells #[v0, .int .i64 ((e : Nat) : Int)] 105)]) (fun φ3 => [r]) s trivial (fun φ3 => by kernel_rfl) ?_
  intro φ3 w3 s
  refine ops_done (by kernel_rfl) ?_
  refine wp_ret ?_
  refine ret_rule (C := []) [(r, .cells #[v0, .int .i64 ((e : Nat) : Int)] 105)] [] (.int .i64 ((e : Nat) : Int)) [] [] s trivial (by kernel_rfl) ?_
  exact ⟨_, _, _, rfl, s, ⟨_, rfl, rfl, rfl, rfl⟩⟩

theorem leftI_c {I : IM} {r e k c : Nat} {a : Option Addr} : FunM Try.prog 56 #[.pointer (some ⟨r, 0, none⟩)] I [(r, .cells #[.slice a k c, .int .i64 ((e : Nat) : Int)] 105)] (fun v J H' => ∃ b' : OB, H' = [b'] ∧ b'.1 = r ∧ v = .int .i64 ((k : Nat) : Int) ∧ b' = (r, .cells #[.slice a k c, .int .i64 ((e : Nat) : Int)] 105)) := by
  refine enterM_rule 10 [(0, .pointer (some ⟨r, 0, none⟩))] Try.func56 rfl (by kernel_rfl) ?_
  intro w s
  refine wp_seq ?_
  refine region_rule ?_
  refine ops_rule (C := []) [(r, .cells #[.slice a k c, .int .i64 ((e : Nat) : Int)] 105)] [] 1 [] 0 (fun φ1 => [(2, .int .i64 0)]) (fun φ1 => [(r, .cells #[.slice a k c, .int .i64 ((e : Nat) : Int)] 105)]) (fun φ1 => []) s trivial (fun φ1 => by kernel_rfl) ?_
  intro φ1 w1 s
  refine ops_done (by kernel_rfl) ?_
  refine wp_seq ?_
  refine wp_seq ?_
  refine region_rule ?_
  refine ops_rule (C := []) [(r, .cells #[.slice a k c, .int .i64 ((e : Nat) : Int)] 105)] [] 2 [] 0 (fun φ2 => [(4, .bool false), (3, .pointer (some ⟨r, 0, none⟩))]) (fun φ2 => [(r, .cells #[.slice a k c, .int .i64 ((e : Nat) : Int)] 105)]) (fun φ2 => []) s trivial (fun φ2 => by kernel_rfl) ?_
  intro φ2 w2 s
  refine ops_done (by kernel_rfl) ?_
  refine cond_false_rule (b := false) (by kernel_rfl) rfl ?_
  refine wp_skip ?_
  refine wp_seq ?_
  refine region_rule ?_
  refine ops_rule (C := []) [(r, .cells #[.slice a k c, .int .i64 ((e : Nat) : Int)] 105)] [] 6 [.o 0] 0 (fun φ3 => [(2, .int .i64 ((k : Nat) : Int)), (9, .int .i64 ((k : Nat) : Int)), (8, .slice a k c), (7, .pointer (some ⟨r, 0, none⟩)), (6, .pointer (some ⟨r, 0, none⟩)), (5, .pointer (some ⟨r, 0, none⟩))]) (fun φ3 => [(r, .cells #[.slice a k c, .int .i64 ((e : Nat) : Int)] 105)]) (fun φ3 => [r]) s trivial (fun φ3 => by kernel_rfl) ?_
  intro φ3 w3 s
  refine ops_done (by kernel_rfl) ?_
  refine wp_ret ?_
  refine ret_rule (C := []) [(r, .cells #[.slice a k c, .int .i64 ((e : Nat) : Int)] 105)] [] (.int .i64 ((k : Nat) : Int)) [] [] s trivial (by kernel_rfl) ?_
  exact ⟨_, _, _, rfl, s, ⟨_, rfl, rfl, rfl, rfl⟩⟩

set_option maxHeartbeats 400000 in
theorem errI_nil {I : IM} : Fun Try.prog 55 #[.pointer none] I (fun v J => v = .int .i64 2) := by
  refine enter_rule 9 [(0, .pointer none)] Try.func55 rfl (by kernel_rfl) ?_
  intro w s
  refine wp_seq ?_
  refine region_rule ?_
  refine ops_rule (C := []) [] [] 1 [] 0 (fun φ1 => [(2, .int .i64 0)]) (fun φ1 => []) (fun φ1 => []) s trivial (fun φ1 => by kernel_rfl) ?_
  intro φ1 w1 s
  refine ops_done (by kernel_rfl) ?_
  refine wp_seq ?_
  refine wp_seq ?_
  refine region_rule ?_
  refine ops_rule (C := []) [] [] 2 [] 0 (fun φ2 => [(4, .bool true), (3, .pointer none)]) (fun φ2 => []) (fun φ2 => []) s trivial (fun φ2 => by kernel_rfl) ?_
  intro φ2 w2 s
  refine ops_done (by kernel_rfl) ?_
  refine cond_true_rule (b := true) (by kernel_rfl) rfl ?_
  refine wp_seq ?_
  refine region_rule ?_
  refine ops_rule (C := []) [] [] 1 [] 0 (fun φ3 => [(2, .int .i64 2)]) (fun φ3 => []) (fun φ3 => []) s trivial (fun φ3 => by kernel_rfl) ?_
  intro φ3 w3 s
  refine ops_done (by kernel_rfl) ?_
  refine wp_ret ?_
  refine ret_rule (C := []) [] [] (.int .i64 2) [] [] s trivial (by kernel_rfl) ?_
  exact ⟨_, _, _, rfl, s, rfl⟩

set_option maxHeartbeats 400000 in
theorem leftI_nil {I : IM} : Fun Try.prog 56 #[.pointer none] I (fun v J => v = .int .i64 0) := by
  refine enter_rule 10 [(0, .pointer none)] Try.func56 rfl (by kernel_rfl) ?_
  intro w s
  refine wp_seq ?_
  refine region_rule ?_
  refine ops_rule (C := []) [] [] 1 [] 0 (fun φ1 => [(2, .int .i64 0)]) (fun φ1 => []) (fun φ1 => []) s trivial (fun φ1 => by kernel_rfl) ?_
  intro φ1 w1 s
  refine ops_done (by kernel_rfl) ?_
  refine wp_seq ?_
  refine wp_seq ?_
  refine region_rule ?_
  refine ops_rule (C := []) [] [] 2 [] 0 (fun φ2 => [(4, .bool true), (3, .pointer none)]) (fun φ2 => []) (fun φ2 => []) s trivial (fun φ2 => by kernel_rfl) ?_
  intro φ2 w2 s
  refine ops_done (by kernel_rfl) ?_
  refine cond_true_rule (b := true) (by kernel_rfl) rfl ?_
  refine wp_seq ?_
  refine region_rule ?_
  refine ops_rule (C := []) [] [] 1 [] 0 (fun φ3 => [(2, .int .i64 0)]) (fun φ3 => []) (fun φ3 => []) s trivial (fun φ3 => by kernel_rfl) ?_
  intro φ3 w3 s
  refine ops_done (by kernel_rfl) ?_
  refine wp_ret ?_
  refine ret_rule (C := []) [] [] (.int .i64 0) [] [] s trivial (by kernel_rfl) ?_
  exact ⟨_, _, _, rfl, s, rfl⟩

set_option maxHeartbeats 400000 in
theorem fail_nil {I : IM} : Fun Try.prog 51 #[.pointer none, .int .i64 9] I (fun v J => v = .tuple #[]) := by
  refine enter_rule 11 [(0, .pointer none), (1, .int .i64 9)] Try.func51 rfl (by kernel_rfl) ?_
  intro w s
  refine wp_seq ?_
  refine region_rule ?_
  refine ops_rule (C := []) [] [] 1 [] 0 (fun φ1 => [(4, .pointer none)]) (fun φ1 => []) (fun φ1 => []) s trivial (fun φ1 => by kernel_rfl) ?_
  intro φ1 w1 s
  refine call_rule (some 5) s (errI_nil) (by kernel_rfl) ?_
  intro v2 I2 w2 le2 h2 s
  obtain rfl := h2
  refine ops_rule (C := []) [] [] 1 [] 0 (fun φ3 => [(6, .bool false)]) (fun φ3 => []) (fun φ3 => []) s trivial (fun φ3 => by kernel_rfl) ?_
  intro φ3 w3 s
  refine ops_done (by kernel_rfl) ?_
  refine cond_false_rule (b := false) (by kernel_rfl) rfl ?_
  refine wp_skip ?_
  refine end_rule (C := []) [] [] (.tuple #[]) [] [] s trivial (by kernel_rfl) ?_
  exact ⟨_, _, _, rfl, s, rfl⟩

set_option maxHeartbeats 400000 in
theorem byte_nil {I : IM} : Fun Try.prog 45 #[.pointer none] I (fun v J => v = .int .u8 0) := by
  refine enter_rule 31 [(0, .pointer none)] Try.func45 rfl (by kernel_rfl) ?_
  intro w s
  refine wp_seq ?_
  refine region_rule ?_
  refine ops_rule (C := []) [] [] 1 [] 0 (fun φ1 => [(2, .int .u8 0)]) (fun φ1 => []) (fun φ1 => []) s trivial (fun φ1 => by kernel_rfl) ?_
  intro φ1 w1 s
  refine ops_done (by kernel_rfl) ?_
  refine wp_seq ?_
  refine wp_seq ?_
  refine region_rule ?_
  refine ops_rule (C := []) [] [] 1 [] 0 (fun φ2 => [(4, .pointer none)]) (fun φ2 => []) (fun φ2 => []) s trivial (fun φ2 => by kernel_rfl) ?_
  intro φ2 w2 s
  refine call_rule (some 5) s (errI_nil) (by kernel_rfl) ?_
  intro v3 I3 w3 le3 h3 s
  obtain rfl := h3
  refine ops_rule (C := []) [] [] 1 [] 0 (fun φ4 => [(6, .bool true)]) (fun φ4 => []) (fun φ4 => []) s trivial (fun φ4 => by kernel_rfl) ?_
  intro φ4 w4 s
  refine ops_done (by kernel_rfl) ?_
  refine cond_true_rule (b := true) (by kernel_rfl) rfl ?_
  refine wp_seq ?_
  refine region_rule ?_
  refine ops_rule (C := []) [] [] 1 [] 0 (fun φ5 => [(2, .int .u8 0)]) (fun φ5 => []) (fun φ5 => []) s trivial (fun φ5 => by kernel_rfl) ?_
  intro φ5 w5 s
  refine ops_done (by kernel_rfl) ?_
  refine wp_ret ?_
  refine ret_rule (C := []) [] [] (.int .u8 0) [] [] s trivial (by kernel_rfl) ?_
  exact ⟨_, _, _, rfl, s, rfl⟩

set_option maxHeartbeats 400000 in
theorem numI_nil {I : IM} : Fun Try.prog 47 #[.pointer none] I (fun v J => v = .int .u64 0) := by
  refine enter_rule 31 [(0, .pointer none)] Try.func47 rfl (by kernel_rfl) ?_
  intro w s
  refine wp_seq ?_
  refine region_rule ?_
  refine ops_rule (C := []) [] [] 1 [] 0 (fun φ1 => [(2, .int .u64 0)]) (fun φ1 => []) (fun φ1 => []) s trivial (fun φ1 => by kernel_rfl) ?_
  intro φ1 w1 s
  refine ops_done (by kernel_rfl) ?_
  refine wp_seq ?_
  refine wp_seq ?_
  refine region_rule ?_
  refine ops_rule (C := []) [] [] 1 [] 0 (fun φ2 => [(5, .pointer none)]) (fun φ2 => []) (fun φ2 => []) s trivial (fun φ2 => by kernel_rfl) ?_
  intro φ2 w2 s
  refine call_rule (some 6) s (errI_nil) (by kernel_rfl) ?_
  intro v3 I3 w3 le3 h3 s
  obtain rfl := h3
  refine ops_rule (C := []) [] [] 1 [] 0 (fun φ4 => [(7, .bool true)]) (fun φ4 => []) (fun φ4 => []) s trivial (fun φ4 => by kernel_rfl) ?_
  intro φ4 w4 s
  refine ops_done (by kernel_rfl) ?_
  refine cond_true_rule (b := true) (by kernel_rfl) rfl ?_
  refine wp_seq ?_
  refine region_rule ?_
  refine ops_rule (C := []) [] [] 1 [] 0 (fun φ5 => [(2, .int .u64 0)]) (fun φ5 => []) (fun φ5 => []) s trivial (fun φ5 => by kernel_rfl) ?_
  intro φ5 w5 s
  refine ops_done (by kernel_rfl) ?_
  refine wp_ret ?_
  refine ret_rule (C := []) [] [] (.int .u64 0) [] [] s trivial (by kernel_rfl) ?_
  exact ⟨_, _, _, rfl, s, rfl⟩

set_option maxHeartbeats 400000 in
theorem textI_nil {I : IM} : Fun Try.prog 49 #[.pointer none, .int .i64 5] I (fun v J => v = .string ⟨#[]⟩) := by
  refine enter_rule 62 [(0, .pointer none), (1, .int .i64 5)] Try.func49 rfl (by kernel_rfl) ?_
  intro w s
  refine wp_seq ?_
  refine region_rule ?_
  refine ops_rule (C := []) [] [] 1 [] 0 (fun φ1 => [(4, .string ⟨#[]⟩)]) (fun φ1 => []) (fun φ1 => []) s trivial (fun φ1 => by kernel_rfl) ?_
  intro φ1 w1 s
  refine ops_done (by kernel_rfl) ?_
  refine wp_seq ?_
  refine wp_seq ?_
  refine region_rule ?_
  refine ops_rule (C := []) [] [] 1 [] 0 (fun φ2 => [(8, .pointer none)]) (fun φ2 => []) (fun φ2 => []) s trivial (fun φ2 => by kernel_rfl) ?_
  intro φ2 w2 s
  refine call_rule (some 9) s (errI_nil) (by kernel_rfl) ?_
  intro v3 I3 w3 le3 h3 s
  obtain rfl := h3
  refine ops_rule (C := []) [] [] 1 [] 0 (fun φ4 => [(10, .bool true)]) (fun φ4 => []) (fun φ4 => []) s trivial (fun φ4 => by kernel_rfl) ?_
  intro φ4 w4 s
  refine ops_done (by kernel_rfl) ?_
  refine cond_true_rule (b := true) (by kernel_rfl) rfl ?_
  refine wp_seq ?_
  refine region_rule ?_
  refine ops_rule (C := []) [] [] 1 [] 0 (fun φ5 => [(4, .string ⟨#[]⟩)]) (fun φ5 => []) (fun φ5 => []) s trivial (fun φ5 => by kernel_rfl) ?_
  intro φ5 w5 s
  refine ops_done (by kernel_rfl) ?_
  refine wp_ret ?_
  refine ret_rule (C := []) [] [] (.string ⟨#[]⟩) [] [] s trivial (by kernel_rfl) ?_
  exact ⟨_, _, _, rfl, s, rfl⟩

set_option maxHeartbeats 400000 in
theorem endI_nil {I : IM} : Fun Try.prog 53 #[.pointer none] I (fun v J => v = .int .i64 2) := by
  refine enter_rule 10 [(0, .pointer none)] Try.func53 rfl (by kernel_rfl) ?_
  intro w s
  refine wp_seq ?_
  refine region_rule ?_
  refine ops_rule (C := []) [] [] 1 [] 0 (fun φ1 => [(2, .int .i64 0)]) (fun φ1 => []) (fun φ1 => []) s trivial (fun φ1 => by kernel_rfl) ?_
  intro φ1 w1 s
  refine ops_done (by kernel_rfl) ?_
  refine wp_seq ?_
  refine wp_seq ?_
  refine region_rule ?_
  refine ops_rule (C := []) [] [] 1 [] 0 (fun φ2 => [(3, .pointer none)]) (fun φ2 => []) (fun φ2 => []) s trivial (fun φ2 => by kernel_rfl) ?_
  intro φ2 w2 s
  refine call_rule (some 4) s (leftI_nil) (by kernel_rfl) ?_
  intro v3 I3 w3 le3 h3 s
  obtain rfl := h3
  refine ops_rule (C := []) [] [] 1 [] 0 (fun φ4 => [(5, .bool false)]) (fun φ4 => []) (fun φ4 => []) s trivial (fun φ4 => by kernel_rfl) ?_
  intro φ4 w4 s
  refine ops_done (by kernel_rfl) ?_
  refine cond_false_rule (b := false) (by kernel_rfl) rfl ?_
  refine wp_skip ?_
  refine wp_seq ?_
  refine region_rule ?_
  refine ops_rule (C := []) [] [] 1 [] 0 (fun φ5 => [(8, .pointer none)]) (fun φ5 => []) (fun φ5 => []) s trivial (fun φ5 => by kernel_rfl) ?_
  intro φ5 w5 s
  refine call_rule (some 9) s (errI_nil) (by kernel_rfl) ?_
  intro v6 I6 w6 le6 h6 s
  obtain rfl := h6
  refine ops_rule (C := []) [] [] 1 [] 0 (fun φ7 => [(2, .int .i64 2)]) (fun φ7 => []) (fun φ7 => []) s trivial (fun φ7 => by kernel_rfl) ?_
  intro φ7 w7 s
  refine ops_done (by kernel_rfl) ?_
  refine wp_ret ?_
  refine ret_rule (C := []) [] [] (.int .i64 2) [] [] s trivial (by kernel_rfl) ?_
  exact ⟨_, _, _, rfl, s, rfl⟩

set_option maxHeartbeats 2000000 in
theorem numI_c {I : IM} {l rest : List UInt8} {a : Option Addr} {k c n r : Nat} (hl : BSl I l (.slice a k c)) (hn9 : l.length ≤ 1000000) (h : l = encF 9 n ++ rest) (hn : n < 18446744073709551616) : FunM Try.prog 47 #[.pointer (some ⟨r, 0, none⟩)] I [(r, .cells #[.slice a k c, .int .i64 0] 105)] (fun v J H' => ∃ b' : OB, H' = [b'] ∧ b'.1 = r ∧ ∃ (a' : Option Addr) (k' c' : Nat), v = .int .u64 ((n : Nat) : Int) ∧ b' = (r, .cells #[.slice a' k' c', .int .i64 0] 105) ∧ BSl J rest (.slice a' k' c')) := by
  obtain ⟨rfl, -⟩ := hl.cap
  refine enterM_rule 31 [(0, .pointer (some ⟨r, 0, none⟩))] Try.func47 rfl (by kernel_rfl) ?_
  intro w s
  refine wp_seq ?_
  refine region_rule ?_
  refine ops_rule (C := []) [(r, .cells #[.slice a l.length c, .int .i64 0] 105)] [] 1 [] 0 (fun φ1 => [(2, .int .u64 0)]) (fun φ1 => [(r, .cells #[.slice a l.length c, .int .i64 0] 105)]) (fun φ1 => []) s trivial (fun φ1 => by kernel_rfl) ?_
  intro φ1 w1 s
  refine ops_done (by kernel_rfl) ?_
  refine wp_seq ?_
  refine wp_seq ?_
  refine region_rule ?_
  refine ops_rule (C := []) [(r, .cells #[.slice a l.length c, .int .i64 0] 105)] [] 1 [] 0 (fun φ2 => [(5, .pointer (some ⟨r, 0, none⟩))]) (fun φ2 => [(r, .cells #[.slice a l.length c, .int .i64 0] 105)]) (fun φ2 => []) s trivial (fun φ2 => by kernel_rfl) ?_
  intro φ2 w2 s
  refine callB_rule (b := (r, .cells #[.slice a l.length c, .int .i64 0] 105)) (H := [(r, .cells #[.slice a l.length c, .int .i64 0] 105)]) (F := []) (Hr := []) (some 6) 0 s (by kernel_rfl) (by kernel_rfl) (errI_c (r := r) (v0 := .slice a l.length c) (e := 0)) (by kernel_rfl) ?_
  rintro v3 I3 w3 b3 le3 - h3 s
  replace hl := BSl.mono le3 hl
  obtain ⟨rfl, rfl⟩ := h3
  refine ops_rule (C := []) [(r, .cells #[.slice a l.length c, .int .i64 0] 105)] [] 1 [] 0 (fun φ4 => [(7, .bool false)]) (fun φ4 => [(r, .cells #[.slice a l.length c, .int .i64 0] 105)]) (fun φ4 => []) s trivial (fun φ4 => by kernel_rfl) ?_
  intro φ4 w4 s
  refine ops_done (by kernel_rfl) ?_
  refine cond_false_rule (b := false) (by kernel_rfl) rfl ?_
  refine wp_skip ?_
  refine wp_seq ?_
  refine region_rule ?_
  refine ops_rule (C := []) [(r, .cells #[.slice a l.length c, .int .i64 0] 105)] [] 4 [.o 0] 0 (fun φ5 => [(12, .slice a l.length c), (11, .pointer (some ⟨r, 0, none⟩)), (10, .pointer (some ⟨r, 0, none⟩)), (9, .pointer (some ⟨r, 0, none⟩))]) (fun φ5 => [(r, .cells #[.slice a l.length c, .int .i64 0] 105)]) (fun φ5 => [r]) s trivial (fun φ5 => by kernel_rfl) ?_
  intro φ5 w5 s
  refine call_rule (some 13) s (number_c hl (by omega) h hn) (by kernel_rfl) ?_
  intro v6 I6 w6 le6 h6 s
  replace hl := BSl.mono le6 hl
  obtain rfl := h6
  refine ops_rule (C := []) [(r, .cells #[.slice a l.length c, .int .i64 0] 105)] [] 5 [] 0 (fun φ7 => [(4, .int .i64 (((encF 9 n).length : Nat) : Int)), (3, .int .u64 ((n : Nat) : Int)), (15, .int .i64 (((encF 9 n).length : Nat) : Int)), (14, .int .u64 ((n : Nat) : Int)), (8, .tuple #[.int .u64 ((n : Nat) : Int), .int .i64 (((encF 9 n).length : Nat) : Int)])]) (fun φ7 => [(r, .cells #[.slice a l.length c, .int .i64 0] 105)]) (fun φ7 => []) s trivial (fun φ7 => by kernel_rfl) ?_
  intro φ7 w7 s
  refine ops_done (by kernel_rfl) ?_
  refine wp_seq ?_
  refine wp_seq ?_
  refine region_rule ?_
  refine ops_rule (C := []) [(r, .cells #[.slice a l.length c, .int .i64 0] 105)] [] 2 [] 0 (fun φ8 => [(17, .bool ((((encF 9 n).length : Nat) : Int) == ((0 : Nat) : Int))), (16, .int .i64 (((encF 9 n).length : Nat) : Int))]) (fun φ8 => [(r, .cells #[.slice a l.length c, .int .i64 0] 105)]) (fun φ8 => []) s trivial (fun φ8 => by kernel_rfl) ?_
  intro φ8 w8 s
  rw [nat_eql (a := ((encF 9 n).length)) (b := 0)]
  refine ops_done (by kernel_rfl) ?_
  rcases Bool.eq_false_or_eq_true (decide (((encF 9 n).length) = 0)) with hc9 | hc9
  ·
    exact absurd (of_decide_eq_true hc9) (by have := (encF_len 9 n).1; omega)
  ·
    rw [hc9]
    refine cond_false_rule (b := false) (by kernel_rfl) rfl ?_
    refine wp_skip ?_
    refine wp_seq ?_
    refine region_rule ?_
    refine ops_rule (C := []) [(r, .cells #[.slice a l.length c, .int .i64 0] 105)] [] 6 [.o 0] 0 (fun φ10 => [(26, .int .i64 (((encF 9 n).length : Nat) : Int)), (25, .slice a l.length c), (24, .pointer (some ⟨r, 0, none⟩)), (23, .pointer (some ⟨r, 0, none⟩)), (22, .pointer (some ⟨r, 0, none⟩)), (21, .pointer (some ⟨r, 0, none⟩))]) (fun φ10 => [(r, .cells #[.slice a l.length c, .int .i64 0] 105)]) (fun φ10 => [r]) s trivial (fun φ10 => by kernel_rfl) ?_
    intro φ10 w10 s
    refine sem_rule (Instr.sliceAt 34 (.slice a l.length c) (some (.int .i64 (((encF 9 n).length : Nat) : Int))) none none) (some 27) (.slice (subA a ((encF 9 n).length) c) (l.length - ((encF 9 n).length)) (c - ((encF 9 n).length))) (by kernel_rfl) (run_from (by have hcp := (BSl.cap hl).2; (try simp only [List.length_drop, List.length_take, List.length_append, List.length_cons, List.length_nil] at hcp ⊢); have hel := (encF_len 9 n).1; have hlen := congrArg List.length h; rw [List.length_append] at hlen; have hq0 := of_decide_eq_false hc9; (try simp only [List.length_drop, List.length_take, List.length_append, List.length_cons, List.length_nil]); omega)) ?_
    refine ops_rule (C := []) [(r, .cells #[.slice a l.length c, .int .i64 0] 105)] [] 3 [.o 0] 0 (fun φ11 => [(29, .pointer (some ⟨r, 0, none⟩)), (28, .pointer (some ⟨r, 0, none⟩))]) (fun φ11 => [(r, .cells #[.slice (subA a ((encF 9 n).length) c) (l.length - ((encF 9 n).length)) (c - ((encF 9 n).length)), .int .i64 0] 105)]) (fun φ11 => [r]) s trivial (fun φ11 => by kernel_rfl) ?_
    intro φ11 w11 s
    refine ops_done (by kernel_rfl) ?_
    refine wp_seq ?_
    refine region_rule ?_
    refine ops_rule (C := []) [(r, .cells #[.slice (subA a ((encF 9 n).length) c) (l.length - ((encF 9 n).length)) (c - ((encF 9 n).length)), .int .i64 0] 105)] [] 2 [] 0 (fun φ12 => [(2, .int .u64 ((n : Nat) : Int)), (30, .int .u64 ((n : Nat) : Int))]) (fun φ12 => [(r, .cells #[.slice (subA a ((encF 9 n).length) c) (l.length - ((encF 9 n).length)) (c - ((encF 9 n).length)), .int .i64 0] 105)]) (fun φ12 => []) s trivial (fun φ12 => by kernel_rfl) ?_
    intro φ12 w12 s
    refine ops_done (by kernel_rfl) ?_
    refine wp_ret ?_
    refine ret_rule (C := []) [(r, .cells #[.slice (subA a ((encF 9 n).length) c) (l.length - ((encF 9 n).length)) (c - ((encF 9 n).length)), .int .i64 0] 105)] [] (.int .u64 ((n : Nat) : Int)) [] [] s trivial (by kernel_rfl) ?_
    exact ⟨_, _, _, rfl, s, ⟨_, rfl, rfl, _, _, _, rfl, rfl, bsl_eq (bsl_from (lo := (encF 9 n).length) hl (by have hcp := (BSl.cap hl).2; (try simp only [List.length_drop, List.length_take, List.length_append, List.length_cons, List.length_nil] at hcp ⊢); have hel := (encF_len 9 n).1; have hlen := congrArg List.length h; rw [List.length_append] at hlen; have hq0 := of_decide_eq_false hc9; (try simp only [List.length_drop, List.length_take, List.length_append, List.length_cons, List.length_nil]); omega)) (by rw [h, List.drop_left])⟩⟩

set_option maxHeartbeats 2000000 in
theorem textI_c {I : IM} {l ss rest : List UInt8} {a : Option Addr} {k c n r : Nat} (hl : BSl I l (.slice a k c)) (hn9 : l.length ≤ 1000000) (h : l = encF 9 n ++ (ss ++ rest)) (hs : n = ss.length) (hs2 : n ≤ 200) (hn : n < 18446744073709551616) : FunM Try.prog 49 #[.pointer (some ⟨r, 0, none⟩), .int .i64 200] I [(r, .cells #[.slice a k c, .int .i64 0] 105)] (fun v J H' => ∃ b' : OB, H' = [b'] ∧ b'.1 = r ∧ ∃ (a' : Option Addr) (k' c' : Nat), v = .string ⟨(ss).toArray⟩ ∧ b' = (r, .cells #[.slice a' k' c', .int .i64 0] 105) ∧ BSl J rest (.slice a' k' c')) := by
  obtain ⟨rfl, -⟩ := hl.cap
  refine enterM_rule 62 [(0, .pointer (some ⟨r, 0, none⟩)), (1, .int .i64 200)] Try.func49 rfl (by kernel_rfl) ?_
  intro w s
  refine wp_seq ?_
  refine region_rule ?_
  refine ops_rule (C := []) [(r, .cells #[.slice a l.length c, .int .i64 0] 105)] [] 1 [] 0 (fun φ1 => [(4, .string ⟨#[]⟩)]) (fun φ1 => [(r, .cells #[.slice a l.length c, .int .i64 0] 105)]) (fun φ1 => []) s trivial (fun φ1 => by kernel_rfl) ?_
  intro φ1 w1 s
  refine ops_done (by kernel_rfl) ?_
  refine wp_seq ?_
  refine wp_seq ?_
  refine region_rule ?_
  refine ops_rule (C := []) [(r, .cells #[.slice a l.length c, .int .i64 0] 105)] [] 1 [] 0 (fun φ2 => [(8, .pointer (some ⟨r, 0, none⟩))]) (fun φ2 => [(r, .cells #[.slice a l.length c, .int .i64 0] 105)]) (fun φ2 => []) s trivial (fun φ2 => by kernel_rfl) ?_
  intro φ2 w2 s
  refine callB_rule (b := (r, .cells #[.slice a l.length c, .int .i64 0] 105)) (H := [(r, .cells #[.slice a l.length c, .int .i64 0] 105)]) (F := []) (Hr := []) (some 9) 0 s (by kernel_rfl) (by kernel_rfl) (errI_c (r := r) (v0 := .slice a l.length c) (e := 0)) (by kernel_rfl) ?_
  rintro v3 I3 w3 b3 le3 - h3 s
  replace hl := BSl.mono le3 hl
  obtain ⟨rfl, rfl⟩ := h3
  refine ops_rule (C := []) [(r, .cells #[.slice a l.length c, .int .i64 0] 105)] [] 1 [] 0 (fun φ4 => [(10, .bool false)]) (fun φ4 => [(r, .cells #[.slice a l.length c, .int .i64 0] 105)]) (fun φ4 => []) s trivial (fun φ4 => by kernel_rfl) ?_
  intro φ4 w4 s
  refine ops_done (by kernel_rfl) ?_
  refine cond_false_rule (b := false) (by kernel_rfl) rfl ?_
  refine wp_skip ?_
  refine wp_seq ?_
  refine region_rule ?_
  refine ops_rule (C := []) [(r, .cells #[.slice a l.length c, .int .i64 0] 105)] [] 4 [.o 0] 0 (fun φ5 => [(15, .slice a l.length c), (14, .pointer (some ⟨r, 0, none⟩)), (13, .pointer (some ⟨r, 0, none⟩)), (12, .pointer (some ⟨r, 0, none⟩))]) (fun φ5 => [(r, .cells #[.slice a l.length c, .int .i64 0] 105)]) (fun φ5 => [r]) s trivial (fun φ5 => by kernel_rfl) ?_
  intro φ5 w5 s
  refine call_rule (some 16) s (number_c hl (by omega) h hn) (by kernel_rfl) ?_
  intro v6 I6 w6 le6 h6 s
  replace hl := BSl.mono le6 hl
  obtain rfl := h6
  refine ops_rule (C := []) [(r, .cells #[.slice a l.length c, .int .i64 0] 105)] [] 5 [] 0 (fun φ7 => [(6, .int .i64 (((encF 9 n).length : Nat) : Int)), (5, .int .u64 ((n : Nat) : Int)), (18, .int .i64 (((encF 9 n).length : Nat) : Int)), (17, .int .u64 ((n : Nat) : Int)), (11, .tuple #[.int .u64 ((n : Nat) : Int), .int .i64 (((encF 9 n).length : Nat) : Int)])]) (fun φ7 => [(r, .cells #[.slice a l.length c, .int .i64 0] 105)]) (fun φ7 => []) s trivial (fun φ7 => by kernel_rfl) ?_
  intro φ7 w7 s
  refine ops_done (by kernel_rfl) ?_
  refine wp_seq ?_
  refine region_rule ?_
  refine ops_rule (C := []) [(r, .cells #[.slice a l.length c, .int .i64 0] 105)] [] 5 [.o 0] 0 (fun φ8 => [(23, .int .i64 (((encF 9 n).length : Nat) : Int)), (22, .slice a l.length c), (21, .pointer (some ⟨r, 0, none⟩)), (20, .pointer (some ⟨r, 0, none⟩)), (19, .pointer (some ⟨r, 0, none⟩))]) (fun φ8 => [(r, .cells #[.slice a l.length c, .int .i64 0] 105)]) (fun φ8 => [r]) s trivial (fun φ8 => by kernel_rfl) ?_
  intro φ8 w8 s
  refine sem_rule (Instr.sliceAt 34 (.slice a l.length c) (some (.int .i64 (((encF 9 n).length : Nat) : Int))) none none) (some 24) (.slice (subA a ((encF 9 n).length) c) (l.length - ((encF 9 n).length)) (c - ((encF 9 n).length))) (by kernel_rfl) (run_from (by have hcp := (BSl.cap hl).2; (try simp only [List.length_drop, List.length_take, List.length_append, List.length_cons, List.length_nil] at hcp ⊢); have hel := (encF_len 9 n).1; have hlen := congrArg List.length h; rw [List.length_append, List.length_append] at hlen;  (try simp only [List.length_drop, List.length_take, List.length_append, List.length_cons, List.length_nil]); omega)) ?_
  refine ops_rule (C := []) [(r, .cells #[.slice a l.length c, .int .i64 0] 105)] [] 1 [] 0 (fun φ9 => [(7, .slice (subA a ((encF 9 n).length) c) (l.length - ((encF 9 n).length)) (c - ((encF 9 n).length)))]) (fun φ9 => [(r, .cells #[.slice a l.length c, .int .i64 0] 105)]) (fun φ9 => []) s trivial (fun φ9 => by kernel_rfl) ?_
  intro φ9 w9 s
  refine ops_done (by kernel_rfl) ?_
  refine wp_seq ?_
  refine wp_block ?_
  refine wp_seq ?_
  refine region_rule ?_
  refine ops_rule (C := []) [(r, .cells #[.slice a l.length c, .int .i64 0] 105)] [] 3 [] 0 (fun φ10 => [(35, .bool ((((encF 9 n).length : Nat) : Int) == ((0 : Nat) : Int))), (37, .bool ((((encF 9 n).length : Nat) : Int) == ((0 : Nat) : Int))), (36, .int .i64 (((encF 9 n).length : Nat) : Int))]) (fun φ10 => [(r, .cells #[.slice a l.length c, .int .i64 0] 105)]) (fun φ10 => []) s trivial (fun φ10 => by kernel_rfl) ?_
  intro φ10 w10 s
  rw [nat_eql (a := ((encF 9 n).length)) (b := 0)]
  refine ops_done (by kernel_rfl) ?_
  rcases Bool.eq_false_or_eq_true (decide (((encF 9 n).length) = 0)) with hc11 | hc11
  ·
    exact absurd (of_decide_eq_true hc11) (by have := (encF_len 9 n).1; omega)
  ·
    rw [hc11]
    refine cond_false_rule (b := false) (by kernel_rfl) rfl ?_
    refine wp_seq ?_
    refine region_rule ?_
    refine ops_rule (C := []) [(r, .cells #[.slice a l.length c, .int .i64 0] 105)] [] 9 [] 0 (fun φ12 => [(41, .bool (decide (((n : Nat) : Int) > ((200 : Nat) : Int)))), (49, .bool (decide (((n : Nat) : Int) > ((200 : Nat) : Int)))), (48, .bool (decide (((n : Nat) : Int) > ((200 : Nat) : Int)))), (47, .int .u64 200), (46, .int .i64 200), (45, .int .u64 ((n : Nat) : Int)), (44, .bool false), (43, .bool false), (42, .int .i64 200)]) (fun φ12 => [(r, .cells #[.slice a l.length c, .int .i64 0] 105)]) (fun φ12 => []) s trivial (fun φ12 => by kernel_rfl) ?_
    intro φ12 w12 s
    rw [nat_gtr (a := n) (b := 200)]
    refine ops_done (by kernel_rfl) ?_
    rcases Bool.eq_false_or_eq_true (decide (200 < n)) with hc13 | hc13
    ·
      exact absurd (of_decide_eq_true hc13) (by omega)
    ·
      rw [hc13]
      refine cond_false_rule (b := false) (by kernel_rfl) rfl ?_
      refine wp_seq ?_
      refine region_rule ?_
      refine ops_rule (C := []) [(r, .cells #[.slice a l.length c, .int .i64 0] 105)] [] 6 [] 0 (fun φ14 => [(53, .bool (decide (((n : Nat) : Int) > (IntKind.wrap .u64 (((l.length - ((encF 9 n).length)) : Nat) : Int))))), (58, .bool (decide (((n : Nat) : Int) > (IntKind.wrap .u64 (((l.length - ((encF 9 n).length)) : Nat) : Int))))), (57, .int .u64 (IntKind.wrap .u64 (((l.length - ((encF 9 n).length)) : Nat) : Int))), (56, .int .i64 (((l.length - ((encF 9 n).length)) : Nat) : Int)), (55, .slice (subA a ((encF 9 n).length) c) (l.length - ((encF 9 n).length)) (c - ((encF 9 n).length))), (54, .int .u64 ((n : Nat) : Int))]) (fun φ14 => [(r, .cells #[.slice a l.length c, .int .i64 0] 105)]) (fun φ14 => []) s trivial (fun φ14 => by kernel_rfl) ?_
      intro φ14 w14 s
      rw [nat_wrapU (a := (l.length - ((encF 9 n).length))) (by have hel := (encF_len 9 n).1; have hlen := congrArg List.length h; rw [List.length_append, List.length_append] at hlen; have hq0 := of_decide_eq_false hc11; have hq1 := of_decide_eq_false hc13; (try simp only [List.length_drop, List.length_take, List.length_append, List.length_cons, List.length_nil]); omega)]
      rw [nat_gtr (a := n) (b := (l.length - ((encF 9 n).length)))]
      refine ops_done (by kernel_rfl) ?_
      rcases Bool.eq_false_or_eq_true (decide ((l.length - ((encF 9 n).length)) < n)) with hc15 | hc15
      ·
        exact absurd (of_decide_eq_true hc15) (by have hel := (encF_len 9 n).1; have hlen := congrArg List.length h; rw [List.length_append, List.length_append] at hlen; omega)
      ·
        rw [hc15]
        refine cond_false_rule (b := false) (by kernel_rfl) rfl ?_
        refine wp_seq ?_
        refine region_rule ?_
        refine ops_rule (C := []) [(r, .cells #[.slice a l.length c, .int .i64 0] 105)] [] 3 [] 0 (fun φ16 => [(27, .int .u64 ((n : Nat) : Int)), (26, .slice (subA a ((encF 9 n).length) c) (l.length - ((encF 9 n).length)) (c - ((encF 9 n).length))), (25, .pointer (some ⟨r, 0, none⟩))]) (fun φ16 => [(r, .cells #[.slice a l.length c, .int .i64 0] 105)]) (fun φ16 => []) s trivial (fun φ16 => by kernel_rfl) ?_
        intro φ16 w16 s
        refine sem_rule (Instr.sliceAt 34 (.slice (subA a ((encF 9 n).length) c) (l.length - ((encF 9 n).length)) (c - ((encF 9 n).length))) (some (.int .u64 ((n : Nat) : Int))) none none) (some 28) (.slice (subA (subA a ((encF 9 n).length) c) n (c - ((encF 9 n).length))) ((l.length - ((encF 9 n).length)) - n) ((c - ((encF 9 n).length)) - n)) (by kernel_rfl) (run_from (by have hcp := (BSl.cap (bsl_from (lo := (encF 9 n).length) hl (by have hcp := (BSl.cap hl).2; (try simp only [List.length_drop, List.length_take, List.length_append, List.length_cons, List.length_nil] at hcp ⊢); have hel := (encF_len 9 n).1; have hlen := congrArg List.length h; rw [List.length_append, List.length_append] at hlen;  (try simp only [List.length_drop, List.length_take, List.length_append, List.length_cons, List.length_nil]); omega))).2; (try simp only [List.length_drop, List.length_take, List.length_append, List.length_cons, List.length_nil] at hcp ⊢); have hel := (encF_len 9 n).1; have hlen := congrArg List.length h; rw [List.length_append, List.length_append] at hlen; have hq0 := of_decide_eq_false hc11; have hq1 := of_decide_eq_false hc13; have hq2 := of_decide_eq_false hc15; omega)) ?_
        refine ops_rule (C := []) [(r, .cells #[.slice a l.length c, .int .i64 0] 105)] [] 3 [.o 0] 0 (fun φ17 => [(30, .pointer (some ⟨r, 0, none⟩)), (29, .pointer (some ⟨r, 0, none⟩))]) (fun φ17 => [(r, .cells #[.slice (subA (subA a ((encF 9 n).length) c) n (c - ((encF 9 n).length))) ((l.length - ((encF 9 n).length)) - n) ((c - ((encF 9 n).length)) - n), .int .i64 0] 105)]) (fun φ17 => [r]) s trivial (fun φ17 => by kernel_rfl) ?_
        intro φ17 w17 s
        refine ops_done (by kernel_rfl) ?_
        refine wp_seq ?_
        refine region_rule ?_
        refine ops_rule (C := []) [(r, .cells #[.slice (subA (subA a ((encF 9 n).length) c) n (c - ((encF 9 n).length))) ((l.length - ((encF 9 n).length)) - n) ((c - ((encF 9 n).length)) - n), .int .i64 0] 105)] [] 2 [] 0 (fun φ18 => [(32, .int .u64 ((n : Nat) : Int)), (31, .slice (subA a ((encF 9 n).length) c) (l.length - ((encF 9 n).length)) (c - ((encF 9 n).length)))]) (fun φ18 => [(r, .cells #[.slice (subA (subA a ((encF 9 n).length) c) n (c - ((encF 9 n).length))) ((l.length - ((encF 9 n).length)) - n) ((c - ((encF 9 n).length)) - n), .int .i64 0] 105)]) (fun φ18 => []) s trivial (fun φ18 => by kernel_rfl) ?_
        intro φ18 w18 s
        refine sem_rule (Instr.sliceAt 34 (.slice (subA a ((encF 9 n).length) c) (l.length - ((encF 9 n).length)) (c - ((encF 9 n).length))) none (some (.int .u64 ((n : Nat) : Int))) none) (some 33) (.slice (subA a ((encF 9 n).length) c) n (c - ((encF 9 n).length))) (by kernel_rfl) (run_to (by have hcp := (BSl.cap (bsl_from (lo := (encF 9 n).length) hl (by have hcp := (BSl.cap hl).2; (try simp only [List.length_drop, List.length_take, List.length_append, List.length_cons, List.length_nil] at hcp ⊢); have hel := (encF_len 9 n).1; have hlen := congrArg List.length h; rw [List.length_append, List.length_append] at hlen;  (try simp only [List.length_drop, List.length_take, List.length_append, List.length_cons, List.length_nil]); omega))).2; (try simp only [List.length_drop, List.length_take, List.length_append, List.length_cons, List.length_nil] at hcp ⊢); have hel := (encF_len 9 n).1; have hlen := congrArg List.length h; rw [List.length_append, List.length_append] at hlen; have hq0 := of_decide_eq_false hc11; have hq1 := of_decide_eq_false hc13; have hq2 := of_decide_eq_false hc15; omega)) ?_
        refine sem_rule (convert 34 9 (.slice (subA a ((encF 9 n).length) c) n (c - ((encF 9 n).length)))) (some 34) (.string ⟨(((l.drop ((encF 9 n).length)).take n)).toArray⟩) (by kernel_rfl) (run_b2s s.sub (bsl_to (hi := n) (bsl_from (lo := (encF 9 n).length) hl (by have hcp := (BSl.cap hl).2; (try simp only [List.length_drop, List.length_take, List.length_append, List.length_cons, List.length_nil] at hcp ⊢); have hel := (encF_len 9 n).1; have hlen := congrArg List.length h; rw [List.length_append, List.length_append] at hlen;  (try simp only [List.length_drop, List.length_take, List.length_append, List.length_cons, List.length_nil]); omega)) (by have hcp := (BSl.cap (bsl_from (lo := (encF 9 n).length) hl (by have hcp := (BSl.cap hl).2; (try simp only [List.length_drop, List.length_take, List.length_append, List.length_cons, List.length_nil] at hcp ⊢); have hel := (encF_len 9 n).1; have hlen := congrArg List.length h; rw [List.length_append, List.length_append] at hlen;  (try simp only [List.length_drop, List.length_take, List.length_append, List.length_cons, List.length_nil]); omega))).2; (try simp only [List.length_drop, List.length_take, List.length_append, List.length_cons, List.length_nil] at hcp ⊢); have hel := (encF_len 9 n).1; have hlen := congrArg List.length h; rw [List.length_append, List.length_append] at hlen; have hq0 := of_decide_eq_false hc11; have hq1 := of_decide_eq_false hc13; have hq2 := of_decide_eq_false hc15; omega))) ?_
        refine ops_rule (C := []) [(r, .cells #[.slice (subA (subA a ((encF 9 n).length) c) n (c - ((encF 9 n).length))) ((l.length - ((encF 9 n).length)) - n) ((c - ((encF 9 n).length)) - n), .int .i64 0] 105)] [] 1 [] 0 (fun φ19 => [(4, .string ⟨(((l.drop ((encF 9 n).length)).take n)).toArray⟩)]) (fun φ19 => [(r, .cells #[.slice (subA (subA a ((encF 9 n).length) c) n (c - ((encF 9 n).length))) ((l.length - ((encF 9 n).length)) - n) ((c - ((encF 9 n).length)) - n), .int .i64 0] 105)]) (fun φ19 => []) s trivial (fun φ19 => by kernel_rfl) ?_
        intro φ19 w19 s
        refine ops_done (by kernel_rfl) ?_
        refine wp_ret ?_
        refine ret_rule (C := []) [(r, .cells #[.slice (subA (subA a ((encF 9 n).length) c) n (c - ((encF 9 n).length))) ((l.length - ((encF 9 n).length)) - n) ((c - ((encF 9 n).length)) - n), .int .i64 0] 105)] [] (.string ⟨(((l.drop ((encF 9 n).length)).take n)).toArray⟩) [] [] s trivial (by kernel_rfl) ?_
        exact ⟨_, _, _, rfl, s, ⟨_, rfl, rfl, _, _, _, by rw [h, List.drop_left, hs, List.take_left], rfl, bsl_eq (bsl_from (lo := n) (bsl_from (lo := (encF 9 n).length) hl (by have hcp := (BSl.cap hl).2; (try simp only [List.length_drop, List.length_take, List.length_append, List.length_cons, List.length_nil] at hcp ⊢); have hel := (encF_len 9 n).1; have hlen := congrArg List.length h; rw [List.length_append, List.length_append] at hlen;  (try simp only [List.length_drop, List.length_take, List.length_append, List.length_cons, List.length_nil]); omega)) (by have hcp := (BSl.cap (bsl_from (lo := (encF 9 n).length) hl (by have hcp := (BSl.cap hl).2; (try simp only [List.length_drop, List.length_take, List.length_append, List.length_cons, List.length_nil] at hcp ⊢); have hel := (encF_len 9 n).1; have hlen := congrArg List.length h; rw [List.length_append, List.length_append] at hlen;  (try simp only [List.length_drop, List.length_take, List.length_append, List.length_cons, List.length_nil]); omega))).2; (try simp only [List.length_drop, List.length_take, List.length_append, List.length_cons, List.length_nil] at hcp ⊢); have hel := (encF_len 9 n).1; have hlen := congrArg List.length h; rw [List.length_append, List.length_append] at hlen; have hq0 := of_decide_eq_false hc11; have hq1 := of_decide_eq_false hc13; have hq2 := of_decide_eq_false hc15; omega)) (by rw [h, List.drop_left, hs, List.drop_left])⟩⟩

theorem endI_c {I : IM} {r c : Nat} {a : Option Addr} : FunM Try.prog 53 #[.pointer (some ⟨r, 0, none⟩)] I [(r, .cells #[.slice a 0 c, .int .i64 0] 105)] (fun v J H' => ∃ b' : OB, H' = [b'] ∧ b'.1 = r ∧ v = .int .i64 0 ∧ b' = (r, .cells #[.slice a 0 c, .int .i64 0] 105)) := by
  refine enterM_rule 10 [(0, .pointer (some ⟨r, 0, none⟩))] Try.func53 rfl (by kernel_rfl) ?_
  intro w s
  refine wp_seq ?_
  refine region_rule ?_
  refine ops_rule (C := []) [(r, .cells #[.slice a 0 c, .int .i64 0] 105)] [] 1 [] 0 (fun φ1 => [(2, .int .i64 0)]) (fun φ1 => [(r, .cells #[.slice a 0 c, .int .i64 0] 105)]) (fun φ1 => []) s trivial (fun φ1 => by kernel_rfl) ?_
  intro φ1 w1 s
  refine ops_done (by kernel_rfl) ?_
  refine wp_seq ?_
  refine wp_seq ?_
  refine region_rule ?_
  refine ops_rule (C := []) [(r, .cells #[.slice a 0 c, .int .i64 0] 105)] [] 1 [] 0 (fun φ2 => [(3, .pointer (some ⟨r, 0, none⟩))]) (fun φ2 => [(r, .cells #[.slice a 0 c, .int .i64 0] 105)]) (fun φ2 => []) s trivial (fun φ2 => by kernel_rfl) ?_
  intro φ2 w2 s
  refine callB_rule (b := (r, .cells #[.slice a 0 c, .int .i64 0] 105)) (H := [(r, .cells #[.slice a 0 c, .int .i64 0] 105)]) (F := []) (Hr := []) (some 4) 0 s (by kernel_rfl) (by kernel_rfl) (leftI_c (r := r) (a := a) (k := 0) (c := c) (e := 0)) (by kernel_rfl) ?_
  rintro v3 I3 w3 b3 le3 - h3 s
  obtain ⟨rfl, rfl⟩ := h3
  refine ops_rule (C := []) [(r, .cells #[.slice a 0 c, .int .i64 0] 105)] [] 1 [] 0 (fun φ4 => [(5, .bool false)]) (fun φ4 => [(r, .cells #[.slice a 0 c, .int .i64 0] 105)]) (fun φ4 => []) s trivial (fun φ4 => by kernel_rfl) ?_
  intro φ4 w4 s
  refine ops_done (by kernel_rfl) ?_
  refine cond_false_rule (b := false) (by kernel_rfl) rfl ?_
  refine wp_skip ?_
  refine wp_seq ?_
  refine region_rule ?_
  refine ops_rule (C := []) [(r, .cells #[.slice a 0 c, .int .i64 0] 105)] [] 1 [] 0 (fun φ5 => [(8, .pointer (some ⟨r, 0, none⟩))]) (fun φ5 => [(r, .cells #[.slice a 0 c, .int .i64 0] 105)]) (fun φ5 => []) s trivial (fun φ5 => by kernel_rfl) ?_
  intro φ5 w5 s
  refine callB_rule (b := (r, .cells #[.slice a 0 c, .int .i64 0] 105)) (H := [(r, .cells #[.slice a 0 c, .int .i64 0] 105)]) (F := []) (Hr := []) (some 9) 0 s (by kernel_rfl) (by kernel_rfl) (errI_c (r := r) (v0 := .slice a 0 c) (e := 0)) (by kernel_rfl) ?_
  rintro v6 I6 w6 b6 le6 - h6 s
  obtain ⟨rfl, rfl⟩ := h6
  refine ops_rule (C := []) [(r, .cells #[.slice a 0 c, .int .i64 0] 105)] [] 1 [] 0 (fun φ7 => [(2, .int .i64 0)]) (fun φ7 => [(r, .cells #[.slice a 0 c, .int .i64 0] 105)]) (fun φ7 => []) s trivial (fun φ7 => by kernel_rfl) ?_
  intro φ7 w7 s
  refine ops_done (by kernel_rfl) ?_
  refine wp_ret ?_
  refine ret_rule (C := []) [(r, .cells #[.slice a 0 c, .int .i64 0] 105)] [] (.int .i64 0) [] [] s trivial (by kernel_rfl) ?_
  exact ⟨_, _, _, rfl, s, ⟨_, rfl, rfl, rfl, rfl⟩⟩

end Go.Proofs.Ytpnlaeapnokipaa
