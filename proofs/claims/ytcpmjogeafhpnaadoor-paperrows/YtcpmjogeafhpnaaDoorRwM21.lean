/- A field, right or not: the program's. -/
import Derived.Test.YtcpmjogeafhpnaaDoorRwM20
import Derived.Test.YtcpmjogeafhpnaaDoorRwM19
import Derived.Test.YtcpmjogeafhpnaaDoorRwM17
import Derived.Test.YtcpmjogeafhpnaaDoorRwM16
import Derived.Laws.StructEq
set_option linter.all false
set_option maxRecDepth 100000
namespace Go.Proofs.YtcpmjogeafhpnaaDoor.Tx
open Go.RowKit Go.Sep
attribute [local irreducible] Go.wpList Go.Code.wp

def nmL : List (List UInt8) := [[], [110, 97, 109, 101], [112, 104, 111, 110, 101], [109, 97, 105, 108], [97, 100, 100, 114, 101, 115, 115], [110, 111, 116, 101], [103, 114, 111, 117, 112]]
/-- a kind's name -/
def nmS (z : Int) : List UInt8 := if 0 ≤ z ∧ z < 7 then nmL.getD z.toNat [] else []
theorem nm_nil {z : Int} : nmS z = [] ↔ ¬ (1 ≤ z ∧ z ≤ 6) := by
  unfold nmS
  by_cases h : 0 ≤ z ∧ z < 7
  · rw [if_pos h]
    have : z = 0 ∨ z = 1 ∨ z = 2 ∨ z = 3 ∨ z = 4 ∨ z = 5 ∨ z = 6 := by omega
    rcases this with rfl | rfl | rfl | rfl | rfl | rfl | rfl <;> decide
  · rw [if_neg h]; exact ⟨fun _ => by omega, fun _ => rfl⟩
/-- the names of the kinds, as they are laid -/
def NmT (I : IM) : Prop := ∃ cs T fr, I 0 = some (.cells cs T fr) ∧ ∀ i, i < 7 → cs[i]? = some (.string ⟨(nmL.getD i []).toArray⟩)
theorem NmT.mono {I J : IM} (le : I.Le J) (h : NmT I) : NmT J := by
  obtain ⟨cs, T, fr, h1, h2⟩ := h
  exact ⟨cs, T, fr, le _ _ h1, h2⟩
theorem nm_ld {I : IM} {w : World} (hs : I.Sub w) (h : NmT I) (i : Nat) (hi : i < 7) : (Instr.loadAt 9 (.pointer (some ⟨0, i, none⟩))).run Tryd.prog w = .ok (.string ⟨(nmL.getD i []).toArray⟩) w := by
  obtain ⟨cs, T, fr, h1, h2⟩ := h
  have c1 := run_cell (a := ⟨0, i, none⟩) (hs _ _ h1) rfl rfl
  rw [h2 i hi] at c1
  have e : (Instr.loadAt 9 (.pointer (some ⟨0, i, none⟩))).run Tryd.prog w = (load ⟨0, i, none⟩).run Tryd.prog w := by kernel_rfl
  rw [e]; simp only [load, Sem.run, c1]

theorem semlem0 {w : World} : (Instr.indexAt 98 (.pointer (some ⟨0, 0, none⟩)) (.int .i64 0)).run Tryd.prog w = .ok (.pointer (some ⟨0, 0, none⟩)) w := by kernel_rfl
set_option maxHeartbeats 1000000 in
theorem kindName0_c {I : IM} (hN : NmT I) : Fun Tryd.prog 27 #[.int .i64 0] I (fun v J => v = .string ⟨([] : List UInt8).toArray⟩) := by
 refine enter_rule 12 [(0, .int .i64 0)] Tryd.func27 rfl (by kernel_rfl) ?_
 intro w s
 refine seqR ?_
 refine ops_rule (C := []) [] [] 1 [] 0 (fun φ1 => [(2, .string ⟨#[]⟩)]) (fun φ1 => []) (fun φ1 => []) s trivial (fun φ1 => by kernel_rfl) ?_
 intro φ1 w1 s
 refine ops_done (by kernel_rfl) ?_
 refine wp_seq ?_
 refine seqR ?_
 refine ops_rule (C := []) [] [] 6 [] 0 (fun φ2 => [(8, .bool false), (7, .bool false), (6, .int .i64 0), (5, .bool false), (4, .bool false), (3, .int .i64 0)]) (fun φ2 => []) (fun φ2 => []) s trivial (fun φ2 => by kernel_rfl) ?_
 intro φ2 w2 s
 refine ops_done (by kernel_rfl) ?_
 refine cond_false_rule (b := false) (by kernel_rfl) rfl ?_
 refine wp_skip ?_
 refine seqR ?_
 refine ops_rule (C := []) [] [] 1 [] 0 (fun φ3 => [(9, .int .i64 0)]) (fun φ3 => []) (fun φ3 => []) s trivial (fun φ3 => by kernel_rfl) ?_
 intro φ3 w3 s
 refine sem_rule (Instr.indexAt 98 (.pointer (some ⟨0, 0, none⟩)) (.int .i64 0)) (some 10) (.pointer (some ⟨0, 0, none⟩)) (by kernel_rfl) (semlem0) ?_
 refine sem_rule (Instr.loadAt 9 (.pointer (some ⟨0, 0, none⟩))) (some 11) (.string ⟨#[]⟩) (by kernel_rfl) (nm_ld s.sub hN 0 (by decide)) ?_
 refine ops_rule (C := []) [] [] 1 [] 0 (fun φ4 => [(2, .string ⟨#[]⟩)]) (fun φ4 => []) (fun φ4 => []) s trivial (fun φ4 => by kernel_rfl) ?_
 intro φ4 w4 s
 refine ops_done (by kernel_rfl) ?_
 refine wp_ret ?_
 refine ret_rule (C := []) [] [] (.string ⟨#[]⟩) [] [] s trivial (by kernel_rfl) ?_
 exact ⟨_, _, _, rfl, s, rfl⟩

theorem semlem1 {w : World} : (Instr.indexAt 98 (.pointer (some ⟨0, 0, none⟩)) (.int .i64 1)).run Tryd.prog w = .ok (.pointer (some ⟨0, 1, none⟩)) w := by kernel_rfl
set_option maxHeartbeats 1000000 in
theorem kindName1_c {I : IM} (hN : NmT I) : Fun Tryd.prog 27 #[.int .i64 1] I (fun v J => v = .string ⟨([110, 97, 109, 101] : List UInt8).toArray⟩) := by
 refine enter_rule 12 [(0, .int .i64 1)] Tryd.func27 rfl (by kernel_rfl) ?_
 intro w s
 refine seqR ?_
 refine ops_rule (C := []) [] [] 1 [] 0 (fun φ1 => [(2, .string ⟨#[]⟩)]) (fun φ1 => []) (fun φ1 => []) s trivial (fun φ1 => by kernel_rfl) ?_
 intro φ1 w1 s
 refine ops_done (by kernel_rfl) ?_
 refine wp_seq ?_
 refine seqR ?_
 refine ops_rule (C := []) [] [] 6 [] 0 (fun φ2 => [(8, .bool false), (7, .bool false), (6, .int .i64 1), (5, .bool false), (4, .bool false), (3, .int .i64 1)]) (fun φ2 => []) (fun φ2 => []) s trivial (fun φ2 => by kernel_rfl) ?_
 intro φ2 w2 s
 refine ops_done (by kernel_rfl) ?_
 refine cond_false_rule (b := false) (by kernel_rfl) rfl ?_
 refine wp_skip ?_
 refine seqR ?_
 refine ops_rule (C := []) [] [] 1 [] 0 (fun φ3 => [(9, .int .i64 1)]) (fun φ3 => []) (fun φ3 => []) s trivial (fun φ3 => by kernel_rfl) ?_
 intro φ3 w3 s
 refine sem_rule (Instr.indexAt 98 (.pointer (some ⟨0, 0, none⟩)) (.int .i64 1)) (some 10) (.pointer (some ⟨0, 1, none⟩)) (by kernel_rfl) (semlem1) ?_
 refine sem_rule (Instr.loadAt 9 (.pointer (some ⟨0, 1, none⟩))) (some 11) (.string ⟨#[110, 97, 109, 101]⟩) (by kernel_rfl) (nm_ld s.sub hN 1 (by decide)) ?_
 refine ops_rule (C := []) [] [] 1 [] 0 (fun φ4 => [(2, .string ⟨#[110, 97, 109, 101]⟩)]) (fun φ4 => []) (fun φ4 => []) s trivial (fun φ4 => by kernel_rfl) ?_
 intro φ4 w4 s
 refine ops_done (by kernel_rfl) ?_
 refine wp_ret ?_
 refine ret_rule (C := []) [] [] (.string ⟨#[110, 97, 109, 101]⟩) [] [] s trivial (by kernel_rfl) ?_
 exact ⟨_, _, _, rfl, s, rfl⟩

theorem semlem2 {w : World} : (Instr.indexAt 98 (.pointer (some ⟨0, 0, none⟩)) (.int .i64 2)).run Tryd.prog w = .ok (.pointer (some ⟨0, 2, none⟩)) w := by kernel_rfl
set_option maxHeartbeats 1000000 in
theorem kindName2_c {I : IM} (hN : NmT I) : Fun Tryd.prog 27 #[.int .i64 2] I (fun v J => v = .string ⟨([112, 104, 111, 110, 101] : List UInt8).toArray⟩) := by
 refine enter_rule 12 [(0, .int .i64 2)] Tryd.func27 rfl (by kernel_rfl) ?_
 intro w s
 refine seqR ?_
 refine ops_rule (C := []) [] [] 1 [] 0 (fun φ1 => [(2, .string ⟨#[]⟩)]) (fun φ1 => []) (fun φ1 => []) s trivial (fun φ1 => by kernel_rfl) ?_
 intro φ1 w1 s
 refine ops_done (by kernel_rfl) ?_
 refine wp_seq ?_
 refine seqR ?_
 refine ops_rule (C := []) [] [] 6 [] 0 (fun φ2 => [(8, .bool false), (7, .bool false), (6, .int .i64 2), (5, .bool false), (4, .bool false), (3, .int .i64 2)]) (fun φ2 => []) (fun φ2 => []) s trivial (fun φ2 => by kernel_rfl) ?_
 intro φ2 w2 s
 refine ops_done (by kernel_rfl) ?_
 refine cond_false_rule (b := false) (by kernel_rfl) rfl ?_
 refine wp_skip ?_
 refine seqR ?_
 refine ops_rule (C := []) [] [] 1 [] 0 (fun φ3 => [(9, .int .i64 2)]) (fun φ3 => []) (fun φ3 => []) s trivial (fun φ3 => by kernel_rfl) ?_
 intro φ3 w3 s
 refine sem_rule (Instr.indexAt 98 (.pointer (some ⟨0, 0, none⟩)) (.int .i64 2)) (some 10) (.pointer (some ⟨0, 2, none⟩)) (by kernel_rfl) (semlem2) ?_
 refine sem_rule (Instr.loadAt 9 (.pointer (some ⟨0, 2, none⟩))) (some 11) (.string ⟨#[112, 104, 111, 110, 101]⟩) (by kernel_rfl) (nm_ld s.sub hN 2 (by decide)) ?_
 refine ops_rule (C := []) [] [] 1 [] 0 (fun φ4 => [(2, .string ⟨#[112, 104, 111, 110, 101]⟩)]) (fun φ4 => []) (fun φ4 => []) s trivial (fun φ4 => by kernel_rfl) ?_
 intro φ4 w4 s
 refine ops_done (by kernel_rfl) ?_
 refine wp_ret ?_
 refine ret_rule (C := []) [] [] (.string ⟨#[112, 104, 111, 110, 101]⟩) [] [] s trivial (by kernel_rfl) ?_
 exact ⟨_, _, _, rfl, s, rfl⟩

theorem semlem3 {w : World} : (Instr.indexAt 98 (.pointer (some ⟨0, 0, none⟩)) (.int .i64 3)).run Tryd.prog w = .ok (.pointer (some ⟨0, 3, none⟩)) w := by kernel_rfl
set_option maxHeartbeats 1000000 in
theorem kindName3_c {I : IM} (hN : NmT I) : Fun Tryd.prog 27 #[.int .i64 3] I (fun v J => v = .string ⟨([109, 97, 105, 108] : List UInt8).toArray⟩) := by
 refine enter_rule 12 [(0, .int .i64 3)] Tryd.func27 rfl (by kernel_rfl) ?_
 intro w s
 refine seqR ?_
 refine ops_rule (C := []) [] [] 1 [] 0 (fun φ1 => [(2, .string ⟨#[]⟩)]) (fun φ1 => []) (fun φ1 => []) s trivial (fun φ1 => by kernel_rfl) ?_
 intro φ1 w1 s
 refine ops_done (by kernel_rfl) ?_
 refine wp_seq ?_
 refine seqR ?_
 refine ops_rule (C := []) [] [] 6 [] 0 (fun φ2 => [(8, .bool false), (7, .bool false), (6, .int .i64 3), (5, .bool false), (4, .bool false), (3, .int .i64 3)]) (fun φ2 => []) (fun φ2 => []) s trivial (fun φ2 => by kernel_rfl) ?_
 intro φ2 w2 s
 refine ops_done (by kernel_rfl) ?_
 refine cond_false_rule (b := false) (by kernel_rfl) rfl ?_
 refine wp_skip ?_
 refine seqR ?_
 refine ops_rule (C := []) [] [] 1 [] 0 (fun φ3 => [(9, .int .i64 3)]) (fun φ3 => []) (fun φ3 => []) s trivial (fun φ3 => by kernel_rfl) ?_
 intro φ3 w3 s
 refine sem_rule (Instr.indexAt 98 (.pointer (some ⟨0, 0, none⟩)) (.int .i64 3)) (some 10) (.pointer (some ⟨0, 3, none⟩)) (by kernel_rfl) (semlem3) ?_
 refine sem_rule (Instr.loadAt 9 (.pointer (some ⟨0, 3, none⟩))) (some 11) (.string ⟨#[109, 97, 105, 108]⟩) (by kernel_rfl) (nm_ld s.sub hN 3 (by decide)) ?_
 refine ops_rule (C := []) [] [] 1 [] 0 (fun φ4 => [(2, .string ⟨#[109, 97, 105, 108]⟩)]) (fun φ4 => []) (fun φ4 => []) s trivial (fun φ4 => by kernel_rfl) ?_
 intro φ4 w4 s
 refine ops_done (by kernel_rfl) ?_
 refine wp_ret ?_
 refine ret_rule (C := []) [] [] (.string ⟨#[109, 97, 105, 108]⟩) [] [] s trivial (by kernel_rfl) ?_
 exact ⟨_, _, _, rfl, s, rfl⟩

theorem semlem4 {w : World} : (Instr.indexAt 98 (.pointer (some ⟨0, 0, none⟩)) (.int .i64 4)).run Tryd.prog w = .ok (.pointer (some ⟨0, 4, none⟩)) w := by kernel_rfl
set_option maxHeartbeats 1000000 in
theorem kindName4_c {I : IM} (hN : NmT I) : Fun Tryd.prog 27 #[.int .i64 4] I (fun v J => v = .string ⟨([97, 100, 100, 114, 101, 115, 115] : List UInt8).toArray⟩) := by
 refine enter_rule 12 [(0, .int .i64 4)] Tryd.func27 rfl (by kernel_rfl) ?_
 intro w s
 refine seqR ?_
 refine ops_rule (C := []) [] [] 1 [] 0 (fun φ1 => [(2, .string ⟨#[]⟩)]) (fun φ1 => []) (fun φ1 => []) s trivial (fun φ1 => by kernel_rfl) ?_
 intro φ1 w1 s
 refine ops_done (by kernel_rfl) ?_
 refine wp_seq ?_
 refine seqR ?_
 refine ops_rule (C := []) [] [] 6 [] 0 (fun φ2 => [(8, .bool false), (7, .bool false), (6, .int .i64 4), (5, .bool false), (4, .bool false), (3, .int .i64 4)]) (fun φ2 => []) (fun φ2 => []) s trivial (fun φ2 => by kernel_rfl) ?_
 intro φ2 w2 s
 refine ops_done (by kernel_rfl) ?_
 refine cond_false_rule (b := false) (by kernel_rfl) rfl ?_
 refine wp_skip ?_
 refine seqR ?_
 refine ops_rule (C := []) [] [] 1 [] 0 (fun φ3 => [(9, .int .i64 4)]) (fun φ3 => []) (fun φ3 => []) s trivial (fun φ3 => by kernel_rfl) ?_
 intro φ3 w3 s
 refine sem_rule (Instr.indexAt 98 (.pointer (some ⟨0, 0, none⟩)) (.int .i64 4)) (some 10) (.pointer (some ⟨0, 4, none⟩)) (by kernel_rfl) (semlem4) ?_
 refine sem_rule (Instr.loadAt 9 (.pointer (some ⟨0, 4, none⟩))) (some 11) (.string ⟨#[97, 100, 100, 114, 101, 115, 115]⟩) (by kernel_rfl) (nm_ld s.sub hN 4 (by decide)) ?_
 refine ops_rule (C := []) [] [] 1 [] 0 (fun φ4 => [(2, .string ⟨#[97, 100, 100, 114, 101, 115, 115]⟩)]) (fun φ4 => []) (fun φ4 => []) s trivial (fun φ4 => by kernel_rfl) ?_
 intro φ4 w4 s
 refine ops_done (by kernel_rfl) ?_
 refine wp_ret ?_
 refine ret_rule (C := []) [] [] (.string ⟨#[97, 100, 100, 114, 101, 115, 115]⟩) [] [] s trivial (by kernel_rfl) ?_
 exact ⟨_, _, _, rfl, s, rfl⟩

theorem semlem5 {w : World} : (Instr.indexAt 98 (.pointer (some ⟨0, 0, none⟩)) (.int .i64 5)).run Tryd.prog w = .ok (.pointer (some ⟨0, 5, none⟩)) w := by kernel_rfl
set_option maxHeartbeats 1000000 in
theorem kindName5_c {I : IM} (hN : NmT I) : Fun Tryd.prog 27 #[.int .i64 5] I (fun v J => v = .string ⟨([110, 111, 116, 101] : List UInt8).toArray⟩) := by
 refine enter_rule 12 [(0, .int .i64 5)] Tryd.func27 rfl (by kernel_rfl) ?_
 intro w s
 refine seqR ?_
 refine ops_rule (C := []) [] [] 1 [] 0 (fun φ1 => [(2, .string ⟨#[]⟩)]) (fun φ1 => []) (fun φ1 => []) s trivial (fun φ1 => by kernel_rfl) ?_
 intro φ1 w1 s
 refine ops_done (by kernel_rfl) ?_
 refine wp_seq ?_
 refine seqR ?_
 refine ops_rule (C := []) [] [] 6 [] 0 (fun φ2 => [(8, .bool false), (7, .bool false), (6, .int .i64 5), (5, .bool false), (4, .bool false), (3, .int .i64 5)]) (fun φ2 => []) (fun φ2 => []) s trivial (fun φ2 => by kernel_rfl) ?_
 intro φ2 w2 s
 refine ops_done (by kernel_rfl) ?_
 refine cond_false_rule (b := false) (by kernel_rfl) rfl ?_
 refine wp_skip ?_
 refine seqR ?_
 refine ops_rule (C := []) [] [] 1 [] 0 (fun φ3 => [(9, .int .i64 5)]) (fun φ3 => []) (fun φ3 => []) s trivial (fun φ3 => by kernel_rfl) ?_
 intro φ3 w3 s
 refine sem_rule (Instr.indexAt 98 (.pointer (some ⟨0, 0, none⟩)) (.int .i64 5)) (some 10) (.pointer (some ⟨0, 5, none⟩)) (by kernel_rfl) (semlem5) ?_
 refine sem_rule (Instr.loadAt 9 (.pointer (some ⟨0, 5, none⟩))) (some 11) (.string ⟨#[110, 111, 116, 101]⟩) (by kernel_rfl) (nm_ld s.sub hN 5 (by decide)) ?_
 refine ops_rule (C := []) [] [] 1 [] 0 (fun φ4 => [(2, .string ⟨#[110, 111, 116, 101]⟩)]) (fun φ4 => []) (fun φ4 => []) s trivial (fun φ4 => by kernel_rfl) ?_
 intro φ4 w4 s
 refine ops_done (by kernel_rfl) ?_
 refine wp_ret ?_
 refine ret_rule (C := []) [] [] (.string ⟨#[110, 111, 116, 101]⟩) [] [] s trivial (by kernel_rfl) ?_
 exact ⟨_, _, _, rfl, s, rfl⟩

theorem semlem6 {w : World} : (Instr.indexAt 98 (.pointer (some ⟨0, 0, none⟩)) (.int .i64 6)).run Tryd.prog w = .ok (.pointer (some ⟨0, 6, none⟩)) w := by kernel_rfl
set_option maxHeartbeats 1000000 in
theorem kindName6_c {I : IM} (hN : NmT I) : Fun Tryd.prog 27 #[.int .i64 6] I (fun v J => v = .string ⟨([103, 114, 111, 117, 112] : List UInt8).toArray⟩) := by
 refine enter_rule 12 [(0, .int .i64 6)] Tryd.func27 rfl (by kernel_rfl) ?_
 intro w s
 refine seqR ?_
 refine ops_rule (C := []) [] [] 1 [] 0 (fun φ1 => [(2, .string ⟨#[]⟩)]) (fun φ1 => []) (fun φ1 => []) s trivial (fun φ1 => by kernel_rfl) ?_
 intro φ1 w1 s
 refine ops_done (by kernel_rfl) ?_
 refine wp_seq ?_
 refine seqR ?_
 refine ops_rule (C := []) [] [] 6 [] 0 (fun φ2 => [(8, .bool false), (7, .bool false), (6, .int .i64 6), (5, .bool false), (4, .bool false), (3, .int .i64 6)]) (fun φ2 => []) (fun φ2 => []) s trivial (fun φ2 => by kernel_rfl) ?_
 intro φ2 w2 s
 refine ops_done (by kernel_rfl) ?_
 refine cond_false_rule (b := false) (by kernel_rfl) rfl ?_
 refine wp_skip ?_
 refine seqR ?_
 refine ops_rule (C := []) [] [] 1 [] 0 (fun φ3 => [(9, .int .i64 6)]) (fun φ3 => []) (fun φ3 => []) s trivial (fun φ3 => by kernel_rfl) ?_
 intro φ3 w3 s
 refine sem_rule (Instr.indexAt 98 (.pointer (some ⟨0, 0, none⟩)) (.int .i64 6)) (some 10) (.pointer (some ⟨0, 6, none⟩)) (by kernel_rfl) (semlem6) ?_
 refine sem_rule (Instr.loadAt 9 (.pointer (some ⟨0, 6, none⟩))) (some 11) (.string ⟨#[103, 114, 111, 117, 112]⟩) (by kernel_rfl) (nm_ld s.sub hN 6 (by decide)) ?_
 refine ops_rule (C := []) [] [] 1 [] 0 (fun φ4 => [(2, .string ⟨#[103, 114, 111, 117, 112]⟩)]) (fun φ4 => []) (fun φ4 => []) s trivial (fun φ4 => by kernel_rfl) ?_
 intro φ4 w4 s
 refine ops_done (by kernel_rfl) ?_
 refine wp_ret ?_
 refine ret_rule (C := []) [] [] (.string ⟨#[103, 114, 111, 117, 112]⟩) [] [] s trivial (by kernel_rfl) ?_
 exact ⟨_, _, _, rfl, s, rfl⟩

set_option maxHeartbeats 1000000 in
theorem kindNameX_c {I : IM} (hN : NmT I) {z : Int} (hz : ¬ (0 ≤ z ∧ z < 7)) : Fun Tryd.prog 27 #[.int .i64 z] I (fun v J => v = .string ⟨([] : List UInt8).toArray⟩) := by
 refine enter_rule 12 [(0, .int .i64 z)] Tryd.func27 rfl (by kernel_rfl) ?_
 intro w s
 refine seqR ?_
 refine oKD [] [] 1 [] 0 (fun φ1 => [(2, .string ⟨#[]⟩)]) (fun φ1 => []) s (fun φ1 => by kernel_rfl) (by kernel_rfl) ?_
 intro φ1 w1 s
 refine wp_seq ?_
 refine seqR ?_
 refine oK [] [] 3 [] 0 (fun φ2 => [(5, .bool (decide (z < ((0 : Nat) : Int)))), (4, .bool (decide (z < ((0 : Nat) : Int)))), (3, .int .i64 z)]) (fun φ2 => []) s (fun φ2 => by kernel_rfl) ?_
 intro φ2 w2 s
 rcases Bool.eq_false_or_eq_true (decide (z < ((0 : Nat) : Int))) with hc3 | hc3
 ·
  rw [hc3]
  refine oKD [] [] 3 [] 0 (fun φ4 => [(8, .bool true), (7, undef), (6, undef)]) (fun φ4 => []) s (fun φ4 => by kernel_rfl) (by kernel_rfl) ?_
  intro φ4 w4 s
  refine cond_true_rule (b := true) (by kernel_rfl) rfl ?_
  refine seqR ?_
  refine oKD [] [] 1 [] 0 (fun φ5 => [(2, .string ⟨#[]⟩)]) (fun φ5 => []) s (fun φ5 => by kernel_rfl) (by kernel_rfl) ?_
  intro φ5 w5 s
  refine wp_ret ?_
  refine ret_rule (C := []) [] [] (.string ⟨#[]⟩) [] [] s trivial (by kernel_rfl) ?_
  exact ⟨_, _, _, rfl, s, rfl⟩
 ·
  rw [hc3]
  refine oKD [] [] 3 [] 0 (fun φ6 => [(8, .bool (decide (z ≥ ((7 : Nat) : Int)))), (7, .bool (decide (z ≥ ((7 : Nat) : Int)))), (6, .int .i64 z)]) (fun φ6 => []) s (fun φ6 => by kernel_rfl) (by kernel_rfl) ?_
  intro φ6 w6 s
  rcases Bool.eq_false_or_eq_true (decide (z ≥ ((7 : Nat) : Int))) with hc7 | hc7
  ·
   rw [hc7]
   refine cond_true_rule (b := true) (by kernel_rfl) rfl ?_
   refine seqR ?_
   refine oKD [] [] 1 [] 0 (fun φ8 => [(2, .string ⟨#[]⟩)]) (fun φ8 => []) s (fun φ8 => by kernel_rfl) (by kernel_rfl) ?_
   intro φ8 w8 s
   refine wp_ret ?_
   refine ret_rule (C := []) [] [] (.string ⟨#[]⟩) [] [] s trivial (by kernel_rfl) ?_
   exact ⟨_, _, _, rfl, s, rfl⟩
  ·
   exact absurd (dF9 hc7) (by have hq0 := dF9 hc3; omega)

theorem kindName_c {I : IM} (hN : NmT I) {z : Int} : Fun Tryd.prog 27 #[.int .i64 z] I (fun v J => v = .string ⟨(nmS z).toArray⟩) := by
  by_cases h : 0 ≤ z ∧ z < 7
  · have : z = 0 ∨ z = 1 ∨ z = 2 ∨ z = 3 ∨ z = 4 ∨ z = 5 ∨ z = 6 := by omega
    rcases this with rfl | rfl | rfl | rfl | rfl | rfl | rfl
    · exact kindName0_c hN
    · exact kindName1_c hN
    · exact kindName2_c hN
    · exact kindName3_c hN
    · exact kindName4_c hN
    · exact kindName5_c hN
    · exact kindName6_c hN
  · have e : nmS z = [] := by unfold nmS; rw [if_neg h]
    rw [e]; exact kindNameX_c hN h
def fitsB (z : Int) (v : List UInt8) : Bool := !(decide (v = [])) && decide (v = fldS v) && (!(decide (z = 2)) || phone v) && (!(decide (z = 3)) || mail v)
/-- what is wrong with a field -/
def rtE (z : Int) (a v : List UInt8) : Nat := if ¬ (1 ≤ z ∧ z ≤ 6) then 1 else if ckE a 12 ≠ 0 then ckE a 12 else if ckE v 40 ≠ 0 then ckE v 40 else if fitsB z v = true then 0 else 7
theorem rt1 {z : Int} {a v : List UInt8} (h : ¬ (1 ≤ z ∧ z ≤ 6)) : rtE z a v = 1 := if_pos h
theorem rt2 {z : Int} {a v : List UInt8} (h : 1 ≤ z ∧ z ≤ 6) (h2 : ckE a 12 ≠ 0) : rtE z a v = ckE a 12 := by unfold rtE; rw [if_neg (fun q => q h), if_pos h2]
theorem rt3 {z : Int} {a v : List UInt8} (h : 1 ≤ z ∧ z ≤ 6) (h2 : ckE a 12 = 0) (h3 : ckE v 40 ≠ 0) : rtE z a v = ckE v 40 := by unfold rtE; rw [if_neg (fun q => q h), if_neg (fun q => q h2), if_pos h3]
theorem rt4 {z : Int} {a v : List UInt8} (h : 1 ≤ z ∧ z ≤ 6) (h2 : ckE a 12 = 0) (h3 : ckE v 40 = 0) (h4 : fitsB z v = false) : rtE z a v = 7 := by unfold rtE; rw [if_neg (fun q => q h), if_neg (fun q => q h2), if_neg (fun q => q h3), if_neg (by rw [h4]; decide)]
theorem rt5 {z : Int} {a v : List UInt8} (h : 1 ≤ z ∧ z ≤ 6) (h2 : ckE a 12 = 0) (h3 : ckE v 40 = 0) (h4 : fitsB z v = true) : rtE z a v = 0 := by unfold rtE; rw [if_neg (fun q => q h), if_neg (fun q => q h2), if_neg (fun q => q h3), if_pos h4]

set_option maxHeartbeats 2000000 in
theorem fitsG_c {I : IM} {z : Int} {A B : List UInt8} (hA : A.length ≤ 1000000) (hB : B.length ≤ 1000000) : Fun Tryd.prog 61 #[.agg #[.int .i64 z, .string ⟨(A).toArray⟩, .string ⟨(B).toArray⟩]] I (fun v J => v = .bool (fitsB z B)) := by
 refine enter_rule 29 [(0, .agg #[.int .i64 z, .string ⟨(A).toArray⟩, .string ⟨(B).toArray⟩])] Tryd.func61 rfl (by kernel_rfl) ?_
 intro w s
 refine seqR ?_
 refine ops_rule (C := []) [] [] 2 [] 1 (fun φ1 => [(2, .bool false), (1, .pointer (some ⟨(φ1 0), 0, none⟩))]) (fun φ1 => [((φ1 0), .cells #[.int .i64 z, .string ⟨(A).toArray⟩, .string ⟨(B).toArray⟩] 39)]) (fun φ1 => []) s trivial (fun φ1 => by kernel_rfl) ?_
 intro φ1 w1 s
 refine ops_done (by kernel_rfl) ?_
 refine wp_seq ?_
 refine wp_block ?_
 refine wp_seq ?_
 rcases Bool.eq_false_or_eq_true (decide (B = ([] : List UInt8))) with hc2 | hc2
 ·
  refine draw_rule (C := []) ⟨(fun φ3 xs3 => [.look 0 [] [], .look 0 [.o 0] [(φ1 0)], .ran (binOp .eql 9 (.string ⟨(B).toArray⟩) (.string ⟨(([] : List UInt8)).toArray⟩)), .look 0 [] [], .skip, .skip, .skip, .skip, .skip, .skip, .look 0 [] [], .look 0 [] []]), (fun φ3 xs3 => [.pointer (some ⟨(φ1 0), 2, none⟩), .string ⟨(B).toArray⟩, .bool true, .bool true, undef, undef, undef, undef, undef, undef, .bool true, .bool true]), (fun φ3 xs3 => [[(φ1 0, .cells #[.int .i64 z, .string ⟨(A).toArray⟩, .string ⟨(B).toArray⟩] 39)]]), (fun φ3 xs3 => [[default, default, default, default, default, default, default, default, default, default, default, default]]), [], [1, 1, 6, 1, 0, 0, 0, 0, 0, 0, 1, 1]⟩ (fun j => ([MP.any] : List MP).getD j MP.any) [] [] [2] (fun φ3 xs3 => []) (fun φ3 xs3 => [(4, .pointer (some ⟨(φ1 0), 2, none⟩)), (5, .string ⟨(B).toArray⟩), (6, .bool true), (7, .bool true), (8, undef), (9, undef), (10, undef), (11, undef), (12, undef), (13, undef), (14, .bool true), (3, .bool true)]) (fun φ3 xs3 => [(φ1 0, .cells #[.int .i64 z, .string ⟨(A).toArray⟩, .string ⟨(B).toArray⟩] 39)]) s trivial (by kernel_rfl) (by kernel_rfl) (fun _ _ => by kernel_rfl) (fun _ _ => by kernel_rfl) ⟨fun _ _ => by kernel_rfl, fun _ _ => by kernel_rfl, fun _ _ => by kernel_rfl, fun _ _ => by kernel_rfl⟩ (fun _ _ _ => by kernel_rfl) (fun _ _ => by kernel_rfl) (fun _ _ => by kernel_rfl) (fun _ _ => by kernel_rfl) (fun _ _ => by kernel_rfl) (fun _ _ => by kernel_rfl) trivial ⟨kcast (A := ∀ (φ3 : Nat → Nat) (xs3 : Xs) (J : IM) (w : World), I.Le J → J.Sub w → ((binOp .eql 9 (.string ⟨(B).toArray⟩) (.string ⟨(([] : List UInt8)).toArray⟩)) : Sem Value).run Tryd.prog w = .ok (.bool true) w) (by kernel_rfl) (fun φ3 xs3 J w hJ hS => ((run_eqS (x := B) (y := ([] : List UInt8)) : ((binOp .eql 9 (.string ⟨(B).toArray⟩) (.string ⟨(([] : List UInt8)).toArray⟩)) : Sem Value).run Tryd.prog w = .ok (.bool (decide (B = ([] : List UInt8)))) w).trans (congrArg (fun q => Result.ok (Value.bool q) w) hc2))), trivial⟩ (by kernel_rfl) trivial ?k3
  case k3 =>
   rintro φ3 xs3 I3 w3 le3 s 
   refine cond_true_rule (b := true) (by kernel_rfl) rfl ?_
   refine seqR ?_
   refine oKD [(φ1 0, .cells #[.int .i64 z, .string ⟨(A).toArray⟩, .string ⟨(B).toArray⟩] 39)] [] 1 [] 0 (fun φ4 => [(2, .bool false)]) (fun φ4 => []) s (fun φ4 => by kernel_rfl) (by kernel_rfl) ?_
   intro φ4 w4 s
   refine wp_ret ?_
   refine ret_rule (C := []) _ [] (.bool false) [] [] s trivial (by kernel_rfl) ?_
   exact ⟨_, _, _, rfl, s, (congrArg Value.bool (by unfold fitsB; simp only [hc2, Bool.not_true, Bool.not_false, Bool.true_and, Bool.and_true, Bool.false_and, Bool.and_false, Bool.true_or, Bool.or_true, Bool.false_or, Bool.or_false]))⟩
 ·
  refine draw_rule (C := []) ⟨(fun φ5 xs5 => [.look 0 [] [], .look 0 [.o 0] [(φ1 0)], .ran (binOp .eql 9 (.string ⟨(B).toArray⟩) (.string ⟨(([] : List UInt8)).toArray⟩)), .look 0 [] [], .look 0 [] [], .look 0 [.o 0] [(φ1 0)], .look 0 [] [], .look 0 [.o 0] [(φ1 0)], .call 100 #[.string ⟨(B).toArray⟩], .ran (binOp .neq 9 (.string ⟨(B).toArray⟩) (.string ⟨(fldS B).toArray⟩)), .look 0 [] [], .look 0 [] []]), (fun φ5 xs5 => [.pointer (some ⟨(φ1 0), 2, none⟩), .string ⟨(B).toArray⟩, .bool false, .bool false, .pointer (some ⟨(φ1 0), 2, none⟩), .string ⟨(B).toArray⟩, .pointer (some ⟨(φ1 0), 2, none⟩), .string ⟨(B).toArray⟩, .string ⟨(fldS B).toArray⟩, .bool (!(decide (B = fldS B))), .bool (!(decide (B = fldS B))), .bool (!(decide (B = fldS B)))]), (fun φ5 xs5 => [[(φ1 0, .cells #[.int .i64 z, .string ⟨(A).toArray⟩, .string ⟨(B).toArray⟩] 39)]]), (fun φ5 xs5 => [[default, default, default, default, default, default, default, default, default, default, default, default]]), [], [1, 1, 6, 1, 1, 1, 1, 1, 3, 6, 1, 1]⟩ (fun j => ([MP.any] : List MP).getD j MP.any) [8] [] [2, 9] (fun φ5 xs5 => []) (fun φ5 xs5 => [(4, .pointer (some ⟨(φ1 0), 2, none⟩)), (5, .string ⟨(B).toArray⟩), (6, .bool false), (7, .bool false), (8, .pointer (some ⟨(φ1 0), 2, none⟩)), (9, .string ⟨(B).toArray⟩), (10, .pointer (some ⟨(φ1 0), 2, none⟩)), (11, .string ⟨(B).toArray⟩), (12, .string ⟨(fldS B).toArray⟩), (13, .bool (!(decide (B = fldS B)))), (14, .bool (!(decide (B = fldS B)))), (3, .bool (!(decide (B = fldS B))))]) (fun φ5 xs5 => [(φ1 0, .cells #[.int .i64 z, .string ⟨(A).toArray⟩, .string ⟨(B).toArray⟩] 39)]) s trivial (by kernel_rfl) (by kernel_rfl) (fun _ _ => by kernel_rfl) (fun _ _ => by kernel_rfl) ⟨fun _ _ => by kernel_rfl, fun _ _ => by kernel_rfl, fun _ _ => by kernel_rfl, fun _ _ => by kernel_rfl⟩ (fun _ _ _ => by kernel_rfl) (fun _ _ => by kernel_rfl) (fun _ _ => by kernel_rfl) (fun _ _ => by kernel_rfl) (fun _ _ => by kernel_rfl) (fun _ _ => by kernel_rfl) trivial ⟨kcast (A := ∀ (φ5 : Nat → Nat) (xs5 : Xs) (J : IM) (w : World), I.Le J → J.Sub w → ((binOp .eql 9 (.string ⟨(B).toArray⟩) (.string ⟨(([] : List UInt8)).toArray⟩)) : Sem Value).run Tryd.prog w = .ok (.bool false) w) (by kernel_rfl) (fun φ5 xs5 J w hJ hS => ((run_eqS (x := B) (y := ([] : List UInt8)) : ((binOp .eql 9 (.string ⟨(B).toArray⟩) (.string ⟨(([] : List UInt8)).toArray⟩)) : Sem Value).run Tryd.prog w = .ok (.bool (decide (B = ([] : List UInt8)))) w).trans (congrArg (fun q => Result.ok (Value.bool q) w) hc2))), ⟨kcast (A := ∀ (φ5 : Nat → Nat) (xs5 : Xs) (J : IM) (w : World), I.Le J → J.Sub w → ((binOp .neq 9 (.string ⟨(B).toArray⟩) (.string ⟨(fldS B).toArray⟩)) : Sem Value).run Tryd.prog w = .ok (.bool (!(decide (B = fldS B)))) w) (by kernel_rfl) (fun φ5 xs5 J w hJ hS => run_neS (x := B) (y := fldS B)), trivial⟩⟩ (by kernel_rfl) ⟨?c5_8, trivial⟩ ?k5
  case c5_8 =>
   refine kcast (A := ∀ (φ5 : Nat → Nat) (xs5 : Xs) (J8_5 : IM), I.Le J8_5 → Fun Tryd.prog 100 #[.string ⟨(B).toArray⟩] J8_5 (fun v J' => ∃ x : UX, v = .string ⟨(fldS B).toArray⟩ ∧ (True))) (by kernel_rfl) ?_
   intro φ5 xs5 J8_5 leJ
   exact Fun.mono (fold_c (l := B) hB) (fun v J' _ h => ⟨UX.d, h, trivial⟩)
  case k5 =>
   rintro φ5 xs5 I5 w5 le5 s _
   rcases Bool.eq_false_or_eq_true (decide (B = fldS B)) with hc6 | hc6
   ·
    rw [hc6]
    refine cond_false_rule (b := false) (by kernel_rfl) rfl ?_
    refine seqR ?_
    refine ops_rule (C := []) [((φ1 0), .cells #[.int .i64 z, .string ⟨(A).toArray⟩, .string ⟨(B).toArray⟩] 39)] [] 4 [.o 0] 0 (fun φ7 => [(15, .bool (z == ((2 : Nat) : Int))), (18, .bool (z == ((2 : Nat) : Int))), (17, .int .i64 z), (16, .pointer (some ⟨(φ1 0), 0, none⟩))]) (fun φ7 => [((φ1 0), .cells #[.int .i64 z, .string ⟨(A).toArray⟩, .string ⟨(B).toArray⟩] 39)]) (fun φ7 => [(φ1 0)]) s trivial (fun φ7 => by kernel_rfl) ?_
    intro φ7 w7 s
    refine ops_done (by kernel_rfl) ?_
    rcases Bool.eq_false_or_eq_true (z == ((2 : Nat) : Int)) with hc8 | hc8
    ·
     rw [hc8]
     refine cond_true_rule (b := true) (by kernel_rfl) rfl ?_
     refine seqR ?_
     refine oK _ [] 2 [.o 0] 0 (fun φ9 => [(20, .string ⟨(B).toArray⟩), (19, .pointer (some ⟨(φ1 0), 2, none⟩))]) (fun φ9 => [(φ1 0)]) s (fun φ9 => by kernel_rfl) ?_
     intro φ9 w9 s
     refine call_rule (some 21) s (phone_c (l := B) hB) (by kernel_rfl) ?_
     intro v10 I10 w10 le10 h10 s
     obtain rfl := h10
     refine oKD _ [] 1 [] 0 (fun φ11 => [(2, .bool (phone B))]) (fun φ11 => []) s (fun φ11 => by kernel_rfl) (by kernel_rfl) ?_
     intro φ11 w11 s
     refine wp_ret ?_
     refine ret_rule (C := []) _ [] (.bool (phone B)) [] [] s trivial (by kernel_rfl) ?_
     have dhc8 : decide (z = 2) = true := by have h9 := hc8; simpa using h9
     have e3hc8 : decide (z = 3) = false := decide_eq_false (by have h9 := dT9 dhc8; omega)
     exact ⟨_, _, _, rfl, s, (congrArg Value.bool (by unfold fitsB; simp only [hc2, hc6, dhc8, e3hc8, Bool.not_true, Bool.not_false, Bool.true_and, Bool.and_true, Bool.false_and, Bool.and_false, Bool.true_or, Bool.or_true, Bool.false_or, Bool.or_false]))⟩
    ·
     rw [hc8]
     refine cond_false_rule (b := false) (by kernel_rfl) rfl ?_
     refine seqR ?_
     refine ops_rule (C := []) [((φ1 0), .cells #[.int .i64 z, .string ⟨(A).toArray⟩, .string ⟨(B).toArray⟩] 39)] [] 4 [.o 0] 0 (fun φ12 => [(22, .bool (z == ((3 : Nat) : Int))), (25, .bool (z == ((3 : Nat) : Int))), (24, .int .i64 z), (23, .pointer (some ⟨(φ1 0), 0, none⟩))]) (fun φ12 => [((φ1 0), .cells #[.int .i64 z, .string ⟨(A).toArray⟩, .string ⟨(B).toArray⟩] 39)]) (fun φ12 => [(φ1 0)]) s trivial (fun φ12 => by kernel_rfl) ?_
     intro φ12 w12 s
     refine ops_done (by kernel_rfl) ?_
     rcases Bool.eq_false_or_eq_true (z == ((3 : Nat) : Int)) with hc13 | hc13
     ·
      rw [hc13]
      refine cond_true_rule (b := true) (by kernel_rfl) rfl ?_
      refine seqR ?_
      refine oK _ [] 2 [.o 0] 0 (fun φ14 => [(27, .string ⟨(B).toArray⟩), (26, .pointer (some ⟨(φ1 0), 2, none⟩))]) (fun φ14 => [(φ1 0)]) s (fun φ14 => by kernel_rfl) ?_
      intro φ14 w14 s
      refine call_rule (some 28) s (mail_c (l := B) hB) (by kernel_rfl) ?_
      intro v15 I15 w15 le15 h15 s
      obtain rfl := h15
      refine oKD _ [] 1 [] 0 (fun φ16 => [(2, .bool (mail B))]) (fun φ16 => []) s (fun φ16 => by kernel_rfl) (by kernel_rfl) ?_
      intro φ16 w16 s
      refine wp_ret ?_
      refine ret_rule (C := []) _ [] (.bool (mail B)) [] [] s trivial (by kernel_rfl) ?_
      have dhc8 : decide (z = 2) = false := by have h9 := hc8; simpa using h9
      have dhc13 : decide (z = 3) = true := by have h9 := hc13; simpa using h9
      exact ⟨_, _, _, rfl, s, (congrArg Value.bool (by unfold fitsB; simp only [hc2, hc6, dhc8, dhc13, Bool.not_true, Bool.not_false, Bool.true_and, Bool.and_true, Bool.false_and, Bool.and_false, Bool.true_or, Bool.or_true, Bool.false_or, Bool.or_false]))⟩
     ·
      rw [hc13]
      refine cond_false_rule (b := false) (by kernel_rfl) rfl ?_
      refine wp_skip ?_
      refine seqR ?_
      refine oKD _ [] 1 [] 0 (fun φ17 => [(2, .bool true)]) (fun φ17 => []) s (fun φ17 => by kernel_rfl) (by kernel_rfl) ?_
      intro φ17 w17 s
      refine wp_ret ?_
      refine ret_rule (C := []) _ [] (.bool true) [] [] s trivial (by kernel_rfl) ?_
      have dhc8 : decide (z = 2) = false := by have h9 := hc8; simpa using h9
      have dhc13 : decide (z = 3) = false := by have h9 := hc13; simpa using h9
      exact ⟨_, _, _, rfl, s, (congrArg Value.bool (by unfold fitsB; simp only [hc2, hc6, dhc8, dhc13, Bool.not_true, Bool.not_false, Bool.true_and, Bool.and_true, Bool.false_and, Bool.and_false, Bool.true_or, Bool.or_true, Bool.false_or, Bool.or_false]))⟩
   ·
    rw [hc6]
    refine cond_true_rule (b := true) (by kernel_rfl) rfl ?_
    refine seqR ?_
    refine oKD [(φ1 0, .cells #[.int .i64 z, .string ⟨(A).toArray⟩, .string ⟨(B).toArray⟩] 39)] [] 1 [] 0 (fun φ18 => [(2, .bool false)]) (fun φ18 => []) s (fun φ18 => by kernel_rfl) (by kernel_rfl) ?_
    intro φ18 w18 s
    refine wp_ret ?_
    refine ret_rule (C := []) _ [] (.bool false) [] [] s trivial (by kernel_rfl) ?_
    exact ⟨_, _, _, rfl, s, (congrArg Value.bool (by unfold fitsB; simp only [hc2, hc6, Bool.not_true, Bool.not_false, Bool.true_and, Bool.and_true, Bool.false_and, Bool.and_false, Bool.true_or, Bool.or_true, Bool.false_or, Bool.or_false]))⟩

set_option maxHeartbeats 2000000 in
theorem rightG_c {I : IM} {z : Int} {A B : List UInt8} (hA : A.length ≤ 1000000) (hB : B.length ≤ 1000000) (hN : NmT I) (hT : U8 I) : Fun Tryd.prog 22 #[.agg #[.int .i64 z, .string ⟨(A).toArray⟩, .string ⟨(B).toArray⟩]] I (fun v J => v = .int .i64 ((rtE z A B : Nat) : Int)) := by
 refine enter_rule 24 [(0, .agg #[.int .i64 z, .string ⟨(A).toArray⟩, .string ⟨(B).toArray⟩])] Tryd.func22 rfl (by kernel_rfl) ?_
 intro w s
 refine seqR ?_
 refine ops_rule (C := []) [] [] 2 [] 1 (fun φ1 => [(2, .int .i64 0), (1, .pointer (some ⟨(φ1 0), 0, none⟩))]) (fun φ1 => [((φ1 0), .cells #[.int .i64 z, .string ⟨(A).toArray⟩, .string ⟨(B).toArray⟩] 39)]) (fun φ1 => []) s trivial (fun φ1 => by kernel_rfl) ?_
 intro φ1 w1 s
 refine ops_done (by kernel_rfl) ?_
 refine wp_seq ?_
 refine seqR ?_
 refine ops_rule (C := []) [((φ1 0), .cells #[.int .i64 z, .string ⟨(A).toArray⟩, .string ⟨(B).toArray⟩] 39)] [] 2 [.o 0] 0 (fun φ2 => [(6, .int .i64 z), (5, .pointer (some ⟨(φ1 0), 0, none⟩))]) (fun φ2 => [((φ1 0), .cells #[.int .i64 z, .string ⟨(A).toArray⟩, .string ⟨(B).toArray⟩] 39)]) (fun φ2 => [(φ1 0)]) s trivial (fun φ2 => by kernel_rfl) ?_
 intro φ2 w2 s
 refine call_rule (some 7) s (kindName_c hN (z := z)) (by kernel_rfl) ?_
 intro v3 I3 w3 le3 h3 s
 replace hT := U8.mono le3 hT
 obtain rfl := h3
 refine sem_rule (binOp .eql 9 (.string ⟨(nmS z).toArray⟩) (.string ⟨(([] : List UInt8)).toArray⟩)) (some 8) (.bool (decide (nmS z = ([] : List UInt8)))) (by kernel_rfl) (run_eqS (x := nmS z) (y := ([] : List UInt8))) ?_
 refine ops_done (by kernel_rfl) ?_
 rcases Bool.eq_false_or_eq_true (decide (nmS z = ([] : List UInt8))) with hc4 | hc4
 ·
  rw [hc4]
  refine cond_true_rule (b := true) (by kernel_rfl) rfl ?_
  refine seqR ?_
  refine oKD _ [] 1 [] 0 (fun φ5 => [(2, .int .i64 1)]) (fun φ5 => []) s (fun φ5 => by kernel_rfl) (by kernel_rfl) ?_
  intro φ5 w5 s
  refine wp_ret ?_
  refine ret_rule (C := []) _ [] (.int .i64 1) [] [] s trivial (by kernel_rfl) ?_
  exact ⟨_, _, _, rfl, s, (congrArg (fun q : Nat => Value.int .i64 (q : Int)) (rt1 (by have h9 := dT9 hc4; rw [nm_nil] at h9; omega)).symm)⟩
 ·
  rw [hc4]
  refine cond_false_rule (b := false) (by kernel_rfl) rfl ?_
  refine wp_skip ?_
  refine wp_seq ?_
  refine seqR ?_
  refine oK _ [] 2 [.o 0] 0 (fun φ6 => [(10, .string ⟨(A).toArray⟩), (9, .pointer (some ⟨(φ1 0), 1, none⟩))]) (fun φ6 => [(φ1 0)]) s (fun φ6 => by kernel_rfl) ?_
  intro φ6 w6 s
  refine call_rule (some 11) s (check_c (l := A) (mi := 12) hT hA) (by kernel_rfl) ?_
  intro v7 I7 w7 le7 h7 s
  replace hT := U8.mono le7 hT
  obtain rfl := h7
  refine oKD _ [] 1 [] 0 (fun φ8 => [(3, .int .i64 (ckE A 12))]) (fun φ8 => []) s (fun φ8 => by kernel_rfl) (by kernel_rfl) ?_
  intro φ8 w8 s
  refine seqR ?_
  refine oK _ [] 2 [] 0 (fun φ9 => [(13, .bool (((ckE A 12 : Nat) : Int) != ((0 : Nat) : Int))), (12, .int .i64 (ckE A 12))]) (fun φ9 => []) s (fun φ9 => by kernel_rfl) ?_
  intro φ9 w9 s
  rw [nat_neq (a := (ckE A 12)) (b := 0)]
  refine ops_done (by kernel_rfl) ?_
  rcases Bool.eq_false_or_eq_true (decide ((ckE A 12) ≠ 0)) with hc10 | hc10
  ·
   rw [hc10]
   refine cond_true_rule (b := true) (by kernel_rfl) rfl ?_
   refine seqR ?_
   refine oKD _ [] 2 [] 0 (fun φ11 => [(2, .int .i64 (ckE A 12)), (14, .int .i64 (ckE A 12))]) (fun φ11 => []) s (fun φ11 => by kernel_rfl) (by kernel_rfl) ?_
   intro φ11 w11 s
   refine wp_ret ?_
   refine ret_rule (C := []) _ [] (.int .i64 (ckE A 12)) [] [] s trivial (by kernel_rfl) ?_
   exact ⟨_, _, _, rfl, s, (congrArg (fun q : Nat => Value.int .i64 (q : Int)) (rt2 (by have h9 := dF9 hc4; rw [nm_nil] at h9; omega) (dT9 hc10)).symm)⟩
  ·
   rw [hc10]
   refine cond_false_rule (b := false) (by kernel_rfl) rfl ?_
   refine wp_skip ?_
   refine wp_seq ?_
   refine seqR ?_
   refine oK _ [] 2 [.o 0] 0 (fun φ12 => [(16, .string ⟨(B).toArray⟩), (15, .pointer (some ⟨(φ1 0), 2, none⟩))]) (fun φ12 => [(φ1 0)]) s (fun φ12 => by kernel_rfl) ?_
   intro φ12 w12 s
   refine call_rule (some 17) s (check_c (l := B) (mi := 40) hT hB) (by kernel_rfl) ?_
   intro v13 I13 w13 le13 h13 s
   obtain rfl := h13
   refine oKD _ [] 1 [] 0 (fun φ14 => [(4, .int .i64 (ckE B 40))]) (fun φ14 => []) s (fun φ14 => by kernel_rfl) (by kernel_rfl) ?_
   intro φ14 w14 s
   refine seqR ?_
   refine oK _ [] 2 [] 0 (fun φ15 => [(19, .bool (((ckE B 40 : Nat) : Int) != ((0 : Nat) : Int))), (18, .int .i64 (ckE B 40))]) (fun φ15 => []) s (fun φ15 => by kernel_rfl) ?_
   intro φ15 w15 s
   rw [nat_neq (a := (ckE B 40)) (b := 0)]
   refine ops_done (by kernel_rfl) ?_
   rcases Bool.eq_false_or_eq_true (decide ((ckE B 40) ≠ 0)) with hc16 | hc16
   ·
    rw [hc16]
    refine cond_true_rule (b := true) (by kernel_rfl) rfl ?_
    refine seqR ?_
    refine oKD _ [] 2 [] 0 (fun φ17 => [(2, .int .i64 (ckE B 40)), (20, .int .i64 (ckE B 40))]) (fun φ17 => []) s (fun φ17 => by kernel_rfl) (by kernel_rfl) ?_
    intro φ17 w17 s
    refine wp_ret ?_
    refine ret_rule (C := []) _ [] (.int .i64 (ckE B 40)) [] [] s trivial (by kernel_rfl) ?_
    exact ⟨_, _, _, rfl, s, (congrArg (fun q : Nat => Value.int .i64 (q : Int)) (rt3 (by have h9 := dF9 hc4; rw [nm_nil] at h9; omega) (by have h9 := dF9 hc10; omega) (dT9 hc16)).symm)⟩
   ·
    rw [hc16]
    refine cond_false_rule (b := false) (by kernel_rfl) rfl ?_
    refine wp_skip ?_
    refine wp_seq ?_
    refine seqR ?_
    refine oK _ [] 1 [.o 0, .o 0, .o 0] 0 (fun φ18 => [(21, .agg #[.int .i64 z, .string ⟨(A).toArray⟩, .string ⟨(B).toArray⟩])]) (fun φ18 => [φ1 0, φ1 0, φ1 0]) s (fun φ18 => by kernel_rfl) ?_
    intro φ18 w18 s
    refine call_rule (some 22) s (fitsG_c (z := z) (A := A) (B := B) hA hB) (by kernel_rfl) ?_
    intro v19 I19 w19 le19 h19 s
    obtain rfl := h19
    refine oKD _ [] 1 [] 0 (fun φ20 => [(23, .bool (!(fitsB z B)))]) (fun φ20 => []) s (fun φ20 => by kernel_rfl) (by kernel_rfl) ?_
    intro φ20 w20 s
    rcases Bool.eq_false_or_eq_true (fitsB z B) with hc21 | hc21
    ·
     rw [hc21]
     refine cond_false_rule (b := false) (by kernel_rfl) rfl ?_
     refine wp_skip ?_
     refine seqR ?_
     refine oKD _ [] 1 [] 0 (fun φ22 => [(2, .int .i64 0)]) (fun φ22 => []) s (fun φ22 => by kernel_rfl) (by kernel_rfl) ?_
     intro φ22 w22 s
     refine wp_ret ?_
     refine ret_rule (C := []) _ [] (.int .i64 0) [] [] s trivial (by kernel_rfl) ?_
     exact ⟨_, _, _, rfl, s, (congrArg (fun q : Nat => Value.int .i64 (q : Int)) (rt5 (by have h9 := dF9 hc4; rw [nm_nil] at h9; omega) (by have h9 := dF9 hc10; omega) (by have h9 := dF9 hc16; omega) hc21).symm)⟩
    ·
     rw [hc21]
     refine cond_true_rule (b := true) (by kernel_rfl) rfl ?_
     refine seqR ?_
     refine oKD _ [] 1 [] 0 (fun φ23 => [(2, .int .i64 7)]) (fun φ23 => []) s (fun φ23 => by kernel_rfl) (by kernel_rfl) ?_
     intro φ23 w23 s
     refine wp_ret ?_
     refine ret_rule (C := []) _ [] (.int .i64 7) [] [] s trivial (by kernel_rfl) ?_
     exact ⟨_, _, _, rfl, s, (congrArg (fun q : Nat => Value.int .i64 (q : Int)) (rt4 (by have h9 := dF9 hc4; rw [nm_nil] at h9; omega) (by have h9 := dF9 hc10; omega) (by have h9 := dF9 hc16; omega) hc21).symm)⟩

end Go.Proofs.YtcpmjogeafhpnaaDoor.Tx
/- A field, right or not: the document's. -/
set_option linter.all false
set_option maxRecDepth 100000
namespace Go.Proofs.YtcpmjogeafhpnaaDoor.Tx
open Go.RowKit Go.Sep
attribute [local irreducible] Go.wpList Go.Code.wp

set_option maxHeartbeats 4000000 in
theorem refRight_c {I : IM} {z : Int} {A B : List UInt8} (hA : A.length ≤ 1000000) (hB : B.length ≤ 1000000) : Fun Tryd.prog 23 #[.agg #[.int .i64 z, .string ⟨(A).toArray⟩, .string ⟨(B).toArray⟩]] I (fun v J => v = .int .i64 ((rtE z A B : Nat) : Int)) := by
 refine enter_rule 58 [(0, .agg #[.int .i64 z, .string ⟨(A).toArray⟩, .string ⟨(B).toArray⟩])] Tryd.func23 rfl (by kernel_rfl) ?_
 intro w s
 refine seqR ?_
 refine ops_rule (C := []) [] [] 2 [] 1 (fun φ1 => [(2, .int .i64 0), (1, .pointer (some ⟨(φ1 0), 0, none⟩))]) (fun φ1 => [((φ1 0), .cells #[.int .i64 z, .string ⟨(A).toArray⟩, .string ⟨(B).toArray⟩] 42)]) (fun φ1 => []) s trivial (fun φ1 => by kernel_rfl) ?_
 intro φ1 w1 s
 refine ops_done (by kernel_rfl) ?_
 refine wp_seq ?_
 refine seqR ?_
 refine ops_rule (C := []) [((φ1 0), .cells #[.int .i64 z, .string ⟨(A).toArray⟩, .string ⟨(B).toArray⟩] 42)] [] 4 [.o 0] 0 (fun φ2 => [(8, .bool (decide (z < ((1 : Nat) : Int)))), (7, .bool (decide (z < ((1 : Nat) : Int)))), (6, .int .i64 z), (5, .pointer (some ⟨(φ1 0), 0, none⟩))]) (fun φ2 => [((φ1 0), .cells #[.int .i64 z, .string ⟨(A).toArray⟩, .string ⟨(B).toArray⟩] 42)]) (fun φ2 => [(φ1 0)]) s trivial (fun φ2 => by kernel_rfl) ?_
 intro φ2 w2 s
 rcases Bool.eq_false_or_eq_true (decide (z < ((1 : Nat) : Int))) with hc3 | hc3
 ·
  rw [hc3]
  refine oKD _ [] 4 [] 0 (fun φ4 => [(12, .bool true), (11, undef), (10, undef), (9, undef)]) (fun φ4 => []) s (fun φ4 => by kernel_rfl) (by kernel_rfl) ?_
  intro φ4 w4 s
  refine cond_true_rule (b := true) (by kernel_rfl) rfl ?_
  refine seqR ?_
  refine oKD _ [] 1 [] 0 (fun φ5 => [(2, .int .i64 1)]) (fun φ5 => []) s (fun φ5 => by kernel_rfl) (by kernel_rfl) ?_
  intro φ5 w5 s
  refine wp_ret ?_
  refine ret_rule (C := []) _ [] (.int .i64 1) [] [] s trivial (by kernel_rfl) ?_
  exact ⟨_, _, _, rfl, s, (congrArg (fun q : Nat => Value.int .i64 (q : Int)) (rt1 (by have h9 := dT9 hc3; omega)).symm)⟩
 ·
  rw [hc3]
  refine ops_rule (C := []) [((φ1 0), .cells #[.int .i64 z, .string ⟨(A).toArray⟩, .string ⟨(B).toArray⟩] 42)] [] 4 [.o 0] 0 (fun φ6 => [(12, .bool (decide (z > ((6 : Nat) : Int)))), (11, .bool (decide (z > ((6 : Nat) : Int)))), (10, .int .i64 z), (9, .pointer (some ⟨(φ1 0), 0, none⟩))]) (fun φ6 => [((φ1 0), .cells #[.int .i64 z, .string ⟨(A).toArray⟩, .string ⟨(B).toArray⟩] 42)]) (fun φ6 => [(φ1 0)]) s trivial (fun φ6 => by kernel_rfl) ?_
  intro φ6 w6 s
  refine ops_done (by kernel_rfl) ?_
  rcases Bool.eq_false_or_eq_true (decide (z > ((6 : Nat) : Int))) with hc7 | hc7
  ·
   rw [hc7]
   refine cond_true_rule (b := true) (by kernel_rfl) rfl ?_
   refine seqR ?_
   refine oKD _ [] 1 [] 0 (fun φ8 => [(2, .int .i64 1)]) (fun φ8 => []) s (fun φ8 => by kernel_rfl) (by kernel_rfl) ?_
   intro φ8 w8 s
   refine wp_ret ?_
   refine ret_rule (C := []) _ [] (.int .i64 1) [] [] s trivial (by kernel_rfl) ?_
   exact ⟨_, _, _, rfl, s, (congrArg (fun q : Nat => Value.int .i64 (q : Int)) (rt1 (by have h8 := dF9 hc3; have h9 := dT9 hc7; omega)).symm)⟩
  ·
   rw [hc7]
   refine cond_false_rule (b := false) (by kernel_rfl) rfl ?_
   refine wp_skip ?_
   refine wp_seq ?_
   refine seqR ?_
   refine oK _ [] 2 [.o 0] 0 (fun φ9 => [(14, .string ⟨(A).toArray⟩), (13, .pointer (some ⟨(φ1 0), 1, none⟩))]) (fun φ9 => [(φ1 0)]) s (fun φ9 => by kernel_rfl) ?_
   intro φ9 w9 s
   refine call_rule (some 15) s (refCheck_c (l := A) (mi := 12) hA) (by kernel_rfl) ?_
   intro v10 I10 w10 le10 h10 s
   obtain rfl := h10
   refine oKD _ [] 1 [] 0 (fun φ11 => [(3, .int .i64 (ckE A 12))]) (fun φ11 => []) s (fun φ11 => by kernel_rfl) (by kernel_rfl) ?_
   intro φ11 w11 s
   refine seqR ?_
   refine oK _ [] 2 [] 0 (fun φ12 => [(17, .bool (((ckE A 12 : Nat) : Int) != ((0 : Nat) : Int))), (16, .int .i64 (ckE A 12))]) (fun φ12 => []) s (fun φ12 => by kernel_rfl) ?_
   intro φ12 w12 s
   rw [nat_neq (a := (ckE A 12)) (b := 0)]
   refine ops_done (by kernel_rfl) ?_
   rcases Bool.eq_false_or_eq_true (decide ((ckE A 12) ≠ 0)) with hc13 | hc13
   ·
    rw [hc13]
    refine cond_true_rule (b := true) (by kernel_rfl) rfl ?_
    refine seqR ?_
    refine oKD _ [] 2 [] 0 (fun φ14 => [(2, .int .i64 (ckE A 12)), (18, .int .i64 (ckE A 12))]) (fun φ14 => []) s (fun φ14 => by kernel_rfl) (by kernel_rfl) ?_
    intro φ14 w14 s
    refine wp_ret ?_
    refine ret_rule (C := []) _ [] (.int .i64 (ckE A 12)) [] [] s trivial (by kernel_rfl) ?_
    exact ⟨_, _, _, rfl, s, (congrArg (fun q : Nat => Value.int .i64 (q : Int)) (rt2 (by have h8 := dF9 hc3; have h9 := dF9 hc7; omega) (dT9 hc13)).symm)⟩
   ·
    rw [hc13]
    refine cond_false_rule (b := false) (by kernel_rfl) rfl ?_
    refine wp_skip ?_
    refine wp_seq ?_
    refine seqR ?_
    refine oK _ [] 2 [.o 0] 0 (fun φ15 => [(20, .string ⟨(B).toArray⟩), (19, .pointer (some ⟨(φ1 0), 2, none⟩))]) (fun φ15 => [(φ1 0)]) s (fun φ15 => by kernel_rfl) ?_
    intro φ15 w15 s
    refine call_rule (some 21) s (refCheck_c (l := B) (mi := 40) hB) (by kernel_rfl) ?_
    intro v16 I16 w16 le16 h16 s
    obtain rfl := h16
    refine oKD _ [] 1 [] 0 (fun φ17 => [(4, .int .i64 (ckE B 40))]) (fun φ17 => []) s (fun φ17 => by kernel_rfl) (by kernel_rfl) ?_
    intro φ17 w17 s
    refine seqR ?_
    refine oK _ [] 2 [] 0 (fun φ18 => [(23, .bool (((ckE B 40 : Nat) : Int) != ((0 : Nat) : Int))), (22, .int .i64 (ckE B 40))]) (fun φ18 => []) s (fun φ18 => by kernel_rfl) ?_
    intro φ18 w18 s
    rw [nat_neq (a := (ckE B 40)) (b := 0)]
    refine ops_done (by kernel_rfl) ?_
    rcases Bool.eq_false_or_eq_true (decide ((ckE B 40) ≠ 0)) with hc19 | hc19
    ·
     rw [hc19]
     refine cond_true_rule (b := true) (by kernel_rfl) rfl ?_
     refine seqR ?_
     refine oKD _ [] 2 [] 0 (fun φ20 => [(2, .int .i64 (ckE B 40)), (24, .int .i64 (ckE B 40))]) (fun φ20 => []) s (fun φ20 => by kernel_rfl) (by kernel_rfl) ?_
     intro φ20 w20 s
     refine wp_ret ?_
     refine ret_rule (C := []) _ [] (.int .i64 (ckE B 40)) [] [] s trivial (by kernel_rfl) ?_
     exact ⟨_, _, _, rfl, s, (congrArg (fun q : Nat => Value.int .i64 (q : Int)) (rt3 (by have h8 := dF9 hc3; have h9 := dF9 hc7; omega) (by have h9 := dF9 hc13; omega) (dT9 hc19)).symm)⟩
    ·
     rw [hc19]
     refine cond_false_rule (b := false) (by kernel_rfl) rfl ?_
     refine wp_skip ?_
     refine wp_seq ?_
     refine wp_seq ?_
     rcases Bool.eq_false_or_eq_true (decide (B = ([] : List UInt8))) with hc21 | hc21
     ·
      refine draw_rule (C := []) ⟨(fun φ22 xs22 => [.look 0 [] [], .look 0 [.o 0] [(φ1 0)], .ran (binOp .eql 9 (.string ⟨(B).toArray⟩) (.string ⟨(([] : List UInt8)).toArray⟩)), .look 0 [] [], .skip, .skip, .skip, .skip, .skip, .skip, .look 0 [] [], .look 0 [] [], .skip, .skip, .skip, .skip, .skip, .skip, .skip, .skip, .skip, .look 0 [] [], .look 0 [] [], .skip, .skip, .skip, .skip, .skip, .skip, .skip, .skip, .skip, .look 0 [] []]), (fun φ22 xs22 => [.pointer (some ⟨(φ1 0), 2, none⟩), .string ⟨(B).toArray⟩, .bool true, .bool true, undef, undef, undef, undef, undef, undef, .bool true, .bool true, undef, undef, undef, undef, undef, undef, undef, undef, undef, .bool true, .bool true, undef, undef, undef, undef, undef, undef, undef, undef, undef, .bool true]), (fun φ22 xs22 => [[(φ1 0, .cells #[.int .i64 z, .string ⟨(A).toArray⟩, .string ⟨(B).toArray⟩] 42)]]), (fun φ22 xs22 => [[default, default, default, default, default, default, default, default, default, default, default, default, default, default, default, default, default, default, default, default, default, default, default, default, default, default, default, default, default, default, default, default, default]]), [], [1, 1, 6, 1, 0, 0, 0, 0, 0, 0, 1, 1, 0, 0, 0, 0, 0, 0, 0, 0, 0, 1, 1, 0, 0, 0, 0, 0, 0, 0, 0, 0, 1]⟩ (fun j => ([MP.any] : List MP).getD j MP.any) [] [] [2] (fun φ22 xs22 => []) (fun φ22 xs22 => [(25, .pointer (some ⟨(φ1 0), 2, none⟩)), (26, .string ⟨(B).toArray⟩), (27, .bool true), (28, .bool true), (29, undef), (30, undef), (31, undef), (32, undef), (33, undef), (34, undef), (35, .bool true), (36, .bool true), (37, undef), (38, undef), (39, undef), (40, undef), (41, undef), (42, undef), (43, undef), (44, undef), (45, undef), (46, .bool true), (47, .bool true), (48, undef), (49, undef), (50, undef), (51, undef), (52, undef), (53, undef), (54, undef), (55, undef), (56, undef), (57, .bool true)]) (fun φ22 xs22 => [(φ1 0, .cells #[.int .i64 z, .string ⟨(A).toArray⟩, .string ⟨(B).toArray⟩] 42)]) s trivial (by kernel_rfl) (by kernel_rfl) (fun _ _ => by kernel_rfl) (fun _ _ => by kernel_rfl) ⟨fun _ _ => by kernel_rfl, fun _ _ => by kernel_rfl, fun _ _ => by kernel_rfl, fun _ _ => by kernel_rfl⟩ (fun _ _ _ => by kernel_rfl) (fun _ _ => by kernel_rfl) (fun _ _ => by kernel_rfl) (fun _ _ => by kernel_rfl) (fun _ _ => by kernel_rfl) (fun _ _ => by kernel_rfl) trivial ⟨kcast (A := ∀ (φ22 : Nat → Nat) (xs22 : Xs) (J : IM) (w : World), I16.Le J → J.Sub w → ((binOp .eql 9 (.string ⟨(B).toArray⟩) (.string ⟨(([] : List UInt8)).toArray⟩)) : Sem Value).run Tryd.prog w = .ok (.bool true) w) (by kernel_rfl) (fun φ22 xs22 J w hJ hS => ((run_eqS (x := B) (y := ([] : List UInt8)) : ((binOp .eql 9 (.string ⟨(B).toArray⟩) (.string ⟨(([] : List UInt8)).toArray⟩)) : Sem Value).run Tryd.prog w = .ok (.bool (decide (B = ([] : List UInt8)))) w).trans (congrArg (fun q => Result.ok (Value.bool q) w) hc21))), trivial⟩ (by kernel_rfl) trivial ?k22
      case k22 =>
       rintro φ22 xs22 I22 w22 le22 s 
       refine cond_true_rule (b := true) (by kernel_rfl) rfl ?_
       refine seqR ?_
       refine oKD [(φ1 0, .cells #[.int .i64 z, .string ⟨(A).toArray⟩, .string ⟨(B).toArray⟩] 42)] [] 1 [] 0 (fun φ23 => [(2, .int .i64 7)]) (fun φ23 => []) s (fun φ23 => by kernel_rfl) (by kernel_rfl) ?_
       intro φ23 w23 s
       refine wp_ret ?_
       refine ret_rule (C := []) _ [] (.int .i64 7) [] [] s trivial (by kernel_rfl) ?_
       exact ⟨_, _, _, rfl, s, (congrArg (fun q : Nat => Value.int .i64 (q : Int)) (rt4 (by have h8 := dF9 hc3; have h9 := dF9 hc7; omega) (by have h9 := dF9 hc13; omega) (by have h9 := dF9 hc19; omega) (by unfold fitsB; simp only [hc21, Bool.not_true, Bool.not_false, Bool.true_and, Bool.and_true, Bool.false_and, Bool.and_false, Bool.true_or, Bool.or_true, Bool.false_or, Bool.or_false])).symm)⟩
     ·
      rcases Bool.eq_false_or_eq_true (decide (fldS B = B)) with hc24 | hc24
      ·
       rcases Bool.eq_false_or_eq_true (z == ((2 : Nat) : Int)) with hc25 | hc25
       ·
        rcases Bool.eq_false_or_eq_true (phone B) with hc26 | hc26
        ·
         rcases Bool.eq_false_or_eq_true (z == ((3 : Nat) : Int)) with hc27 | hc27
         ·
          refine draw_rule (C := []) ⟨(fun φ28 xs28 => [.look 0 [] [], .look 0 [.o 0] [(φ1 0)], .ran (binOp .eql 9 (.string ⟨(B).toArray⟩) (.string ⟨(([] : List UInt8)).toArray⟩)), .look 0 [] [], .look 0 [] [], .look 0 [.o 0] [(φ1 0)], .call 63 #[.string ⟨(B).toArray⟩], .look 0 [] [], .look 0 [.o 0] [(φ1 0)], .ran (binOp .neq 9 (.string ⟨(fldS B).toArray⟩) (.string ⟨(B).toArray⟩)), .look 0 [] [], .look 0 [] [], .look 0 [] [], .look 0 [.o 0] [(φ1 0)], .sub 0 [] [] (.bool (z == ((2 : Nat) : Int))), .look 0 [] [], .look 0 [] [], .look 0 [.o 0] [(φ1 0)], .call 64 #[.string ⟨(B).toArray⟩], .look 0 [] [], .look 0 [] [], .look 0 [] [], .look 0 [] [], .look 0 [] [], .look 0 [.o 0] [(φ1 0)], .sub 0 [] [] (.bool (z == ((3 : Nat) : Int))), .look 0 [] [], .look 0 [] [], .look 0 [.o 0] [(φ1 0)], .call 65 #[.string ⟨(B).toArray⟩], .look 0 [] [], .look 0 [] [], .look 0 [] []]), (fun φ28 xs28 => [.pointer (some ⟨(φ1 0), 2, none⟩), .string ⟨(B).toArray⟩, .bool false, .bool false, .pointer (some ⟨(φ1 0), 2, none⟩), .string ⟨(B).toArray⟩, .string ⟨(fldS B).toArray⟩, .pointer (some ⟨(φ1 0), 2, none⟩), .string ⟨(B).toArray⟩, .bool false, .bool false, .bool false, .pointer (some ⟨(φ1 0), 0, none⟩), .int .i64 z, .bool true, .bool true, .pointer (some ⟨(φ1 0), 2, none⟩), .string ⟨(B).toArray⟩, .bool true, .bool false, .bool false, .bool false, .bool false, .pointer (some ⟨(φ1 0), 0, none⟩), .int .i64 z, .bool true, .bool true, .pointer (some ⟨(φ1 0), 2, none⟩), .string ⟨(B).toArray⟩, .bool (mail B), .bool (!(mail B)), .bool (!(mail B)), .bool (!(mail B))]), (fun φ28 xs28 => [[((φ1 0), .cells #[.int .i64 z, .string ⟨(A).toArray⟩, .string ⟨(B).toArray⟩] 42)]]), (fun φ28 xs28 => [[default, default, default, default, default, default, default, default, default, default, default, default, default, default, default, default, default, default, default, default, default, default, default, default, default, default, default, default, default, default, default, default, default]]), [], [1, 1, 6, 1, 1, 1, 3, 1, 1, 6, 1, 1, 1, 1, 5, 1, 1, 1, 3, 1, 1, 1, 1, 1, 1, 5, 1, 1, 1, 3, 1, 1, 1]⟩ (fun j => ([MP.any, MP.any, MP.any, MP.any, MP.any, MP.any, MP.any, MP.any, MP.any, MP.any, MP.any, MP.any, MP.any, MP.any, MP.any, MP.any, MP.any, MP.any, MP.any, MP.any, MP.any, MP.any, MP.any, MP.any, MP.any, MP.any, MP.any, MP.any, MP.any, MP.any, MP.any, MP.any, MP.any] : List MP).getD j MP.any) [6, 18, 29] [14, 25] [2, 9] (fun φ28 xs28 => []) (fun φ28 xs28 => [(25, .pointer (some ⟨(φ1 0), 2, none⟩)), (26, .string ⟨(B).toArray⟩), (27, .bool false), (28, .bool false), (29, .pointer (some ⟨(φ1 0), 2, none⟩)), (30, .string ⟨(B).toArray⟩), (31, .string ⟨(fldS B).toArray⟩), (32, .pointer (some ⟨(φ1 0), 2, none⟩)), (33, .string ⟨(B).toArray⟩), (34, .bool false), (35, .bool false), (36, .bool false), (37, .pointer (some ⟨(φ1 0), 0, none⟩)), (38, .int .i64 z), (39, .bool true), (40, .bool true), (41, .pointer (some ⟨(φ1 0), 2, none⟩)), (42, .string ⟨(B).toArray⟩), (43, .bool true), (44, .bool false), (45, .bool false), (46, .bool false), (47, .bool false), (48, .pointer (some ⟨(φ1 0), 0, none⟩)), (49, .int .i64 z), (50, .bool true), (51, .bool true), (52, .pointer (some ⟨(φ1 0), 2, none⟩)), (53, .string ⟨(B).toArray⟩), (54, .bool (mail B)), (55, .bool (!(mail B))), (56, .bool (!(mail B))), (57, .bool (!(mail B)))]) (fun φ28 xs28 => [((φ1 0), .cells #[.int .i64 z, .string ⟨(A).toArray⟩, .string ⟨(B).toArray⟩] 42)]) s trivial (by kernel_rfl) (by kernel_rfl) (fun _ _ => by kernel_rfl) (fun _ _ => by kernel_rfl) ⟨fun _ _ => by kernel_rfl, fun _ _ => by kernel_rfl, fun _ _ => by kernel_rfl, fun _ _ => by kernel_rfl⟩ (fun _ _ _ => by kernel_rfl) (fun _ _ => by kernel_rfl) (fun _ _ => by kernel_rfl) (fun _ _ => by kernel_rfl) (fun _ _ => by kernel_rfl) (fun _ _ => by kernel_rfl) ⟨kcast (A := ∀ (φ28 : Nat → Nat) (xs28 : Xs), (.bool (z == ((2 : Nat) : Int)) : Value) = .bool true) (by kernel_rfl) (fun φ28 xs28 => congrArg Value.bool ((hc25))), ⟨kcast (A := ∀ (φ28 : Nat → Nat) (xs28 : Xs), (.bool (z == ((3 : Nat) : Int)) : Value) = .bool true) (by kernel_rfl) (fun φ28 xs28 => congrArg Value.bool ((hc27))), trivial⟩⟩ ⟨kcast (A := ∀ (φ28 : Nat → Nat) (xs28 : Xs) (J : IM) (w : World), I16.Le J → J.Sub w → ((binOp .eql 9 (.string ⟨(B).toArray⟩) (.string ⟨(([] : List UInt8)).toArray⟩)) : Sem Value).run Tryd.prog w = .ok (.bool false) w) (by kernel_rfl) (fun φ28 xs28 J w hJ hS => ((run_eqS (x := B) (y := ([] : List UInt8)) : ((binOp .eql 9 (.string ⟨(B).toArray⟩) (.string ⟨(([] : List UInt8)).toArray⟩)) : Sem Value).run Tryd.prog w = .ok (.bool (decide (B = ([] : List UInt8)))) w).trans (congrArg (fun q => Result.ok (Value.bool q) w) hc21))), ⟨kcast (A := ∀ (φ28 : Nat → Nat) (xs28 : Xs) (J : IM) (w : World), I16.Le J → J.Sub w → ((binOp .neq 9 (.string ⟨(fldS B).toArray⟩) (.string ⟨(B).toArray⟩)) : Sem Value).run Tryd.prog w = .ok (.bool false) w) (by kernel_rfl) (fun φ28 xs28 J w hJ hS => ((run_neS (x := fldS B) (y := B) : ((binOp .neq 9 (.string ⟨(fldS B).toArray⟩) (.string ⟨(B).toArray⟩)) : Sem Value).run Tryd.prog w = .ok (.bool (!(decide (fldS B = B)))) w).trans (congrArg (fun q => Result.ok (Value.bool (!q)) w) hc24))), trivial⟩⟩ (by kernel_rfl) ⟨?c28_6, ?c28_18, ?c28_29, trivial⟩ ?k28
          case c28_6 =>
           refine kcast (A := ∀ (φ28 : Nat → Nat) (xs28 : Xs) (J6_28 : IM), I16.Le J6_28 → Fun Tryd.prog 63 #[.string ⟨(B).toArray⟩] J6_28 (fun v J' => ∃ x : UX, v = .string ⟨(fldS B).toArray⟩ ∧ (True))) (by kernel_rfl) ?_
           intro φ28 xs28 J6_28 leJ
           exact Fun.mono (refFold_c (l := B) hB) (fun v J' _ h => ⟨UX.d, h, trivial⟩)
          case c28_18 =>
           refine kcast (A := ∀ (φ28 : Nat → Nat) (xs28 : Xs) (J18_28 : IM), I16.Le J18_28 → (True) → Fun Tryd.prog 64 #[.string ⟨(B).toArray⟩] J18_28 (fun v J' => ∃ x : UX, v = .bool true ∧ (True))) (by kernel_rfl) ?_
           intro φ28 xs28 J18_28 leJ
           rintro _
           exact Fun.mono (refPhone_c (l := B) hB) (fun v J' _ h => ⟨UX.d, h.trans (congrArg Value.bool hc26), trivial⟩)
          case c28_29 =>
           refine kcast (A := ∀ (φ28 : Nat → Nat) (xs28 : Xs) (J29_28 : IM), I16.Le J29_28 → (True) → (True) → Fun Tryd.prog 65 #[.string ⟨(B).toArray⟩] J29_28 (fun v J' => ∃ x : UX, v = .bool (mail B) ∧ (True))) (by kernel_rfl) ?_
           intro φ28 xs28 J29_28 leJ
           rintro _ _
           exact Fun.mono (refMail_c (l := B) hB) (fun v J' _ h => ⟨UX.d, h, trivial⟩)
          case k28 =>
           rintro φ28 xs28 I28 w28 le28 s _ _ _
           rcases Bool.eq_false_or_eq_true (mail B) with hc29 | hc29
           ·
            rw [hc29]
            refine cond_false_rule (b := false) (by kernel_rfl) rfl ?_
            refine wp_skip ?_
            refine seqR ?_
            refine oKD [(φ1 0, .cells #[.int .i64 z, .string ⟨(A).toArray⟩, .string ⟨(B).toArray⟩] 42)] [] 1 [] 0 (fun φ30 => [(2, .int .i64 0)]) (fun φ30 => []) s (fun φ30 => by kernel_rfl) (by kernel_rfl) ?_
            intro φ30 w30 s
            refine wp_ret ?_
            refine ret_rule (C := []) _ [] (.int .i64 0) [] [] s trivial (by kernel_rfl) ?_
            have ehc24 : decide (B = fldS B) = true := by rw [← hc24]; exact decide_eq_decide.2 eq_comm
            have dhc25 : decide (z = 2) = true := by have h9 := hc25; simpa using h9
            have e3hc25 : decide (z = 3) = false := decide_eq_false (by have h9 := dT9 dhc25; omega)
            have dhc27 : decide (z = 3) = true := by have h9 := hc27; simpa using h9
            exact ⟨_, _, _, rfl, s, (by exfalso; have h8 := dT9 dhc25; have h9 := dT9 dhc27; omega)⟩
           ·
            rw [hc29]
            refine cond_true_rule (b := true) (by kernel_rfl) rfl ?_
            refine seqR ?_
            refine oKD [(φ1 0, .cells #[.int .i64 z, .string ⟨(A).toArray⟩, .string ⟨(B).toArray⟩] 42)] [] 1 [] 0 (fun φ31 => [(2, .int .i64 7)]) (fun φ31 => []) s (fun φ31 => by kernel_rfl) (by kernel_rfl) ?_
            intro φ31 w31 s
            refine wp_ret ?_
            refine ret_rule (C := []) _ [] (.int .i64 7) [] [] s trivial (by kernel_rfl) ?_
            have ehc24 : decide (B = fldS B) = true := by rw [← hc24]; exact decide_eq_decide.2 eq_comm
            have dhc25 : decide (z = 2) = true := by have h9 := hc25; simpa using h9
            have e3hc25 : decide (z = 3) = false := decide_eq_false (by have h9 := dT9 dhc25; omega)
            have dhc27 : decide (z = 3) = true := by have h9 := hc27; simpa using h9
            exact ⟨_, _, _, rfl, s, (by exfalso; have h8 := dT9 dhc25; have h9 := dT9 dhc27; omega)⟩
         ·
          refine draw_rule (C := []) ⟨(fun φ32 xs32 => [.look 0 [] [], .look 0 [.o 0] [(φ1 0)], .ran (binOp .eql 9 (.string ⟨(B).toArray⟩) (.string ⟨(([] : List UInt8)).toArray⟩)), .look 0 [] [], .look 0 [] [], .look 0 [.o 0] [(φ1 0)], .call 63 #[.string ⟨(B).toArray⟩], .look 0 [] [], .look 0 [.o 0] [(φ1 0)], .ran (binOp .neq 9 (.string ⟨(fldS B).toArray⟩) (.string ⟨(B).toArray⟩)), .look 0 [] [], .look 0 [] [], .look 0 [] [], .look 0 [.o 0] [(φ1 0)], .sub 0 [] [] (.bool (z == ((2 : Nat) : Int))), .look 0 [] [], .look 0 [] [], .look 0 [.o 0] [(φ1 0)], .call 64 #[.string ⟨(B).toArray⟩], .look 0 [] [], .look 0 [] [], .look 0 [] [], .look 0 [] [], .look 0 [] [], .look 0 [.o 0] [(φ1 0)], .sub 0 [] [] (.bool (z == ((3 : Nat) : Int))), .look 0 [] [], .skip, .skip, .skip, .skip, .look 0 [] [], .look 0 [] []]), (fun φ32 xs32 => [.pointer (some ⟨(φ1 0), 2, none⟩), .string ⟨(B).toArray⟩, .bool false, .bool false, .pointer (some ⟨(φ1 0), 2, none⟩), .string ⟨(B).toArray⟩, .string ⟨(fldS B).toArray⟩, .pointer (some ⟨(φ1 0), 2, none⟩), .string ⟨(B).toArray⟩, .bool false, .bool false, .bool false, .pointer (some ⟨(φ1 0), 0, none⟩), .int .i64 z, .bool true, .bool true, .pointer (some ⟨(φ1 0), 2, none⟩), .string ⟨(B).toArray⟩, .bool true, .bool false, .bool false, .bool false, .bool false, .pointer (some ⟨(φ1 0), 0, none⟩), .int .i64 z, .bool false, .bool false, undef, undef, undef, undef, .bool false, .bool false]), (fun φ32 xs32 => [[((φ1 0), .cells #[.int .i64 z, .string ⟨(A).toArray⟩, .string ⟨(B).toArray⟩] 42)]]), (fun φ32 xs32 => [[default, default, default, default, default, default, default, default, default, default, default, default, default, default, default, default, default, default, default, default, default, default, default, default, default, default, default, default, default, default, default, default, default]]), [], [1, 1, 6, 1, 1, 1, 3, 1, 1, 6, 1, 1, 1, 1, 5, 1, 1, 1, 3, 1, 1, 1, 1, 1, 1, 5, 1, 0, 0, 0, 0, 1, 1]⟩ (fun j => ([MP.any, MP.any, MP.any, MP.any, MP.any, MP.any, MP.any, MP.any, MP.any, MP.any, MP.any, MP.any, MP.any, MP.any, MP.any, MP.any, MP.any, MP.any, MP.any, MP.any, MP.any, MP.any, MP.any, MP.any, MP.any, MP.any, MP.any, MP.any, MP.any, MP.any, MP.any, MP.any, MP.any] : List MP).getD j MP.any) [6, 18] [14, 25] [2, 9] (fun φ32 xs32 => []) (fun φ32 xs32 => [(25, .pointer (some ⟨(φ1 0), 2, none⟩)), (26, .string ⟨(B).toArray⟩), (27, .bool false), (28, .bool false), (29, .pointer (some ⟨(φ1 0), 2, none⟩)), (30, .string ⟨(B).toArray⟩), (31, .string ⟨(fldS B).toArray⟩), (32, .pointer (some ⟨(φ1 0), 2, none⟩)), (33, .string ⟨(B).toArray⟩), (34, .bool false), (35, .bool false), (36, .bool false), (37, .pointer (some ⟨(φ1 0), 0, none⟩)), (38, .int .i64 z), (39, .bool true), (40, .bool true), (41, .pointer (some ⟨(φ1 0), 2, none⟩)), (42, .string ⟨(B).toArray⟩), (43, .bool true), (44, .bool false), (45, .bool false), (46, .bool false), (47, .bool false), (48, .pointer (some ⟨(φ1 0), 0, none⟩)), (49, .int .i64 z), (50, .bool false), (51, .bool false), (52, undef), (53, undef), (54, undef), (55, undef), (56, .bool false), (57, .bool false)]) (fun φ32 xs32 => [((φ1 0), .cells #[.int .i64 z, .string ⟨(A).toArray⟩, .string ⟨(B).toArray⟩] 42)]) s trivial (by kernel_rfl) (by kernel_rfl) (fun _ _ => by kernel_rfl) (fun _ _ => by kernel_rfl) ⟨fun _ _ => by kernel_rfl, fun _ _ => by kernel_rfl, fun _ _ => by kernel_rfl, fun _ _ => by kernel_rfl⟩ (fun _ _ _ => by kernel_rfl) (fun _ _ => by kernel_rfl) (fun _ _ => by kernel_rfl) (fun _ _ => by kernel_rfl) (fun _ _ => by kernel_rfl) (fun _ _ => by kernel_rfl) ⟨kcast (A := ∀ (φ32 : Nat → Nat) (xs32 : Xs), (.bool (z == ((2 : Nat) : Int)) : Value) = .bool true) (by kernel_rfl) (fun φ32 xs32 => congrArg Value.bool ((hc25))), ⟨kcast (A := ∀ (φ32 : Nat → Nat) (xs32 : Xs), (.bool (z == ((3 : Nat) : Int)) : Value) = .bool false) (by kernel_rfl) (fun φ32 xs32 => congrArg Value.bool ((hc27))), trivial⟩⟩ ⟨kcast (A := ∀ (φ32 : Nat → Nat) (xs32 : Xs) (J : IM) (w : World), I16.Le J → J.Sub w → ((binOp .eql 9 (.string ⟨(B).toArray⟩) (.string ⟨(([] : List UInt8)).toArray⟩)) : Sem Value).run Tryd.prog w = .ok (.bool false) w) (by kernel_rfl) (fun φ32 xs32 J w hJ hS => ((run_eqS (x := B) (y := ([] : List UInt8)) : ((binOp .eql 9 (.string ⟨(B).toArray⟩) (.string ⟨(([] : List UInt8)).toArray⟩)) : Sem Value).run Tryd.prog w = .ok (.bool (decide (B = ([] : List UInt8)))) w).trans (congrArg (fun q => Result.ok (Value.bool q) w) hc21))), ⟨kcast (A := ∀ (φ32 : Nat → Nat) (xs32 : Xs) (J : IM) (w : World), I16.Le J → J.Sub w → ((binOp .neq 9 (.string ⟨(fldS B).toArray⟩) (.string ⟨(B).toArray⟩)) : Sem Value).run Tryd.prog w = .ok (.bool false) w) (by kernel_rfl) (fun φ32 xs32 J w hJ hS => ((run_neS (x := fldS B) (y := B) : ((binOp .neq 9 (.string ⟨(fldS B).toArray⟩) (.string ⟨(B).toArray⟩)) : Sem Value).run Tryd.prog w = .ok (.bool (!(decide (fldS B = B)))) w).trans (congrArg (fun q => Result.ok (Value.bool (!q)) w) hc24))), trivial⟩⟩ (by kernel_rfl) ⟨?c32_6, ?c32_18, trivial⟩ ?k32
          case c32_6 =>
           refine kcast (A := ∀ (φ32 : Nat → Nat) (xs32 : Xs) (J6_32 : IM), I16.Le J6_32 → Fun Tryd.prog 63 #[.string ⟨(B).toArray⟩] J6_32 (fun v J' => ∃ x : UX, v = .string ⟨(fldS B).toArray⟩ ∧ (True))) (by kernel_rfl) ?_
           intro φ32 xs32 J6_32 leJ
           exact Fun.mono (refFold_c (l := B) hB) (fun v J' _ h => ⟨UX.d, h, trivial⟩)
          case c32_18 =>
           refine kcast (A := ∀ (φ32 : Nat → Nat) (xs32 : Xs) (J18_32 : IM), I16.Le J18_32 → (True) → Fun Tryd.prog 64 #[.string ⟨(B).toArray⟩] J18_32 (fun v J' => ∃ x : UX, v = .bool true ∧ (True))) (by kernel_rfl) ?_
           intro φ32 xs32 J18_32 leJ
           rintro _
           exact Fun.mono (refPhone_c (l := B) hB) (fun v J' _ h => ⟨UX.d, h.trans (congrArg Value.bool hc26), trivial⟩)
          case k32 =>
           rintro φ32 xs32 I32 w32 le32 s _ _
           refine cond_false_rule (b := false) (by kernel_rfl) rfl ?_
           refine wp_skip ?_
           refine seqR ?_
           refine oKD [(φ1 0, .cells #[.int .i64 z, .string ⟨(A).toArray⟩, .string ⟨(B).toArray⟩] 42)] [] 1 [] 0 (fun φ33 => [(2, .int .i64 0)]) (fun φ33 => []) s (fun φ33 => by kernel_rfl) (by kernel_rfl) ?_
           intro φ33 w33 s
           refine wp_ret ?_
           refine ret_rule (C := []) _ [] (.int .i64 0) [] [] s trivial (by kernel_rfl) ?_
           have ehc24 : decide (B = fldS B) = true := by rw [← hc24]; exact decide_eq_decide.2 eq_comm
           have dhc25 : decide (z = 2) = true := by have h9 := hc25; simpa using h9
           have e3hc25 : decide (z = 3) = false := decide_eq_false (by have h9 := dT9 dhc25; omega)
           have dhc27 : decide (z = 3) = false := by have h9 := hc27; simpa using h9
           exact ⟨_, _, _, rfl, s, (congrArg (fun q : Nat => Value.int .i64 (q : Int)) (rt5 (by have h8 := dF9 hc3; have h9 := dF9 hc7; omega) (by have h9 := dF9 hc13; omega) (by have h9 := dF9 hc19; omega) (by unfold fitsB; simp only [hc21, ehc24, dhc25, e3hc25, hc26, dhc27, Bool.not_true, Bool.not_false, Bool.true_and, Bool.and_true, Bool.false_and, Bool.and_false, Bool.true_or, Bool.or_true, Bool.false_or, Bool.or_false])).symm)⟩
        ·
         refine draw_rule (C := []) ⟨(fun φ34 xs34 => [.look 0 [] [], .look 0 [.o 0] [(φ1 0)], .ran (binOp .eql 9 (.string ⟨(B).toArray⟩) (.string ⟨(([] : List UInt8)).toArray⟩)), .look 0 [] [], .look 0 [] [], .look 0 [.o 0] [(φ1 0)], .call 63 #[.string ⟨(B).toArray⟩], .look 0 [] [], .look 0 [.o 0] [(φ1 0)], .ran (binOp .neq 9 (.string ⟨(fldS B).toArray⟩) (.string ⟨(B).toArray⟩)), .look 0 [] [], .look 0 [] [], .look 0 [] [], .look 0 [.o 0] [(φ1 0)], .sub 0 [] [] (.bool (z == ((2 : Nat) : Int))), .look 0 [] [], .look 0 [] [], .look 0 [.o 0] [(φ1 0)], .call 64 #[.string ⟨(B).toArray⟩], .look 0 [] [], .look 0 [] [], .look 0 [] [], .look 0 [] [], .skip, .skip, .skip, .skip, .skip, .skip, .skip, .skip, .skip, .look 0 [] []]), (fun φ34 xs34 => [.pointer (some ⟨(φ1 0), 2, none⟩), .string ⟨(B).toArray⟩, .bool false, .bool false, .pointer (some ⟨(φ1 0), 2, none⟩), .string ⟨(B).toArray⟩, .string ⟨(fldS B).toArray⟩, .pointer (some ⟨(φ1 0), 2, none⟩), .string ⟨(B).toArray⟩, .bool false, .bool false, .bool false, .pointer (some ⟨(φ1 0), 0, none⟩), .int .i64 z, .bool true, .bool true, .pointer (some ⟨(φ1 0), 2, none⟩), .string ⟨(B).toArray⟩, .bool false, .bool true, .bool true, .bool true, .bool true, undef, undef, undef, undef, undef, undef, undef, undef, undef, .bool true]), (fun φ34 xs34 => [[((φ1 0), .cells #[.int .i64 z, .string ⟨(A).toArray⟩, .string ⟨(B).toArray⟩] 42)]]), (fun φ34 xs34 => [[default, default, default, default, default, default, default, default, default, default, default, default, default, default, default, default, default, default, default, default, default, default, default, default, default, default, default, default, default, default, default, default, default]]), [], [1, 1, 6, 1, 1, 1, 3, 1, 1, 6, 1, 1, 1, 1, 5, 1, 1, 1, 3, 1, 1, 1, 1, 0, 0, 0, 0, 0, 0, 0, 0, 0, 1]⟩ (fun j => ([MP.any, MP.any, MP.any, MP.any, MP.any, MP.any, MP.any, MP.any, MP.any, MP.any, MP.any, MP.any, MP.any, MP.any, MP.any, MP.any, MP.any, MP.any, MP.any, MP.any, MP.any, MP.any, MP.any, MP.any, MP.any, MP.any, MP.any, MP.any, MP.any, MP.any, MP.any, MP.any, MP.any] : List MP).getD j MP.any) [6, 18] [14] [2, 9] (fun φ34 xs34 => []) (fun φ34 xs34 => [(25, .pointer (some ⟨(φ1 0), 2, none⟩)), (26, .string ⟨(B).toArray⟩), (27, .bool false), (28, .bool false), (29, .pointer (some ⟨(φ1 0), 2, none⟩)), (30, .string ⟨(B).toArray⟩), (31, .string ⟨(fldS B).toArray⟩), (32, .pointer (some ⟨(φ1 0), 2, none⟩)), (33, .string ⟨(B).toArray⟩), (34, .bool false), (35, .bool false), (36, .bool false), (37, .pointer (some ⟨(φ1 0), 0, none⟩)), (38, .int .i64 z), (39, .bool true), (40, .bool true), (41, .pointer (some ⟨(φ1 0), 2, none⟩)), (42, .string ⟨(B).toArray⟩), (43, .bool false), (44, .bool true), (45, .bool true), (46, .bool true), (47, .bool true), (48, undef), (49, undef), (50, undef), (51, undef), (52, undef), (53, undef), (54, undef), (55, undef), (56, undef), (57, .bool true)]) (fun φ34 xs34 => [((φ1 0), .cells #[.int .i64 z, .string ⟨(A).toArray⟩, .string ⟨(B).toArray⟩] 42)]) s trivial (by kernel_rfl) (by kernel_rfl) (fun _ _ => by kernel_rfl) (fun _ _ => by kernel_rfl) ⟨fun _ _ => by kernel_rfl, fun _ _ => by kernel_rfl, fun _ _ => by kernel_rfl, fun _ _ => by kernel_rfl⟩ (fun _ _ _ => by kernel_rfl) (fun _ _ => by kernel_rfl) (fun _ _ => by kernel_rfl) (fun _ _ => by kernel_rfl) (fun _ _ => by kernel_rfl) (fun _ _ => by kernel_rfl) ⟨kcast (A := ∀ (φ34 : Nat → Nat) (xs34 : Xs), (.bool (z == ((2 : Nat) : Int)) : Value) = .bool true) (by kernel_rfl) (fun φ34 xs34 => congrArg Value.bool ((hc25))), trivial⟩ ⟨kcast (A := ∀ (φ34 : Nat → Nat) (xs34 : Xs) (J : IM) (w : World), I16.Le J → J.Sub w → ((binOp .eql 9 (.string ⟨(B).toArray⟩) (.string ⟨(([] : List UInt8)).toArray⟩)) : Sem Value).run Tryd.prog w = .ok (.bool false) w) (by kernel_rfl) (fun φ34 xs34 J w hJ hS => ((run_eqS (x := B) (y := ([] : List UInt8)) : ((binOp .eql 9 (.string ⟨(B).toArray⟩) (.string ⟨(([] : List UInt8)).toArray⟩)) : Sem Value).run Tryd.prog w = .ok (.bool (decide (B = ([] : List UInt8)))) w).trans (congrArg (fun q => Result.ok (Value.bool q) w) hc21))), ⟨kcast (A := ∀ (φ34 : Nat → Nat) (xs34 : Xs) (J : IM) (w : World), I16.Le J → J.Sub w → ((binOp .neq 9 (.string ⟨(fldS B).toArray⟩) (.string ⟨(B).toArray⟩)) : Sem Value).run Tryd.prog w = .ok (.bool false) w) (by kernel_rfl) (fun φ34 xs34 J w hJ hS => ((run_neS (x := fldS B) (y := B) : ((binOp .neq 9 (.string ⟨(fldS B).toArray⟩) (.string ⟨(B).toArray⟩)) : Sem Value).run Tryd.prog w = .ok (.bool (!(decide (fldS B = B)))) w).trans (congrArg (fun q => Result.ok (Value.bool (!q)) w) hc24))), trivial⟩⟩ (by kernel_rfl) ⟨?c34_6, ?c34_18, trivial⟩ ?k34
         case c34_6 =>
          refine kcast (A := ∀ (φ34 : Nat → Nat) (xs34 : Xs) (J6_34 : IM), I16.Le J6_34 → Fun Tryd.prog 63 #[.string ⟨(B).toArray⟩] J6_34 (fun v J' => ∃ x : UX, v = .string ⟨(fldS B).toArray⟩ ∧ (True))) (by kernel_rfl) ?_
          intro φ34 xs34 J6_34 leJ
          exact Fun.mono (refFold_c (l := B) hB) (fun v J' _ h => ⟨UX.d, h, trivial⟩)
         case c34_18 =>
          refine kcast (A := ∀ (φ34 : Nat → Nat) (xs34 : Xs) (J18_34 : IM), I16.Le J18_34 → (True) → Fun Tryd.prog 64 #[.string ⟨(B).toArray⟩] J18_34 (fun v J' => ∃ x : UX, v = .bool false ∧ (True))) (by kernel_rfl) ?_
          intro φ34 xs34 J18_34 leJ
          rintro _
          exact Fun.mono (refPhone_c (l := B) hB) (fun v J' _ h => ⟨UX.d, h.trans (congrArg Value.bool hc26), trivial⟩)
         case k34 =>
          rintro φ34 xs34 I34 w34 le34 s _ _
          refine cond_true_rule (b := true) (by kernel_rfl) rfl ?_
          refine seqR ?_
          refine oKD [(φ1 0, .cells #[.int .i64 z, .string ⟨(A).toArray⟩, .string ⟨(B).toArray⟩] 42)] [] 1 [] 0 (fun φ35 => [(2, .int .i64 7)]) (fun φ35 => []) s (fun φ35 => by kernel_rfl) (by kernel_rfl) ?_
          intro φ35 w35 s
          refine wp_ret ?_
          refine ret_rule (C := []) _ [] (.int .i64 7) [] [] s trivial (by kernel_rfl) ?_
          have ehc24 : decide (B = fldS B) = true := by rw [← hc24]; exact decide_eq_decide.2 eq_comm
          have dhc25 : decide (z = 2) = true := by have h9 := hc25; simpa using h9
          have e3hc25 : decide (z = 3) = false := decide_eq_false (by have h9 := dT9 dhc25; omega)
          exact ⟨_, _, _, rfl, s, (congrArg (fun q : Nat => Value.int .i64 (q : Int)) (rt4 (by have h8 := dF9 hc3; have h9 := dF9 hc7; omega) (by have h9 := dF9 hc13; omega) (by have h9 := dF9 hc19; omega) (by unfold fitsB; simp only [hc21, ehc24, dhc25, e3hc25, hc26, Bool.not_true, Bool.not_false, Bool.true_and, Bool.and_true, Bool.false_and, Bool.and_false, Bool.true_or, Bool.or_true, Bool.false_or, Bool.or_false])).symm)⟩
       ·
        rcases Bool.eq_false_or_eq_true (z == ((3 : Nat) : Int)) with hc36 | hc36
        ·
         refine draw_rule (C := []) ⟨(fun φ37 xs37 => [.look 0 [] [], .look 0 [.o 0] [(φ1 0)], .ran (binOp .eql 9 (.string ⟨(B).toArray⟩) (.string ⟨(([] : List UInt8)).toArray⟩)), .look 0 [] [], .look 0 [] [], .look 0 [.o 0] [(φ1 0)], .call 63 #[.string ⟨(B).toArray⟩], .look 0 [] [], .look 0 [.o 0] [(φ1 0)], .ran (binOp .neq 9 (.string ⟨(fldS B).toArray⟩) (.string ⟨(B).toArray⟩)), .look 0 [] [], .look 0 [] [], .look 0 [] [], .look 0 [.o 0] [(φ1 0)], .sub 0 [] [] (.bool (z == ((2 : Nat) : Int))), .look 0 [] [], .skip, .skip, .skip, .skip, .look 0 [] [], .look 0 [] [], .look 0 [] [], .look 0 [] [], .look 0 [.o 0] [(φ1 0)], .sub 0 [] [] (.bool (z == ((3 : Nat) : Int))), .look 0 [] [], .look 0 [] [], .look 0 [.o 0] [(φ1 0)], .call 65 #[.string ⟨(B).toArray⟩], .look 0 [] [], .look 0 [] [], .look 0 [] []]), (fun φ37 xs37 => [.pointer (some ⟨(φ1 0), 2, none⟩), .string ⟨(B).toArray⟩, .bool false, .bool false, .pointer (some ⟨(φ1 0), 2, none⟩), .string ⟨(B).toArray⟩, .string ⟨(fldS B).toArray⟩, .pointer (some ⟨(φ1 0), 2, none⟩), .string ⟨(B).toArray⟩, .bool false, .bool false, .bool false, .pointer (some ⟨(φ1 0), 0, none⟩), .int .i64 z, .bool false, .bool false, undef, undef, undef, undef, .bool false, .bool false, .bool false, .pointer (some ⟨(φ1 0), 0, none⟩), .int .i64 z, .bool true, .bool true, .pointer (some ⟨(φ1 0), 2, none⟩), .string ⟨(B).toArray⟩, .bool (mail B), .bool (!(mail B)), .bool (!(mail B)), .bool (!(mail B))]), (fun φ37 xs37 => [[((φ1 0), .cells #[.int .i64 z, .string ⟨(A).toArray⟩, .string ⟨(B).toArray⟩] 42)]]), (fun φ37 xs37 => [[default, default, default, default, default, default, default, default, default, default, default, default, default, default, default, default, default, default, default, default, default, default, default, default, default, default, default, default, default, default, default, default, default]]), [], [1, 1, 6, 1, 1, 1, 3, 1, 1, 6, 1, 1, 1, 1, 5, 1, 0, 0, 0, 0, 1, 1, 1, 1, 1, 5, 1, 1, 1, 3, 1, 1, 1]⟩ (fun j => ([MP.any, MP.any, MP.any, MP.any, MP.any, MP.any, MP.any, MP.any, MP.any, MP.any, MP.any, MP.any, MP.any, MP.any, MP.any, MP.any, MP.any, MP.any, MP.any, MP.any, MP.any, MP.any, MP.any, MP.any, MP.any, MP.any, MP.any, MP.any, MP.any, MP.any, MP.any, MP.any, MP.any] : List MP).getD j MP.any) [6, 29] [14, 25] [2, 9] (fun φ37 xs37 => []) (fun φ37 xs37 => [(25, .pointer (some ⟨(φ1 0), 2, none⟩)), (26, .string ⟨(B).toArray⟩), (27, .bool false), (28, .bool false), (29, .pointer (some ⟨(φ1 0), 2, none⟩)), (30, .string ⟨(B).toArray⟩), (31, .string ⟨(fldS B).toArray⟩), (32, .pointer (some ⟨(φ1 0), 2, none⟩)), (33, .string ⟨(B).toArray⟩), (34, .bool false), (35, .bool false), (36, .bool false), (37, .pointer (some ⟨(φ1 0), 0, none⟩)), (38, .int .i64 z), (39, .bool false), (40, .bool false), (41, undef), (42, undef), (43, undef), (44, undef), (45, .bool false), (46, .bool false), (47, .bool false), (48, .pointer (some ⟨(φ1 0), 0, none⟩)), (49, .int .i64 z), (50, .bool true), (51, .bool true), (52, .pointer (some ⟨(φ1 0), 2, none⟩)), (53, .string ⟨(B).toArray⟩), (54, .bool (mail B)), (55, .bool (!(mail B))), (56, .bool (!(mail B))), (57, .bool (!(mail B)))]) (fun φ37 xs37 => [((φ1 0), .cells #[.int .i64 z, .string ⟨(A).toArray⟩, .string ⟨(B).toArray⟩] 42)]) s trivial (by kernel_rfl) (by kernel_rfl) (fun _ _ => by kernel_rfl) (fun _ _ => by kernel_rfl) ⟨fun _ _ => by kernel_rfl, fun _ _ => by kernel_rfl, fun _ _ => by kernel_rfl, fun _ _ => by kernel_rfl⟩ (fun _ _ _ => by kernel_rfl) (fun _ _ => by kernel_rfl) (fun _ _ => by kernel_rfl) (fun _ _ => by kernel_rfl) (fun _ _ => by kernel_rfl) (fun _ _ => by kernel_rfl) ⟨kcast (A := ∀ (φ37 : Nat → Nat) (xs37 : Xs), (.bool (z == ((2 : Nat) : Int)) : Value) = .bool false) (by kernel_rfl) (fun φ37 xs37 => congrArg Value.bool ((hc25))), ⟨kcast (A := ∀ (φ37 : Nat → Nat) (xs37 : Xs), (.bool (z == ((3 : Nat) : Int)) : Value) = .bool true) (by kernel_rfl) (fun φ37 xs37 => congrArg Value.bool ((hc36))), trivial⟩⟩ ⟨kcast (A := ∀ (φ37 : Nat → Nat) (xs37 : Xs) (J : IM) (w : World), I16.Le J → J.Sub w → ((binOp .eql 9 (.string ⟨(B).toArray⟩) (.string ⟨(([] : List UInt8)).toArray⟩)) : Sem Value).run Tryd.prog w = .ok (.bool false) w) (by kernel_rfl) (fun φ37 xs37 J w hJ hS => ((run_eqS (x := B) (y := ([] : List UInt8)) : ((binOp .eql 9 (.string ⟨(B).toArray⟩) (.string ⟨(([] : List UInt8)).toArray⟩)) : Sem Value).run Tryd.prog w = .ok (.bool (decide (B = ([] : List UInt8)))) w).trans (congrArg (fun q => Result.ok (Value.bool q) w) hc21))), ⟨kcast (A := ∀ (φ37 : Nat → Nat) (xs37 : Xs) (J : IM) (w : World), I16.Le J → J.Sub w → ((binOp .neq 9 (.string ⟨(fldS B).toArray⟩) (.string ⟨(B).toArray⟩)) : Sem Value).run Tryd.prog w = .ok (.bool false) w) (by kernel_rfl) (fun φ37 xs37 J w hJ hS => ((run_neS (x := fldS B) (y := B) : ((binOp .neq 9 (.string ⟨(fldS B).toArray⟩) (.string ⟨(B).toArray⟩)) : Sem Value).run Tryd.prog w = .ok (.bool (!(decide (fldS B = B)))) w).trans (congrArg (fun q => Result.ok (Value.bool (!q)) w) hc24))), trivial⟩⟩ (by kernel_rfl) ⟨?c37_6, ?c37_29, trivial⟩ ?k37
         case c37_6 =>
          refine kcast (A := ∀ (φ37 : Nat → Nat) (xs37 : Xs) (J6_37 : IM), I16.Le J6_37 → Fun Tryd.prog 63 #[.string ⟨(B).toArray⟩] J6_37 (fun v J' => ∃ x : UX, v = .string ⟨(fldS B).toArray⟩ ∧ (True))) (by kernel_rfl) ?_
          intro φ37 xs37 J6_37 leJ
          exact Fun.mono (refFold_c (l := B) hB) (fun v J' _ h => ⟨UX.d, h, trivial⟩)
         case c37_29 =>
          refine kcast (A := ∀ (φ37 : Nat → Nat) (xs37 : Xs) (J29_37 : IM), I16.Le J29_37 → (True) → Fun Tryd.prog 65 #[.string ⟨(B).toArray⟩] J29_37 (fun v J' => ∃ x : UX, v = .bool (mail B) ∧ (True))) (by kernel_rfl) ?_
          intro φ37 xs37 J29_37 leJ
          rintro _
          exact Fun.mono (refMail_c (l := B) hB) (fun v J' _ h => ⟨UX.d, h, trivial⟩)
         case k37 =>
          rintro φ37 xs37 I37 w37 le37 s _ _
          rcases Bool.eq_false_or_eq_true (mail B) with hc38 | hc38
          ·
           rw [hc38]
           refine cond_false_rule (b := false) (by kernel_rfl) rfl ?_
           refine wp_skip ?_
           refine seqR ?_
           refine oKD [(φ1 0, .cells #[.int .i64 z, .string ⟨(A).toArray⟩, .string ⟨(B).toArray⟩] 42)] [] 1 [] 0 (fun φ39 => [(2, .int .i64 0)]) (fun φ39 => []) s (fun φ39 => by kernel_rfl) (by kernel_rfl) ?_
           intro φ39 w39 s
           refine wp_ret ?_
           refine ret_rule (C := []) _ [] (.int .i64 0) [] [] s trivial (by kernel_rfl) ?_
           have ehc24 : decide (B = fldS B) = true := by rw [← hc24]; exact decide_eq_decide.2 eq_comm
           have dhc25 : decide (z = 2) = false := by have h9 := hc25; simpa using h9
           have dhc36 : decide (z = 3) = true := by have h9 := hc36; simpa using h9
           exact ⟨_, _, _, rfl, s, (congrArg (fun q : Nat => Value.int .i64 (q : Int)) (rt5 (by have h8 := dF9 hc3; have h9 := dF9 hc7; omega) (by have h9 := dF9 hc13; omega) (by have h9 := dF9 hc19; omega) (by unfold fitsB; simp only [hc21, ehc24, dhc25, dhc36, hc38, Bool.not_true, Bool.not_false, Bool.true_and, Bool.and_true, Bool.false_and, Bool.and_false, Bool.true_or, Bool.or_true, Bool.false_or, Bool.or_false])).symm)⟩
          ·
           rw [hc38]
           refine cond_true_rule (b := true) (by kernel_rfl) rfl ?_
           refine seqR ?_
           refine oKD [(φ1 0, .cells #[.int .i64 z, .string ⟨(A).toArray⟩, .string ⟨(B).toArray⟩] 42)] [] 1 [] 0 (fun φ40 => [(2, .int .i64 7)]) (fun φ40 => []) s (fun φ40 => by kernel_rfl) (by kernel_rfl) ?_
           intro φ40 w40 s
           refine wp_ret ?_
           refine ret_rule (C := []) _ [] (.int .i64 7) [] [] s trivial (by kernel_rfl) ?_
           have ehc24 : decide (B = fldS B) = true := by rw [← hc24]; exact decide_eq_decide.2 eq_comm
           have dhc25 : decide (z = 2) = false := by have h9 := hc25; simpa using h9
           have dhc36 : decide (z = 3) = true := by have h9 := hc36; simpa using h9
           exact ⟨_, _, _, rfl, s, (congrArg (fun q : Nat => Value.int .i64 (q : Int)) (rt4 (by have h8 := dF9 hc3; have h9 := dF9 hc7; omega) (by have h9 := dF9 hc13; omega) (by have h9 := dF9 hc19; omega) (by unfold fitsB; simp only [hc21, ehc24, dhc25, dhc36, hc38, Bool.not_true, Bool.not_false, Bool.true_and, Bool.and_true, Bool.false_and, Bool.and_false, Bool.true_or, Bool.or_true, Bool.false_or, Bool.or_false])).symm)⟩
        ·
         refine draw_rule (C := []) ⟨(fun φ41 xs41 => [.look 0 [] [], .look 0 [.o 0] [(φ1 0)], .ran (binOp .eql 9 (.string ⟨(B).toArray⟩) (.string ⟨(([] : List UInt8)).toArray⟩)), .look 0 [] [], .look 0 [] [], .look 0 [.o 0] [(φ1 0)], .call 63 #[.string ⟨(B).toArray⟩], .look 0 [] [], .look 0 [.o 0] [(φ1 0)], .ran (binOp .neq 9 (.string ⟨(fldS B).toArray⟩) (.string ⟨(B).toArray⟩)), .look 0 [] [], .look 0 [] [], .look 0 [] [], .look 0 [.o 0] [(φ1 0)], .sub 0 [] [] (.bool (z == ((2 : Nat) : Int))), .look 0 [] [], .skip, .skip, .skip, .skip, .look 0 [] [], .look 0 [] [], .look 0 [] [], .look 0 [] [], .look 0 [.o 0] [(φ1 0)], .sub 0 [] [] (.bool (z == ((3 : Nat) : Int))), .look 0 [] [], .skip, .skip, .skip, .skip, .look 0 [] [], .look 0 [] []]), (fun φ41 xs41 => [.pointer (some ⟨(φ1 0), 2, none⟩), .string ⟨(B).toArray⟩, .bool false, .bool false, .pointer (some ⟨(φ1 0), 2, none⟩), .string ⟨(B).toArray⟩, .string ⟨(fldS B).toArray⟩, .pointer (some ⟨(φ1 0), 2, none⟩), .string ⟨(B).toArray⟩, .bool false, .bool false, .bool false, .pointer (some ⟨(φ1 0), 0, none⟩), .int .i64 z, .bool false, .bool false, undef, undef, undef, undef, .bool false, .bool false, .bool false, .pointer (some ⟨(φ1 0), 0, none⟩), .int .i64 z, .bool false, .bool false, undef, undef, undef, undef, .bool false, .bool false]), (fun φ41 xs41 => [[((φ1 0), .cells #[.int .i64 z, .string ⟨(A).toArray⟩, .string ⟨(B).toArray⟩] 42)]]), (fun φ41 xs41 => [[default, default, default, default, default, default, default, default, default, default, default, default, default, default, default, default, default, default, default, default, default, default, default, default, default, default, default, default, default, default, default, default, default]]), [], [1, 1, 6, 1, 1, 1, 3, 1, 1, 6, 1, 1, 1, 1, 5, 1, 0, 0, 0, 0, 1, 1, 1, 1, 1, 5, 1, 0, 0, 0, 0, 1, 1]⟩ (fun j => ([MP.any, MP.any, MP.any, MP.any, MP.any, MP.any, MP.any, MP.any, MP.any, MP.any, MP.any, MP.any, MP.any, MP.any, MP.any, MP.any, MP.any, MP.any, MP.any, MP.any, MP.any, MP.any, MP.any, MP.any, MP.any, MP.any, MP.any, MP.any, MP.any, MP.any, MP.any, MP.any, MP.any] : List MP).getD j MP.any) [6] [14, 25] [2, 9] (fun φ41 xs41 => []) (fun φ41 xs41 => [(25, .pointer (some ⟨(φ1 0), 2, none⟩)), (26, .string ⟨(B).toArray⟩), (27, .bool false), (28, .bool false), (29, .pointer (some ⟨(φ1 0), 2, none⟩)), (30, .string ⟨(B).toArray⟩), (31, .string ⟨(fldS B).toArray⟩), (32, .pointer (some ⟨(φ1 0), 2, none⟩)), (33, .string ⟨(B).toArray⟩), (34, .bool false), (35, .bool false), (36, .bool false), (37, .pointer (some ⟨(φ1 0), 0, none⟩)), (38, .int .i64 z), (39, .bool false), (40, .bool false), (41, undef), (42, undef), (43, undef), (44, undef), (45, .bool false), (46, .bool false), (47, .bool false), (48, .pointer (some ⟨(φ1 0), 0, none⟩)), (49, .int .i64 z), (50, .bool false), (51, .bool false), (52, undef), (53, undef), (54, undef), (55, undef), (56, .bool false), (57, .bool false)]) (fun φ41 xs41 => [((φ1 0), .cells #[.int .i64 z, .string ⟨(A).toArray⟩, .string ⟨(B).toArray⟩] 42)]) s trivial (by kernel_rfl) (by kernel_rfl) (fun _ _ => by kernel_rfl) (fun _ _ => by kernel_rfl) ⟨fun _ _ => by kernel_rfl, fun _ _ => by kernel_rfl, fun _ _ => by kernel_rfl, fun _ _ => by kernel_rfl⟩ (fun _ _ _ => by kernel_rfl) (fun _ _ => by kernel_rfl) (fun _ _ => by kernel_rfl) (fun _ _ => by kernel_rfl) (fun _ _ => by kernel_rfl) (fun _ _ => by kernel_rfl) ⟨kcast (A := ∀ (φ41 : Nat → Nat) (xs41 : Xs), (.bool (z == ((2 : Nat) : Int)) : Value) = .bool false) (by kernel_rfl) (fun φ41 xs41 => congrArg Value.bool ((hc25))), ⟨kcast (A := ∀ (φ41 : Nat → Nat) (xs41 : Xs), (.bool (z == ((3 : Nat) : Int)) : Value) = .bool false) (by kernel_rfl) (fun φ41 xs41 => congrArg Value.bool ((hc36))), trivial⟩⟩ ⟨kcast (A := ∀ (φ41 : Nat → Nat) (xs41 : Xs) (J : IM) (w : World), I16.Le J → J.Sub w → ((binOp .eql 9 (.string ⟨(B).toArray⟩) (.string ⟨(([] : List UInt8)).toArray⟩)) : Sem Value).run Tryd.prog w = .ok (.bool false) w) (by kernel_rfl) (fun φ41 xs41 J w hJ hS => ((run_eqS (x := B) (y := ([] : List UInt8)) : ((binOp .eql 9 (.string ⟨(B).toArray⟩) (.string ⟨(([] : List UInt8)).toArray⟩)) : Sem Value).run Tryd.prog w = .ok (.bool (decide (B = ([] : List UInt8)))) w).trans (congrArg (fun q => Result.ok (Value.bool q) w) hc21))), ⟨kcast (A := ∀ (φ41 : Nat → Nat) (xs41 : Xs) (J : IM) (w : World), I16.Le J → J.Sub w → ((binOp .neq 9 (.string ⟨(fldS B).toArray⟩) (.string ⟨(B).toArray⟩)) : Sem Value).run Tryd.prog w = .ok (.bool false) w) (by kernel_rfl) (fun φ41 xs41 J w hJ hS => ((run_neS (x := fldS B) (y := B) : ((binOp .neq 9 (.string ⟨(fldS B).toArray⟩) (.string ⟨(B).toArray⟩)) : Sem Value).run Tryd.prog w = .ok (.bool (!(decide (fldS B = B)))) w).trans (congrArg (fun q => Result.ok (Value.bool (!q)) w) hc24))), trivial⟩⟩ (by kernel_rfl) ⟨?c41_6, trivial⟩ ?k41
         case c41_6 =>
          refine kcast (A := ∀ (φ41 : Nat → Nat) (xs41 : Xs) (J6_41 : IM), I16.Le J6_41 → Fun Tryd.prog 63 #[.string ⟨(B).toArray⟩] J6_41 (fun v J' => ∃ x : UX, v = .string ⟨(fldS B).toArray⟩ ∧ (True))) (by kernel_rfl) ?_
          intro φ41 xs41 J6_41 leJ
          exact Fun.mono (refFold_c (l := B) hB) (fun v J' _ h => ⟨UX.d, h, trivial⟩)
         case k41 =>
          rintro φ41 xs41 I41 w41 le41 s _
          refine cond_false_rule (b := false) (by kernel_rfl) rfl ?_
          refine wp_skip ?_
          refine seqR ?_
          refine oKD [(φ1 0, .cells #[.int .i64 z, .string ⟨(A).toArray⟩, .string ⟨(B).toArray⟩] 42)] [] 1 [] 0 (fun φ42 => [(2, .int .i64 0)]) (fun φ42 => []) s (fun φ42 => by kernel_rfl) (by kernel_rfl) ?_
          intro φ42 w42 s
          refine wp_ret ?_
          refine ret_rule (C := []) _ [] (.int .i64 0) [] [] s trivial (by kernel_rfl) ?_
          have ehc24 : decide (B = fldS B) = true := by rw [← hc24]; exact decide_eq_decide.2 eq_comm
          have dhc25 : decide (z = 2) = false := by have h9 := hc25; simpa using h9
          have dhc36 : decide (z = 3) = false := by have h9 := hc36; simpa using h9
          exact ⟨_, _, _, rfl, s, (congrArg (fun q : Nat => Value.int .i64 (q : Int)) (rt5 (by have h8 := dF9 hc3; have h9 := dF9 hc7; omega) (by have h9 := dF9 hc13; omega) (by have h9 := dF9 hc19; omega) (by unfold fitsB; simp only [hc21, ehc24, dhc25, dhc36, Bool.not_true, Bool.not_false, Bool.true_and, Bool.and_true, Bool.false_and, Bool.and_false, Bool.true_or, Bool.or_true, Bool.false_or, Bool.or_false])).symm)⟩
      ·
       refine draw_rule (C := []) ⟨(fun φ43 xs43 => [.look 0 [] [], .look 0 [.o 0] [(φ1 0)], .ran (binOp .eql 9 (.string ⟨(B).toArray⟩) (.string ⟨(([] : List UInt8)).toArray⟩)), .look 0 [] [], .look 0 [] [], .look 0 [.o 0] [(φ1 0)], .call 63 #[.string ⟨(B).toArray⟩], .look 0 [] [], .look 0 [.o 0] [(φ1 0)], .ran (binOp .neq 9 (.string ⟨(fldS B).toArray⟩) (.string ⟨(B).toArray⟩)), .look 0 [] [], .look 0 [] [], .skip, .skip, .skip, .skip, .skip, .skip, .skip, .skip, .skip, .look 0 [] [], .look 0 [] [], .skip, .skip, .skip, .skip, .skip, .skip, .skip, .skip, .skip, .look 0 [] []]), (fun φ43 xs43 => [.pointer (some ⟨(φ1 0), 2, none⟩), .string ⟨(B).toArray⟩, .bool false, .bool false, .pointer (some ⟨(φ1 0), 2, none⟩), .string ⟨(B).toArray⟩, .string ⟨(fldS B).toArray⟩, .pointer (some ⟨(φ1 0), 2, none⟩), .string ⟨(B).toArray⟩, .bool true, .bool true, .bool true, undef, undef, undef, undef, undef, undef, undef, undef, undef, .bool true, .bool true, undef, undef, undef, undef, undef, undef, undef, undef, undef, .bool true]), (fun φ43 xs43 => [[(φ1 0, .cells #[.int .i64 z, .string ⟨(A).toArray⟩, .string ⟨(B).toArray⟩] 42)]]), (fun φ43 xs43 => [[default, default, default, default, default, default, default, default, default, default, default, default, default, default, default, default, default, default, default, default, default, default, default, default, default, default, default, default, default, default, default, default, default]]), [], [1, 1, 6, 1, 1, 1, 3, 1, 1, 6, 1, 1, 0, 0, 0, 0, 0, 0, 0, 0, 0, 1, 1, 0, 0, 0, 0, 0, 0, 0, 0, 0, 1]⟩ (fun j => ([MP.any] : List MP).getD j MP.any) [6] [] [2, 9] (fun φ43 xs43 => []) (fun φ43 xs43 => [(25, .pointer (some ⟨(φ1 0), 2, none⟩)), (26, .string ⟨(B).toArray⟩), (27, .bool false), (28, .bool false), (29, .pointer (some ⟨(φ1 0), 2, none⟩)), (30, .string ⟨(B).toArray⟩), (31, .string ⟨(fldS B).toArray⟩), (32, .pointer (some ⟨(φ1 0), 2, none⟩)), (33, .string ⟨(B).toArray⟩), (34, .bool true), (35, .bool true), (36, .bool true), (37, undef), (38, undef), (39, undef), (40, undef), (41, undef), (42, undef), (43, undef), (44, undef), (45, undef), (46, .bool true), (47, .bool true), (48, undef), (49, undef), (50, undef), (51, undef), (52, undef), (53, undef), (54, undef), (55, undef), (56, undef), (57, .bool true)]) (fun φ43 xs43 => [(φ1 0, .cells #[.int .i64 z, .string ⟨(A).toArray⟩, .string ⟨(B).toArray⟩] 42)]) s trivial (by kernel_rfl) (by kernel_rfl) (fun _ _ => by kernel_rfl) (fun _ _ => by kernel_rfl) ⟨fun _ _ => by kernel_rfl, fun _ _ => by kernel_rfl, fun _ _ => by kernel_rfl, fun _ _ => by kernel_rfl⟩ (fun _ _ _ => by kernel_rfl) (fun _ _ => by kernel_rfl) (fun _ _ => by kernel_rfl) (fun _ _ => by kernel_rfl) (fun _ _ => by kernel_rfl) (fun _ _ => by kernel_rfl) trivial ⟨kcast (A := ∀ (φ43 : Nat → Nat) (xs43 : Xs) (J : IM) (w : World), I16.Le J → J.Sub w → ((binOp .eql 9 (.string ⟨(B).toArray⟩) (.string ⟨(([] : List UInt8)).toArray⟩)) : Sem Value).run Tryd.prog w = .ok (.bool false) w) (by kernel_rfl) (fun φ43 xs43 J w hJ hS => ((run_eqS (x := B) (y := ([] : List UInt8)) : ((binOp .eql 9 (.string ⟨(B).toArray⟩) (.string ⟨(([] : List UInt8)).toArray⟩)) : Sem Value).run Tryd.prog w = .ok (.bool (decide (B = ([] : List UInt8)))) w).trans (congrArg (fun q => Result.ok (Value.bool q) w) hc21))), ⟨kcast (A := ∀ (φ43 : Nat → Nat) (xs43 : Xs) (J : IM) (w : World), I16.Le J → J.Sub w → ((binOp .neq 9 (.string ⟨(fldS B).toArray⟩) (.string ⟨(B).toArray⟩)) : Sem Value).run Tryd.prog w = .ok (.bool true) w) (by kernel_rfl) (fun φ43 xs43 J w hJ hS => ((run_neS (x := fldS B) (y := B) : ((binOp .neq 9 (.string ⟨(fldS B).toArray⟩) (.string ⟨(B).toArray⟩)) : Sem Value).run Tryd.prog w = .ok (.bool (!(decide (fldS B = B)))) w).trans (congrArg (fun q => Result.ok (Value.bool (!q)) w) hc24))), trivial⟩⟩ (by kernel_rfl) ⟨?c43_6, trivial⟩ ?k43
       case c43_6 =>
        refine kcast (A := ∀ (φ43 : Nat → Nat) (xs43 : Xs) (J6_43 : IM), I16.Le J6_43 → Fun Tryd.prog 63 #[.string ⟨(B).toArray⟩] J6_43 (fun v J' => ∃ x : UX, v = .string ⟨(fldS B).toArray⟩ ∧ (True))) (by kernel_rfl) ?_
        intro φ43 xs43 J6_43 leJ
        exact Fun.mono (refFold_c (l := B) hB) (fun v J' _ h => ⟨UX.d, h, trivial⟩)
       case k43 =>
        rintro φ43 xs43 I43 w43 le43 s _
        refine cond_true_rule (b := true) (by kernel_rfl) rfl ?_
        refine seqR ?_
        refine oKD [(φ1 0, .cells #[.int .i64 z, .string ⟨(A).toArray⟩, .string ⟨(B).toArray⟩] 42)] [] 1 [] 0 (fun φ44 => [(2, .int .i64 7)]) (fun φ44 => []) s (fun φ44 => by kernel_rfl) (by kernel_rfl) ?_
        intro φ44 w44 s
        refine wp_ret ?_
        refine ret_rule (C := []) _ [] (.int .i64 7) [] [] s trivial (by kernel_rfl) ?_
        have ehc24 : decide (B = fldS B) = false := by rw [← hc24]; exact decide_eq_decide.2 eq_comm
        exact ⟨_, _, _, rfl, s, (congrArg (fun q : Nat => Value.int .i64 (q : Int)) (rt4 (by have h8 := dF9 hc3; have h9 := dF9 hc7; omega) (by have h9 := dF9 hc13; omega) (by have h9 := dF9 hc19; omega) (by unfold fitsB; simp only [hc21, ehc24, Bool.not_true, Bool.not_false, Bool.true_and, Bool.and_true, Bool.false_and, Bool.and_false, Bool.true_or, Bool.or_true, Bool.false_or, Bool.or_false])).symm)⟩

end Go.Proofs.YtcpmjogeafhpnaaDoor.Tx
/- Slices of fields, and of ints. -/
set_option linter.all false
set_option maxRecDepth 100000
namespace Go.Proofs.YtcpmjogeafhpnaaDoor
open Go.RowKit Go.Sep
structure Fe where
  k : Int
  a : List UInt8
  v : List UInt8
def Fe.z : Fe := ⟨0, [], []⟩
def fc (x : Fe) : List Value := [.int .i64 x.k, .string ⟨x.a.toArray⟩, .string ⟨x.v.toArray⟩]
def fcs (L : List Fe) : List Value := L.flatMap fc
theorem fcs_append (l m : List Fe) : fcs (l ++ m) = fcs l ++ fcs m := List.flatMap_append
theorem fcs_length : ∀ l : List Fe, (fcs l).length = l.length * 3
  | [] => rfl
  | s :: l => by
    have := fcs_length l
    have e : fcs (s :: l) = fc s ++ fcs l := rfl
    rw [e, List.length_append, this]; simp only [fc, List.length_cons, List.length_nil]; omega
theorem fcs_at : ∀ {L : List Fe} {i : Nat} {x : Fe}, L[i]? = some x → (fcs L)[i * 3]? = some (.int .i64 x.k) ∧ (fcs L)[i * 3 + 1]? = some (.string ⟨x.a.toArray⟩) ∧ (fcs L)[i * 3 + 2]? = some (.string ⟨x.v.toArray⟩)
  | [], _, _, h => by simp at h
  | s :: L, 0, x, h => by
    simp only [List.getElem?_cons_zero, Option.some.injEq] at h
    subst h
    exact ⟨rfl, rfl, rfl⟩
  | s :: L, i + 1, x, h => by
    have := fcs_at (L := L) (i := i) (x := x) (by simpa using h)
    have e : fcs (s :: L) = fc s ++ fcs L := rfl
    have hl : (fc s).length = 3 := rfl
    rw [e, List.getElem?_append_right (by omega), List.getElem?_append_right (by omega), List.getElem?_append_right (by omega), hl,
      show (i + 1) * 3 - 3 = i * 3 by omega, show (i + 1) * 3 + 1 - 3 = i * 3 + 1 by omega, show (i + 1) * 3 + 2 - 3 = i * 3 + 2 by omega]
    exact this
/-- v is a slice of these fields, never written -/
def FSl (I : IM) (L : List Fe) (v : Value) : Prop := ∃ a cap, v = .slice a L.length cap ∧ L.length ≤ cap ∧ ∀ (j : Nat) (x : Fe), L[j]? = some x → ∃ (b o : Nat) (cs : Array Value) (T : TypeId) (fr : Nat × Nat), a = some ⟨b, o, none⟩ ∧ I b = some (.cells cs T fr) ∧ cs[o + j * 3]? = some (.int .i64 x.k) ∧ cs[o + j * 3 + 1]? = some (.string ⟨x.a.toArray⟩) ∧ cs[o + j * 3 + 2]? = some (.string ⟨x.v.toArray⟩)
theorem FSl.mono {I J : IM} (le : I.Le J) {L : List Fe} {v : Value} (h : FSl I L v) : FSl J L v := by
  obtain ⟨a, cap, hv, hc, hr⟩ := h
  refine ⟨a, cap, hv, hc, fun j x hj => ?_⟩
  obtain ⟨b, o, cs, T, fr, h1, h2, h3⟩ := hr j x hj
  exact ⟨b, o, cs, T, fr, h1, le _ _ h2, h3⟩
theorem FSl.open {I : IM} {L : List Fe} {v : Value} (h : FSl I L v) : ∃ a c, v = .slice a L.length c ∧ L.length ≤ c ∧ FSl I L (.slice a L.length c) := by
  obtain ⟨a, c, rfl, hc, hr⟩ := h
  exact ⟨a, c, rfl, hc, a, c, rfl, hc, hr⟩
theorem fsl_nil (I : IM) : FSl I [] (.slice none 0 0) := ⟨none, 0, rfl, Nat.le_refl _, fun j x h => by simp at h⟩
theorem FSl.cap {I : IM} {L : List Fe} {a : Option Addr} {n c : Nat} (h : FSl I L (.slice a n c)) : n = L.length ∧ L.length ≤ c := by
  obtain ⟨a', c', hv, hc, _⟩ := h
  cases hv; exact ⟨rfl, hc⟩
theorem fe_getD {L : List Fe} {i : Nat} (h : i < L.length) : L[i]? = some (L.getD i Fe.z) := by simp [h]
theorem under22s : Tryd.prog.underlying 22 = some (.slice 39) := by kernel_rfl
theorem size39s (w : World) : (sizeOf 39).run Tryd.prog w = .ok 3 w := by kernel_rfl
theorem fsl_idx22 {I : IM} {w : World} {L : List Fe} {a : Option Addr} {n c i : Nat} (h : FSl I L (.slice a n c)) (hi : i < L.length) :
    (Instr.indexAt 22 (.slice a n c) (.int .i64 ((i : Nat) : Int))).run Tryd.prog w = .ok (.pointer (pAt a (i * 3))) w := by
  obtain ⟨a', c', hv, hc, hr⟩ := h
  cases hv
  obtain ⟨b, o, cs, T, fr, rfl, h2, h3, h4⟩ := hr i _ (fe_getD hi)
  have h2 : (i : Int) < (L.length : Int) := by omega
  simp [Instr.indexAt, asIntOf, run_underlying under22s, size39s, h2, pAt]
  intro h3; omega
theorem fsl_ld39 {I : IM} {w : World} (hS : I.Sub w) {L : List Fe} {a : Option Addr} {n c i : Nat} (h : FSl I L (.slice a n c)) (hi : i < L.length) :
    (Instr.loadAt 39 (.pointer (pAt a (i * 3)))).run Tryd.prog w = .ok (.agg #[.int .i64 (L.getD i Fe.z).k, .string ⟨(L.getD i Fe.z).a.toArray⟩, .string ⟨(L.getD i Fe.z).v.toArray⟩]) w := by
  obtain ⟨a', c', hv, hc, hr⟩ := h
  cases hv
  obtain ⟨b, o, cs, T, fr, rfl, h2, h3, h4, h5⟩ := hr i _ (fe_getD hi)
  rw [show pAt (some ⟨b, o, none⟩) (i * 3) = some ⟨b, o + i * 3, none⟩ from congrArg some (addr_addO b o (i * 3))]
  have c1 := run_cell (a := ⟨b, o + i * 3, none⟩) (hS _ _ h2) rfl rfl
  have c2 := run_cell (a := ⟨b, o + i * 3 + 1, none⟩) (hS _ _ h2) rfl rfl
  have c3 := run_cell (a := ⟨b, o + i * 3 + 2, none⟩) (hS _ _ h2) rfl rfl
  rw [h3] at c1
  rw [h4] at c2
  rw [h5] at c3
  have e : (Instr.loadAt 39 (.pointer (some ⟨b, o + i * 3, none⟩))).run Tryd.prog w = ((do pure (.agg (← loadCells ⟨b, o + i * 3, none⟩ 3))) : Sem Value).run Tryd.prog w := by kernel_rfl
  have l1 : (load ⟨b, o + i * 3, none⟩).run Tryd.prog w = .ok (.int .i64 (L.getD i Fe.z).k) w := by simp only [load, Sem.run, c1]
  have l2 : (load ⟨b, o + i * 3 + 1, none⟩).run Tryd.prog w = .ok (.string ⟨(L.getD i Fe.z).a.toArray⟩) w := by simp only [load, Sem.run, c2]
  have l3 : (load ⟨b, o + i * 3 + 2, none⟩).run Tryd.prog w = .ok (.string ⟨(L.getD i Fe.z).v.toArray⟩) w := by simp only [load, Sem.run, c3]
  have a1 : (⟨b, o + i * 3, none⟩ : Addr).add 0 = ⟨b, o + i * 3, none⟩ := rfl
  have a2 : (⟨b, o + i * 3, none⟩ : Addr).add 1 = ⟨b, o + i * 3 + 1, none⟩ := rfl
  have a3 : (⟨b, o + i * 3, none⟩ : Addr).add (1 + 1) = ⟨b, o + i * 3 + 2, none⟩ := rfl
  rw [e]
  simp only [loadCells, loadCellsFrom, Sem.run_bind, Sem.run_pure, a1, a2, a3, Nat.zero_add, l1, l2, l3, Result.andThen_ok]
  rfl
theorem freeze_row39 {w0 : World} {I0 : IM} {m : List Nat} {I : IM} {w : World} {H F : List OB} {L : List Fe} {v : Value} {n : Nat} (s : St w0 I0 m I w (H ++ F)) (h : RowH 39 3 v n (fcs L) F) :
    ∃ I', I.Le I' ∧ FSl I' L v ∧ St w0 I0 m I' w H := by
  have hl : L.length = n := by have := h.1; rw [fcs_length] at this; omega
  rcases h.2 with ⟨rfl, rfl, rfl⟩ | ⟨g, cap, cur, rfl, rfl, hnc, hcm, hcs, ht⟩
  · have : L = [] := List.eq_nil_of_length_eq_zero hl
    subst this
    exact ⟨I, IM.Le.refl I, fsl_nil I, by simpa using s⟩
  · have s2 := (s.perm (H' := (g, .cells cur 39) :: H) (by exact List.perm_append_comm))
    refine ⟨_, IM.le_add (s2.free (g, .cells cur 39) (by simp)) _, ?_, s2.freeze⟩
    refine ⟨some ⟨g, 0, none⟩, cap, congrArg (fun q => Value.slice (some ⟨g, 0, none⟩) q cap) hl.symm, by omega, fun j x hj => ⟨g, 0, cur, 39, (0, 0), rfl, IM.add_self _ _ _, ?_⟩⟩
    have hh := fcs_at hj
    rw [← ht, List.getElem?_take, List.getElem?_take, List.getElem?_take] at hh
    have hj2 := (List.getElem?_eq_some_iff.1 hj).1
    rw [if_pos (by omega), if_pos (by omega), if_pos (by omega)] at hh
    rw [Nat.zero_add]
    simpa using hh
theorem under30s : Tryd.prog.underlying 30 = some (.slice 42) := by kernel_rfl
theorem size42s (w : World) : (sizeOf 42).run Tryd.prog w = .ok 3 w := by kernel_rfl
theorem fsl_idx30 {I : IM} {w : World} {L : List Fe} {a : Option Addr} {n c i : Nat} (h : FSl I L (.slice a n c)) (hi : i < L.length) :
    (Instr.indexAt 30 (.slice a n c) (.int .i64 ((i : Nat) : Int))).run Tryd.prog w = .ok (.pointer (pAt a (i * 3))) w := by
  obtain ⟨a', c', hv, hc, hr⟩ := h
  cases hv
  obtain ⟨b, o, cs, T, fr, rfl, h2, h3, h4⟩ := hr i _ (fe_getD hi)
  have h2 : (i : Int) < (L.length : Int) := by omega
  simp [Instr.indexAt, asIntOf, run_underlying under30s, size42s, h2, pAt]
  intro h3; omega
theorem fsl_ld42 {I : IM} {w : World} (hS : I.Sub w) {L : List Fe} {a : Option Addr} {n c i : Nat} (h : FSl I L (.slice a n c)) (hi : i < L.length) :
    (Instr.loadAt 42 (.pointer (pAt a (i * 3)))).run Tryd.prog w = .ok (.agg #[.int .i64 (L.getD i Fe.z).k, .string ⟨(L.getD i Fe.z).a.toArray⟩, .string ⟨(L.getD i Fe.z).v.toArray⟩]) w := by
  obtain ⟨a', c', hv, hc, hr⟩ := h
  cases hv
  obtain ⟨b, o, cs, T, fr, rfl, h2, h3, h4, h5⟩ := hr i _ (fe_getD hi)
  rw [show pAt (some ⟨b, o, none⟩) (i * 3) = some ⟨b, o + i * 3, none⟩ from congrArg some (addr_addO b o (i * 3))]
  have c1 := run_cell (a := ⟨b, o + i * 3, none⟩) (hS _ _ h2) rfl rfl
  have c2 := run_cell (a := ⟨b, o + i * 3 + 1, none⟩) (hS _ _ h2) rfl rfl
  have c3 := run_cell (a := ⟨b, o + i * 3 + 2, none⟩) (hS _ _ h2) rfl rfl
  rw [h3] at c1
  rw [h4] at c2
  rw [h5] at c3
  have e : (Instr.loadAt 42 (.pointer (some ⟨b, o + i * 3, none⟩))).run Tryd.prog w = ((do pure (.agg (← loadCells ⟨b, o + i * 3, none⟩ 3))) : Sem Value).run Tryd.prog w := by kernel_rfl
  have l1 : (load ⟨b, o + i * 3, none⟩).run Tryd.prog w = .ok (.int .i64 (L.getD i Fe.z).k) w := by simp only [load, Sem.run, c1]
  have l2 : (load ⟨b, o + i * 3 + 1, none⟩).run Tryd.prog w = .ok (.string ⟨(L.getD i Fe.z).a.toArray⟩) w := by simp only [load, Sem.run, c2]
  have l3 : (load ⟨b, o + i * 3 + 2, none⟩).run Tryd.prog w = .ok (.string ⟨(L.getD i Fe.z).v.toArray⟩) w := by simp only [load, Sem.run, c3]
  have a1 : (⟨b, o + i * 3, none⟩ : Addr).add 0 = ⟨b, o + i * 3, none⟩ := rfl
  have a2 : (⟨b, o + i * 3, none⟩ : Addr).add 1 = ⟨b, o + i * 3 + 1, none⟩ := rfl
  have a3 : (⟨b, o + i * 3, none⟩ : Addr).add (1 + 1) = ⟨b, o + i * 3 + 2, none⟩ := rfl
  rw [e]
  simp only [loadCells, loadCellsFrom, Sem.run_bind, Sem.run_pure, a1, a2, a3, Nat.zero_add, l1, l2, l3, Result.andThen_ok]
  rfl
theorem freeze_row42 {w0 : World} {I0 : IM} {m : List Nat} {I : IM} {w : World} {H F : List OB} {L : List Fe} {v : Value} {n : Nat} (s : St w0 I0 m I w (H ++ F)) (h : RowH 42 3 v n (fcs L) F) :
    ∃ I', I.Le I' ∧ FSl I' L v ∧ St w0 I0 m I' w H := by
  have hl : L.length = n := by have := h.1; rw [fcs_length] at this; omega
  rcases h.2 with ⟨rfl, rfl, rfl⟩ | ⟨g, cap, cur, rfl, rfl, hnc, hcm, hcs, ht⟩
  · have : L = [] := List.eq_nil_of_length_eq_zero hl
    subst this
    exact ⟨I, IM.Le.refl I, fsl_nil I, by simpa using s⟩
  · have s2 := (s.perm (H' := (g, .cells cur 42) :: H) (by exact List.perm_append_comm))
    refine ⟨_, IM.le_add (s2.free (g, .cells cur 42) (by simp)) _, ?_, s2.freeze⟩
    refine ⟨some ⟨g, 0, none⟩, cap, congrArg (fun q => Value.slice (some ⟨g, 0, none⟩) q cap) hl.symm, by omega, fun j x hj => ⟨g, 0, cur, 42, (0, 0), rfl, IM.add_self _ _ _, ?_⟩⟩
    have hh := fcs_at hj
    rw [← ht, List.getElem?_take, List.getElem?_take, List.getElem?_take] at hh
    have hj2 := (List.getElem?_eq_some_iff.1 hj).1
    rw [if_pos (by omega), if_pos (by omega), if_pos (by omega)] at hh
    rw [Nat.zero_add]
    simpa using hh
/-- v is a slice of these ints, never written -/
def KSl (I : IM) (K : List Nat) (v : Value) : Prop := ∃ a cap, v = .slice a K.length cap ∧ K.length ≤ cap ∧ ∀ (j : Nat) (x : Nat), K[j]? = some x → ∃ (b o : Nat) (cs : Array Value) (T : TypeId) (fr : Nat × Nat), a = some ⟨b, o, none⟩ ∧ I b = some (.cells cs T fr) ∧ cs[o + j]? = some (.int .i64 ((x : Nat) : Int))
theorem KSl.mono {I J : IM} (le : I.Le J) {L : List Nat} {v : Value} (h : KSl I L v) : KSl J L v := by
  obtain ⟨a, cap, hv, hc, hr⟩ := h
  refine ⟨a, cap, hv, hc, fun j x hj => ?_⟩
  obtain ⟨b, o, cs, T, fr, h1, h2, h3⟩ := hr j x hj
  exact ⟨b, o, cs, T, fr, h1, le _ _ h2, h3⟩
theorem KSl.open {I : IM} {L : List Nat} {v : Value} (h : KSl I L v) : ∃ a c, v = .slice a L.length c ∧ L.length ≤ c ∧ KSl I L (.slice a L.length c) := by
  obtain ⟨a, c, rfl, hc, hr⟩ := h
  exact ⟨a, c, rfl, hc, a, c, rfl, hc, hr⟩
theorem KSl.cap {I : IM} {L : List Nat} {a : Option Addr} {n c : Nat} (h : KSl I L (.slice a n c)) : n = L.length ∧ L.length ≤ c := by
  obtain ⟨a', c', hv, hc, _⟩ := h
  cases hv; exact ⟨rfl, hc⟩
end Go.Proofs.YtcpmjogeafhpnaaDoor
/- Lists of fields and kinds are read. -/
set_option linter.all false
set_option maxRecDepth 100000
namespace Go.Proofs.YtcpmjogeafhpnaaDoor
open Go.RowKit Go.Sep
attribute [local irreducible] Go.wpList Go.Code.wp

theorem row39_snoc {v : Value} {n : Nat} {Fs : List Fe} {x : Fe} {F : List OB} (h : RowH 39 3 v (n + 1) (fcs Fs ++ [.int .i64 x.k, .string ⟨x.a.toArray⟩, .string ⟨x.v.toArray⟩]) F) (hn : n = Fs.length) : RowH 39 3 v (Fs ++ [x]).length (fcs (Fs ++ [x])) F := by
  subst hn
  rw [fcs_append, List.length_append]
  exact h
end Go.Proofs.YtcpmjogeafhpnaaDoor
/- The document: fields are read. -/
set_option linter.all false
set_option maxRecDepth 100000
namespace Go.Proofs.YtcpmjogeafhpnaaDoor
open Go.RowKit Go.Sep
attribute [local irreducible] Go.wpList Go.Code.wp

theorem drop_at {P : List UInt8} {at0 d : Nat} (hd : d ≤ (P.drop at0).length) (hat : at0 ≤ P.length) : (P.drop at0).drop d = P.drop (at0 + d) ∧ at0 + d ≤ P.length := by
  rw [List.drop_drop]
  rw [List.length_drop] at hd
  exact ⟨rfl, by omega⟩
theorem row42_snoc {v : Value} {n : Nat} {Fs : List Fe} {x : Fe} {F : List OB} (h : RowH 42 3 v (n + 1) (fcs Fs ++ [.int .i64 x.k, .string ⟨x.a.toArray⟩, .string ⟨x.v.toArray⟩]) F) (hn : n = Fs.length) : RowH 42 3 v (Fs ++ [x]).length (fcs (Fs ++ [x])) F := by
  subst hn
  rw [fcs_append, List.length_append]
  exact h
end Go.Proofs.YtcpmjogeafhpnaaDoor
/- Fields copied, compared. -/
set_option linter.all false
set_option maxRecDepth 100000
namespace Go.Proofs.YtcpmjogeafhpnaaDoor
open Go.RowKit Go.Sep
attribute [local irreducible] Go.wpList Go.Code.wp

theorem fe_take {L : List Fe} {i : Nat} (h : i < L.length) : L.take (i + 1) = L.take i ++ [L.getD i Fe.z] := by
  rw [List.take_add_one]; simp [h]
set_option maxHeartbeats 2000000 in
theorem ownF_c {I : IM} {L : List Fe} {a0 : Option Addr} {c0 : Nat} (h0 : FSl I L (.slice a0 L.length c0)) (hl : L.length ≤ 1000) : Fun Tryd.prog 40 #[.slice a0 L.length c0] I (fun v J => ∃ a c, v = .slice a L.length c ∧ FSl J L (.slice a L.length c)) := by
 refine enter_rule 18 [(0, .slice a0 L.length c0)] Tryd.func40 rfl (by kernel_rfl) ?_
 intro w s
 refine seqR ?_
 refine oKD [] [] 1 [] 0 (fun φ1 => [(2, .slice none 0 0)]) (fun φ1 => []) s (fun φ1 => by kernel_rfl) (by kernel_rfl) ?_
 intro φ1 w1 s
 refine seqR ?_
 refine oKD [] [] 1 [] 0 (fun φ2 => [(3, .slice none 0 0)]) (fun φ2 => []) s (fun φ2 => by kernel_rfl) (by kernel_rfl) ?_
 intro φ2 w2 s
 refine wp_seq ?_
 refine seqR ?_
 refine oKD [] [] 3 [] 0 (fun φ3 => [(8, .int .i64 0), (7, .int .i64 L.length), (6, .slice a0 L.length c0)]) (fun φ3 => []) s (fun φ3 => by kernel_rfl) (by kernel_rfl) ?_
 intro φ3 w3 s
 refine wp_block ?_
 have hle4 := IM.Le.refl I
 refine loop_rule (fun (x : Nat × Value × List OB) => [(0, .slice a0 L.length c0), (2, .slice none 0 0), (6, .slice a0 L.length c0), (7, .int .i64 L.length), (8, .int .i64 x.1), (3, x.2.1)]) (fun (x : Nat × Value × List OB) => [] ++ x.2.2) (fun m (x : Nat × Value × List OB) J => IM.Le I J ∧ x.1 + m = L.length ∧ RowH 42 3 x.2.1 (L.take x.1).length (fcs (L.take x.1)) x.2.2) (L.length) (0, (.slice none 0 0), []) s (by kernel_rfl) (List.Sublist.refl _) ⟨IM.Le.refl _, Nat.zero_add _, (RowH.nil 42 3)⟩ ?_
 rintro m5 ⟨i5, v5, F5⟩ I5 w5 ev5 s ⟨le5, hi5_0, hi5_1⟩
 try dsimp only at s hi5_0 hi5_1 ⊢
 replace h0 := FSl.mono le5 h0
 replace hle4 := leMono le5 hle4
 have hl9 : (L.take i5).length ≤ 1000 := by have e8 := hi5_0; rw [List.length_take]; omega
 refine seqR ?_
 refine oK [] F5 1 [] 0 (fun φ6 => [(9, .bool (decide (((i5 : Nat) : Int) < ((L.length : Nat) : Int))))]) (fun φ6 => []) s (fun φ6 => by kernel_rfl) ?_
 intro φ6 w6 s
 rw [nat_lss (a := i5) (b := L.length)]
 refine ops_done (by kernel_rfl) ?_
 refine wp_seq ?_
 rcases Bool.eq_false_or_eq_true (decide (i5 < L.length)) with hc7 | hc7
 ·
  rw [hc7]
  refine cond_true_rule (b := true) (by kernel_rfl) rfl ?_
  refine wp_skip ?_
  refine wp_seq ?_
  refine wp_block ?_
  refine seqR ?_
  refine sem_rule (Instr.indexAt 22 (.slice a0 L.length c0) (.int .i64 i5)) (some 10) (.pointer (pAt a0 (i5 * 3))) (by kernel_rfl) (fsl_idx22 h0 (by have e8 := hi5_0; have e7 := List.length_take (i := i5) (l := L); have hq0 := dT9 hc7; omega)) ?_
  refine sem_rule (Instr.loadAt 39 (.pointer (pAt a0 (i5 * 3)))) (some 11) (.agg #[.int .i64 ((List.getD L i5 Fe.z).k), .string ⟨((List.getD L i5 Fe.z).a).toArray⟩, .string ⟨((List.getD L i5 Fe.z).v).toArray⟩]) (by kernel_rfl) (fsl_ld39 s.sub h0 (by have e8 := hi5_0; have e7 := List.length_take (i := i5) (l := L); have hq0 := dT9 hc7; omega)) ?_
  refine oAD [] F5 2 [.o 0, .o 0, .o 0] 1 (fun φ8 => [(5, pB (φ8 0))]) (fun φ8 => [(φ8 0, .cells #[.int .i64 ((List.getD L i5 Fe.z).k), .string ⟨((List.getD L i5 Fe.z).a).toArray⟩, .string ⟨((List.getD L i5 Fe.z).v).toArray⟩] 39)]) (fun φ8 => [φ8 0, φ8 0, φ8 0]) s (fun φ8 => by kernel_rfl) (by kernel_rfl) ?_
  intro φ8 w8 s
  refine region_rule ?_
  refine oA _ F5 3 [.o 0, .o 0, .o 0] 1 (fun φ9 => [(14, .slice (some ⟨(φ9 0), 0, none⟩) 1 1), (13, .agg #[.int .i64 ((List.getD L i5 Fe.z).k), .string ⟨((List.getD L i5 Fe.z).a).toArray⟩, .string ⟨((List.getD L i5 Fe.z).v).toArray⟩]), (12, v5)]) (fun φ9 => [(φ8 0, .cells #[.int .i64 ((List.getD L i5 Fe.z).k), .string ⟨((List.getD L i5 Fe.z).a).toArray⟩, .string ⟨((List.getD L i5 Fe.z).v).toArray⟩] 39), (φ9 0, .cells #[.int .i64 ((List.getD L i5 Fe.z).k), .string ⟨((List.getD L i5 Fe.z).a).toArray⟩, .string ⟨((List.getD L i5 Fe.z).v).toArray⟩] 42)]) (fun φ9 => [φ8 0, φ8 0, φ8 0]) s (fun φ9 => by kernel_rfl) ?_
  intro φ9 w9 s
  refine append_rule (H := [(φ8 0, .cells #[.int .i64 ((List.getD L i5 Fe.z).k), .string ⟨((List.getD L i5 Fe.z).a).toArray⟩, .string ⟨((List.getD L i5 Fe.z).v).toArray⟩] 39), (φ9 0, .cells #[.int .i64 ((List.getD L i5 Fe.z).k), .string ⟨((List.getD L i5 Fe.z).a).toArray⟩, .string ⟨((List.getD L i5 Fe.z).v).toArray⟩] 42)]) (F := F5) 30 30 42 Tryd.t42 (.agg #[.int .i64 0, .string ⟨#[]⟩, .string ⟨#[]⟩]) 3 40 (some 15) s Tryd.underlying30 (by kernel_rfl) (by kernel_rfl) (by kernel_rfl) (by kernel_rfl) (by kernel_rfl) (by decide) hi5_1 (src_own s 1 (φ9 0) #[.int .i64 ((List.getD L i5 Fe.z).k), .string ⟨((List.getD L i5 Fe.z).a).toArray⟩, .string ⟨((List.getD L i5 Fe.z).v).toArray⟩] 42 30 42 1 1 3 [.int .i64 ((List.getD L i5 Fe.z).k), .string ⟨((List.getD L i5 Fe.z).a).toArray⟩, .string ⟨((List.getD L i5 Fe.z).v).toArray⟩] (by kernel_rfl) Tryd.underlying30 (by kernel_rfl) (by kernel_rfl) (by kernel_rfl)) (by simp only [maxLen]; omega) (by omega) (by kernel_rfl) ?_
  intro v10 w10 F10 s h10
  refine oKD _ F10 1 [] 0 (fun φ11 => [(3, v10)]) (fun φ11 => []) s (fun φ11 => by kernel_rfl) (by kernel_rfl) ?_
  intro φ11 w11 s
  refine region_rule ?_
  refine oK _ F10 2 [] 0 (fun φ12 => [(8, .int .i64 (IntKind.wrap .i64 (((i5 : Nat) : Int) + ((1 : Nat) : Int)))), (16, .int .i64 (IntKind.wrap .i64 (((i5 : Nat) : Int) + ((1 : Nat) : Int))))]) (fun φ12 => []) s (fun φ12 => by kernel_rfl) ?_
  intro φ12 w12 s
  rw [nat_addI (a := i5) (b := 1) (by have e8 := hi5_0; have e7 := List.length_take (i := i5) (l := L); have hq0 := dT9 hc7; omega)]
  refine ops_done (by kernel_rfl) ?_
  exact ⟨⟨m5 - 1, (i5 + 1, v10, F10), _, _, _, by have hq0 := dT9 hc7; have := hi5_0; omega, rfl, s, (List.Sublist.append (List.Sublist.cons _ (List.Sublist.cons _ List.Sublist.slnil)) (List.Sublist.refl _)), by kernel_rfl, hle4, by have hq0 := dT9 hc7; have := hi5_0; show i5 + 1 + (m5 - 1) = L.length; omega, by have hq0 := dT9 hc7; have h0 := hi5_0; have h1 := row42_snoc (x := (List.getD L i5 Fe.z)) h10 rfl; rw [← fe_take (by omega)] at h1; exact h1⟩⟩
 ·
  rw [hc7]
  refine cond_false_rule (b := false) (by kernel_rfl) rfl ?_
  refine wp_exit ?_
  refine seqR ?_
  refine oKD [] F5 2 [] 0 (fun φ13 => [(2, v5), (17, v5)]) (fun φ13 => []) s (fun φ13 => by kernel_rfl) (by kernel_rfl) ?_
  intro φ13 w13 s
  refine wp_ret ?_
  refine ret_rule (C := []) [] F5 (v5) [] [] s trivial (by kernel_rfl) ?_
  have ei : i5 = L.length := by have hq0 := dF9 hc7; have := hi5_0; omega
  have hr9 := hi5_1
  rw [ei, List.take_length] at hr9
  obtain ⟨J14, le14, hk14, s⟩ := freeze_row42 (H := []) (F := F5) s hr9
  obtain ⟨a14, c14, hv14, -, hk14⟩ := hk14.open
  subst hv14
  exact ⟨_, _, _, rfl, s, ⟨_, _, rfl, hk14⟩⟩

end Go.Proofs.YtcpmjogeafhpnaaDoor
/- Fields are written. -/
set_option linter.all false
set_option maxRecDepth 100000
namespace Go.Proofs.YtcpmjogeafhpnaaDoor
open Go.RowKit Go.Sep
attribute [local irreducible] Go.wpList Go.Code.wp

/-- the bytes of a field, of fields, of a patch -/
def encFe (x : Fe) : List UInt8 := [UInt8.ofNat x.k.toNat] ++ (encF 9 x.a.length ++ x.a) ++ (encF 9 x.v.length ++ x.v)
def encL (L : List Fe) : List UInt8 := encF 9 L.length ++ L.flatMap encFe
def okFe (x : Fe) : Prop := 0 ≤ x.k ∧ x.k ≤ 255 ∧ x.a.length ≤ 255 ∧ x.v.length ≤ 255
def okL (L : List Fe) : Prop := ∀ i, i < L.length → okFe (L.getD i Fe.z)
theorem encFe_len {x : Fe} (h : okFe x) : (encFe x).length ≤ 531 := by
  have h1 := (encF_len 9 x.a.length).2
  have h2 := (encF_len 9 x.v.length).2
  obtain ⟨-, -, h3, h4⟩ := h
  simp only [encFe, List.length_append, List.length_cons, List.length_nil]; omega
theorem encs_len {L : List Fe} (h : okL L) : ∀ i, i ≤ L.length → ((L.take i).flatMap encFe).length ≤ i * 531
  | 0, _ => by simp
  | i + 1, hi => by
    have ih := encs_len h i (by omega)
    have hx := encFe_len (h i (by omega))
    rw [fe_take (by omega), List.flatMap_append, List.length_append]
    simp only [List.flatMap_cons, List.flatMap_nil, List.append_nil]
    omega
theorem run_conv35 {w : World} {z : Int} (h0 : 0 ≤ z) (h : z ≤ 255) : (convert 3 5 (.int .i64 z)).run Tryd.prog w = .ok (.int .u8 ((z.toNat : Nat) : Int)) w := by
  have e : (convert 3 5 (.int .i64 z)).run Tryd.prog w = .ok (.int .u8 (IntKind.wrap .u8 z)) w := by kernel_rfl
  rw [e]
  have e2 : IntKind.wrap .u8 z = ((z.toNat : Nat) : Int) := by simp only [IntKind.wrap, IntKind.signed, IntKind.bits]; simp; omega
  rw [e2]
theorem wtext_c {I : IM} {ss : List UInt8} (hss : ss.length ≤ 1000) : Fun Tryd.prog 111 #[.slice none 0 0, .string ⟨ss.toArray⟩] I (fun v J => bsR (encF 9 ss.length ++ ss) v J) := by
  have h := fun_of_rowB (textB_r (l := []) (bsl_nil I) (Nat.zero_le _) hss)
  simpa only [List.nil_append] using h
theorem row_eqB {v : Value} {l l2 : List UInt8} {F : List OB} (h : RowH 5 1 v l.length (l.map bV) F) (e : l = l2) : RowH 5 1 v l2.length (l2.map bV) F := by rw [← e]; exact h
theorem put_next {l : List UInt8} {L : List Fe} {i : Nat} (h : i < L.length) : l ++ encF 9 L.length ++ (L.take i).flatMap encFe ++ [UInt8.ofNat (L.getD i Fe.z).k.toNat] ++ (encF 9 (L.getD i Fe.z).a.length ++ (L.getD i Fe.z).a) ++ (encF 9 (L.getD i Fe.z).v.length ++ (L.getD i Fe.z).v) = l ++ encF 9 L.length ++ (L.take (i + 1)).flatMap encFe := by
  rw [fe_take h, List.flatMap_append]
  simp only [List.flatMap_cons, List.flatMap_nil, List.append_nil, encFe, List.append_assoc]
theorem put_end {l : List UInt8} {L : List Fe} : l ++ encF 9 L.length ++ (L.take L.length).flatMap encFe = l ++ encL L := by
  rw [List.take_length, encL, List.append_assoc]
set_option maxHeartbeats 4000000 in
theorem putFields_c {I : IM} {l : List UInt8} {a : Option Addr} {c : Nat} (hb : BSl I l (.slice a l.length c)) (hlb : l.length ≤ 500000) {L : List Fe} {a0 : Option Addr} {c0 : Nat} (h0 : FSl I L (.slice a0 L.length c0)) (hl : L.length ≤ 255) (hok : okL L) : Fun Tryd.prog 82 #[.slice a l.length c, .slice a0 L.length c0] I (fun v J => ∃ a c, v = .slice a (l ++ encL L).length c ∧ BSl J (l ++ encL L) (.slice a (l ++ encL L).length c)) := by
 refine enter_rule 36 [(0, .slice a l.length c), (1, .slice a0 L.length c0)] Tryd.func82 rfl (by kernel_rfl) ?_
 intro w s
 refine seqR ?_
 refine oKD [] [] 1 [] 0 (fun φ1 => [(4, .slice none 0 0)]) (fun φ1 => []) s (fun φ1 => by kernel_rfl) (by kernel_rfl) ?_
 intro φ1 w1 s
 refine seqR ?_
 refine oK [] [] 4 [] 0 (fun φ2 => [(10, .int .u64 (IntKind.wrap .u64 ((L.length : Nat) : Int))), (9, .int .i64 L.length), (8, .slice a0 L.length c0), (7, .slice a l.length c)]) (fun φ2 => []) s (fun φ2 => by kernel_rfl) ?_
 intro φ2 w2 s
 rw [nat_wrapU (a := L.length) (by   (try simp only [List.length_drop, List.length_take, List.length_append, List.length_cons, List.length_nil]); omega)]
 refine callF_rule (F := []) (some 11) s (numB_r (n := L.length) hb (by omega) (by omega)) (by kernel_rfl) ?_
 intro v3 I3 w3 F3 le3 h3 s
 replace h0 := FSl.mono le3 h0
 refine oKD [] F3 1 [] 0 (fun φ4 => [(0, v3)]) (fun φ4 => []) s (fun φ4 => by kernel_rfl) (by kernel_rfl) ?_
 intro φ4 w4 s
 refine wp_seq ?_
 refine seqR ?_
 refine oKD [] F3 3 [] 0 (fun φ5 => [(14, .int .i64 0), (13, .int .i64 L.length), (12, .slice a0 L.length c0)]) (fun φ5 => []) s (fun φ5 => by kernel_rfl) (by kernel_rfl) ?_
 intro φ5 w5 s
 refine wp_block ?_
 have hle6 := IM.Le.refl I3
 refine loop_rule (fun (x : Nat × Value × List OB) => [(1, .slice a0 L.length c0), (4, .slice none 0 0), (12, .slice a0 L.length c0), (13, .int .i64 L.length), (14, .int .i64 x.1), (0, x.2.1)]) (fun (x : Nat × Value × List OB) => [] ++ x.2.2) (fun m (x : Nat × Value × List OB) J => IM.Le I3 J ∧ x.1 + m = L.length ∧ RowH 5 1 x.2.1 (l ++ encF 9 L.length ++ (L.take x.1).flatMap encFe).length ((l ++ encF 9 L.length ++ (L.take x.1).flatMap encFe).map bV) x.2.2) (L.length) (0, v3, F3) s (by kernel_rfl) (List.Sublist.refl _) ⟨IM.Le.refl _, Nat.zero_add _, row_eqB h3 (by simp)⟩ ?_
 rintro m7 ⟨i7, v7, F7⟩ I7 w7 ev7 s ⟨le7, hi7_0, hi7_1⟩
 try dsimp only at s hi7_0 hi7_1 ⊢
 replace h0 := FSl.mono le7 h0
 replace hle6 := leMono le7 hle6
 have hs9 := encs_len hok i7 (by have := hi7_0; omega)
 have hn9 := (encF_len 9 L.length).2
 have ha9 := (encF_len 9 (L.getD i7 Fe.z).a.length).2
 have hv9 := (encF_len 9 (L.getD i7 Fe.z).v.length).2
 have hx9 : i7 < L.length → okFe (L.getD i7 Fe.z) := hok i7
 refine seqR ?_
 refine oK [] F7 1 [] 0 (fun φ8 => [(15, .bool (decide (((i7 : Nat) : Int) < ((L.length : Nat) : Int))))]) (fun φ8 => []) s (fun φ8 => by kernel_rfl) ?_
 intro φ8 w8 s
 rw [nat_lss (a := i7) (b := L.length)]
 refine ops_done (by kernel_rfl) ?_
 refine wp_seq ?_
 rcases Bool.eq_false_or_eq_true (decide (i7 < L.length)) with hc9 | hc9
 ·
  rw [hc9]
  refine cond_true_rule (b := true) (by kernel_rfl) rfl ?_
  refine wp_skip ?_
  refine wp_seq ?_
  refine wp_block ?_
  refine seqR ?_
  refine sem_rule (Instr.indexAt 22 (.slice a0 L.length c0) (.int .i64 i7)) (some 16) (.pointer (pAt a0 (i7 * 3))) (by kernel_rfl) (fsl_idx22 h0 (by have e8 := hi7_0; have hq0 := dT9 hc9; omega)) ?_
  refine sem_rule (Instr.loadAt 39 (.pointer (pAt a0 (i7 * 3)))) (some 17) (.agg #[.int .i64 ((List.getD L i7 Fe.z).k), .string ⟨((List.getD L i7 Fe.z).a).toArray⟩, .string ⟨((List.getD L i7 Fe.z).v).toArray⟩]) (by kernel_rfl) (fsl_ld39 s.sub h0 (by have e8 := hi7_0; have hq0 := dT9 hc9; omega)) ?_
  refine oAD [] F7 2 [.o 0, .o 0, .o 0] 1 (fun φ10 => [(6, pB (φ10 0))]) (fun φ10 => [(φ10 0, .cells #[.int .i64 ((List.getD L i7 Fe.z).k), .string ⟨((List.getD L i7 Fe.z).a).toArray⟩, .string ⟨((List.getD L i7 Fe.z).v).toArray⟩] 39)]) (fun φ10 => [φ10 0, φ10 0, φ10 0]) s (fun φ10 => by kernel_rfl) (by kernel_rfl) ?_
  intro φ10 w10 s
  refine seqR ?_
  refine oK _ F7 3 [.o 0] 0 (fun φ11 => [(20, .int .i64 ((List.getD L i7 Fe.z).k)), (19, pB (φ10 0)), (18, v7)]) (fun φ11 => [(φ10 0)]) s (fun φ11 => by kernel_rfl) ?_
  intro φ11 w11 s
  refine sem_rule (convert 3 5 (.int .i64 ((List.getD L i7 Fe.z).k))) (some 21) (.int .u8 ((((List.getD L i7 Fe.z).k).toNat : Nat) : Int)) (by kernel_rfl) (run_conv35 (hok i7 (by have hq0 := dT9 hc9; omega)).1 (hok i7 (by have hq0 := dT9 hc9; omega)).2.1) ?_
  refine oA _ F7 1 [] 1 (fun φ12 => [(22, .slice (some ⟨(φ12 0), 0, none⟩) 1 1)]) (fun φ12 => [(φ10 0, .cells #[.int .i64 ((List.getD L i7 Fe.z).k), .string ⟨((List.getD L i7 Fe.z).a).toArray⟩, .string ⟨((List.getD L i7 Fe.z).v).toArray⟩] 39), (φ12 0, .cells #[.int .u8 ((((List.getD L i7 Fe.z).k).toNat : Nat) : Int)] 5)]) (fun φ12 => []) s (fun φ12 => by kernel_rfl) ?_
  intro φ12 w12 s
  refine append_rule (H := [(φ10 0, .cells #[.int .i64 ((List.getD L i7 Fe.z).k), .string ⟨((List.getD L i7 Fe.z).a).toArray⟩, .string ⟨((List.getD L i7 Fe.z).v).toArray⟩] 39), (φ12 0, .cells #[.int .u8 ((((List.getD L i7 Fe.z).k).toNat : Nat) : Int)] 5)]) (F := F7) 61 61 5 Tryd.t5 (.int .u8 0) 1 1 (some 23) s Tryd.underlying61 (by kernel_rfl) (by kernel_rfl) (by kernel_rfl) (by kernel_rfl) (by kernel_rfl) (by decide) hi7_1 (src_own (H := [(φ10 0, .cells #[.int .i64 ((List.getD L i7 Fe.z).k), .string ⟨((List.getD L i7 Fe.z).a).toArray⟩, .string ⟨((List.getD L i7 Fe.z).v).toArray⟩] 39), (φ12 0, .cells #[.int .u8 ((((List.getD L i7 Fe.z).k).toNat : Nat) : Int)] 5)]) s 1 (φ12 0) #[.int .u8 ((((List.getD L i7 Fe.z).k).toNat : Nat) : Int)] 5 61 5 1 1 1 [.int .u8 ((((List.getD L i7 Fe.z).k).toNat : Nat) : Int)] (by kernel_rfl) under34 (by kernel_rfl) (by kernel_rfl) (by kernel_rfl)) (by have hq0 := dT9 hc9; have h9 := hx9 (by omega); obtain ⟨h1, h2, h3, h4⟩ := h9; (try simp only [maxLen, List.length_append, List.length_cons, List.length_nil] at *); omega) (by have hq0 := dT9 hc9; have h9 := hx9 (by omega); obtain ⟨h1, h2, h3, h4⟩ := h9; (try simp only [maxLen, List.length_append, List.length_cons, List.length_nil] at *); omega) (by kernel_rfl) ?_
  intro v13 w13 F13 s h13
  replace h13 : RowH 5 1 v13 ((l ++ encF 9 L.length ++ (L.take i7).flatMap encFe ++ ([UInt8.ofNat (((List.getD L i7 Fe.z).k).toNat)] : List UInt8)).length) ((l ++ encF 9 L.length ++ (L.take i7).flatMap encFe ++ ([UInt8.ofNat (((List.getD L i7 Fe.z).k).toNat)] : List UInt8)).map bV) F13 := row_snoc (x := (l ++ encF 9 L.length ++ (L.take i7).flatMap encFe)) (y := ([UInt8.ofNat (((List.getD L i7 Fe.z).k).toNat)] : List UInt8)) h13 (by simp only [List.map_cons, List.map_nil]; exact cells_bytes1 (by have hq0 := dT9 hc9; have h9 := hx9 (by omega); obtain ⟨h1, h2, h3, h4⟩ := h9; omega))
  refine oKD _ F13 1 [] 0 (fun φ14 => [(0, v13)]) (fun φ14 => []) s (fun φ14 => by kernel_rfl) (by kernel_rfl) ?_
  intro φ14 w14 s
  refine seqR ?_
  refine oK _ F13 3 [.o 0] 0 (fun φ15 => [(26, .string ⟨((List.getD L i7 Fe.z).a).toArray⟩), (25, .pointer (some ⟨(φ10 0), 1, none⟩)), (24, v13)]) (fun φ15 => [(φ10 0)]) s (fun φ15 => by kernel_rfl) ?_
  intro φ15 w15 s
  refine call_rule (some 27) s (wtext_c (ss := (List.getD L i7 Fe.z).a) (by have h9 := hok i7 (by have hq0 := dT9 hc9; omega); obtain ⟨-, -, h3, h4⟩ := h9; omega)) (by kernel_rfl) ?_
  intro v16 I16 w16 le16 h16 s
  replace hle6 := leMono le16 hle6
  obtain ⟨a16, c16, rfl, h16_0⟩ := h16
  refine append_rule (H := [(φ10 0, .cells #[.int .i64 ((List.getD L i7 Fe.z).k), .string ⟨((List.getD L i7 Fe.z).a).toArray⟩, .string ⟨((List.getD L i7 Fe.z).v).toArray⟩] 39), (φ12 0, .cells #[.int .u8 ((((List.getD L i7 Fe.z).k).toNat : Nat) : Int)] 5)]) (F := F13) 61 61 5 Tryd.t5 (.int .u8 0) 1 1 (some 28) s Tryd.underlying61 (by kernel_rfl) (by kernel_rfl) (by kernel_rfl) (by kernel_rfl) (by kernel_rfl) (by decide) h13 (src_bsl s.sub h16_0) (by have hq0 := dT9 hc9; have h9 := hx9 (by omega); obtain ⟨h1, h2, h3, h4⟩ := h9; (try simp only [maxLen, List.length_append, List.length_cons, List.length_nil] at *); omega) (by have hq0 := dT9 hc9; have h9 := hx9 (by omega); obtain ⟨h1, h2, h3, h4⟩ := h9; (try simp only [maxLen, List.length_append, List.length_cons, List.length_nil] at *); omega) (by kernel_rfl) ?_
  intro v17 w17 F17 s h17
  replace h17 : RowH 5 1 v17 ((l ++ encF 9 L.length ++ (L.take i7).flatMap encFe ++ ([UInt8.ofNat (((List.getD L i7 Fe.z).k).toNat)] : List UInt8) ++ (encF 9 (List.length ((List.getD L i7 Fe.z).a)) ++ (List.getD L i7 Fe.z).a)).length) ((l ++ encF 9 L.length ++ (L.take i7).flatMap encFe ++ ([UInt8.ofNat (((List.getD L i7 Fe.z).k).toNat)] : List UInt8) ++ (encF 9 (List.length ((List.getD L i7 Fe.z).a)) ++ (List.getD L i7 Fe.z).a)).map bV) F17 := row_app (x := (l ++ encF 9 L.length ++ (L.take i7).flatMap encFe ++ ([UInt8.ofNat (((List.getD L i7 Fe.z).k).toNat)] : List UInt8))) (y := (encF 9 (List.length ((List.getD L i7 Fe.z).a)) ++ (List.getD L i7 Fe.z).a)) h17
  refine oKD _ F17 1 [] 0 (fun φ18 => [(0, v17)]) (fun φ18 => []) s (fun φ18 => by kernel_rfl) (by kernel_rfl) ?_
  intro φ18 w18 s
  refine region_rule ?_
  refine oK _ F17 3 [.o 0] 0 (fun φ19 => [(31, .string ⟨((List.getD L i7 Fe.z).v).toArray⟩), (30, .pointer (some ⟨(φ10 0), 2, none⟩)), (29, v17)]) (fun φ19 => [(φ10 0)]) s (fun φ19 => by kernel_rfl) ?_
  intro φ19 w19 s
  refine call_rule (some 32) s (wtext_c (ss := (List.getD L i7 Fe.z).v) (by have h9 := hok i7 (by have hq0 := dT9 hc9; omega); obtain ⟨-, -, h3, h4⟩ := h9; omega)) (by kernel_rfl) ?_
  intro v20 I20 w20 le20 h20 s
  replace hle6 := leMono le20 hle6
  obtain ⟨a20, c20, rfl, h20_0⟩ := h20
  refine append_rule (H := [(φ10 0, .cells #[.int .i64 ((List.getD L i7 Fe.z).k), .string ⟨((List.getD L i7 Fe.z).a).toArray⟩, .string ⟨((List.getD L i7 Fe.z).v).toArray⟩] 39), (φ12 0, .cells #[.int .u8 ((((List.getD L i7 Fe.z).k).toNat : Nat) : Int)] 5)]) (F := F17) 61 61 5 Tryd.t5 (.int .u8 0) 1 1 (some 33) s Tryd.underlying61 (by kernel_rfl) (by kernel_rfl) (by kernel_rfl) (by kernel_rfl) (by kernel_rfl) (by decide) h17 (src_bsl s.sub h20_0) (by have hq0 := dT9 hc9; have h9 := hx9 (by omega); obtain ⟨h1, h2, h3, h4⟩ := h9; (try simp only [maxLen, List.length_append, List.length_cons, List.length_nil] at *); omega) (by have hq0 := dT9 hc9; have h9 := hx9 (by omega); obtain ⟨h1, h2, h3, h4⟩ := h9; (try simp only [maxLen, List.length_append, List.length_cons, List.length_nil] at *); omega) (by kernel_rfl) ?_
  intro v21 w21 F21 s h21
  replace h21 : RowH 5 1 v21 ((l ++ encF 9 L.length ++ (L.take i7).flatMap encFe ++ ([UInt8.ofNat (((List.getD L i7 Fe.z).k).toNat)] : List UInt8) ++ (encF 9 (List.length ((List.getD L i7 Fe.z).a)) ++ (List.getD L i7 Fe.z).a) ++ (encF 9 (List.length ((List.getD L i7 Fe.z).v)) ++ (List.getD L i7 Fe.z).v)).length) ((l ++ encF 9 L.length ++ (L.take i7).flatMap encFe ++ ([UInt8.ofNat (((List.getD L i7 Fe.z).k).toNat)] : List UInt8) ++ (encF 9 (List.length ((List.getD L i7 Fe.z).a)) ++ (List.getD L i7 Fe.z).a) ++ (encF 9 (List.length ((List.getD L i7 Fe.z).v)) ++ (List.getD L i7 Fe.z).v)).map bV) F21 := row_app (x := (l ++ encF 9 L.length ++ (L.take i7).flatMap encFe ++ ([UInt8.ofNat (((List.getD L i7 Fe.z).k).toNat)] : List UInt8) ++ (encF 9 (List.length ((List.getD L i7 Fe.z).a)) ++ (List.getD L i7 Fe.z).a))) (y := (encF 9 (List.length ((List.getD L i7 Fe.z).v)) ++ (List.getD L i7 Fe.z).v)) h21
  refine oKD _ F21 1 [] 0 (fun φ22 => [(0, v21)]) (fun φ22 => []) s (fun φ22 => by kernel_rfl) (by kernel_rfl) ?_
  intro φ22 w22 s
  refine region_rule ?_
  refine oK _ F21 2 [] 0 (fun φ23 => [(14, .int .i64 (IntKind.wrap .i64 (((i7 : Nat) : Int) + ((1 : Nat) : Int)))), (34, .int .i64 (IntKind.wrap .i64 (((i7 : Nat) : Int) + ((1 : Nat) : Int))))]) (fun φ23 => []) s (fun φ23 => by kernel_rfl) ?_
  intro φ23 w23 s
  rw [nat_addI (a := i7) (b := 1) (by have e8 := hi7_0; have hq0 := dT9 hc9; omega)]
  refine ops_done (by kernel_rfl) ?_
  exact ⟨⟨m7 - 1, (i7 + 1, v21, F21), _, _, _, by have hq0 := dT9 hc9; have := hi7_0; omega, rfl, s, (List.Sublist.append (List.Sublist.cons _ (List.Sublist.cons _ List.Sublist.slnil)) (List.Sublist.refl _)), by kernel_rfl, hle6, by have hq0 := dT9 hc9; have := hi7_0; show i7 + 1 + (m7 - 1) = L.length; omega, row_eqB h21 (put_next (by have hq0 := dT9 hc9; have := hi7_0; omega))⟩⟩
 ·
  rw [hc9]
  refine cond_false_rule (b := false) (by kernel_rfl) rfl ?_
  refine wp_exit ?_
  refine seqR ?_
  refine oKD [] F7 2 [] 0 (fun φ24 => [(4, v7), (35, v7)]) (fun φ24 => []) s (fun φ24 => by kernel_rfl) (by kernel_rfl) ?_
  intro φ24 w24 s
  refine wp_ret ?_
  refine ret_rule (C := []) [] F7 (v7) [] [] s trivial (by kernel_rfl) ?_
  have ei : i7 = L.length := by have hq0 := dF9 hc9; have := hi7_0; omega
  have hr9 := row_eqB (l2 := l ++ encL L) hi7_1 (by rw [ei]; exact put_end)
  obtain ⟨J25, le25, hk25, s⟩ := freeze_row (H := []) (F := F7) s hr9
  obtain ⟨a25, c25, hv25, -, hk25⟩ := hk25.open
  subst hv25
  exact ⟨_, _, _, rfl, s, ⟨_, _, rfl, hk25⟩⟩

end Go.Proofs.YtcpmjogeafhpnaaDoor
/- The order of texts and of fields. -/
set_option linter.all false
set_option maxRecDepth 100000
namespace Go.Proofs.YtcpmjogeafhpnaaDoor.Tx
open Go.RowKit Go.Sep Go.Lib Go.Op
theorem lst_toList (l : List UInt8) : (⟨l.toArray⟩ : ByteArray).toList = l := by rw [ByteArray.toList_eq]
theorem run_ltS {w : World} {t : TypeId} {x y : List UInt8} : (binOp .lss t (.string ⟨x.toArray⟩) (.string ⟨y.toArray⟩)).run Tryd.prog w = .ok (.bool (bytesLess x y)) w := by
  show (Op.stringOp .lss _ _).run Tryd.prog w = _
  unfold Op.stringOp
  simp only [lst_toList]; rfl
theorem run_gtS {w : World} {t : TypeId} {x y : List UInt8} : (binOp .gtr t (.string ⟨x.toArray⟩) (.string ⟨y.toArray⟩)).run Tryd.prog w = .ok (.bool (!(bytesLess x y || decide (x = y)))) w := by
  show (Op.stringOp .gtr _ _).run Tryd.prog w = _
  unfold Op.stringOp
  simp only [lst_toList]
  rw [Bool.beq_eq_decide_eq]; rfl
/-- one way or the other, or the same -/
theorem bL_irr : ∀ x : List UInt8, bytesLess x x = false
  | [] => rfl
  | a :: x => by simp [bytesLess, bL_irr x]
theorem bL_tot : ∀ x y : List UInt8, bytesLess x y = true ∨ x = y ∨ bytesLess y x = true
  | [], [] => .inr (.inl rfl)
  | [], _ :: _ => .inl rfl
  | _ :: _, [] => .inr (.inr rfl)
  | a :: x, b :: y => by
    rcases bL_tot x y with h | h | h
    · by_cases e : a = b
      · subst e; left; simp [bytesLess, h]
      · have : a.toNat ≠ b.toNat := fun q => e (UInt8.toNat_inj.1 q)
        simp only [bytesLess]
        by_cases q : a < b
        · left; simp [q]
        · right; right
          have : b < a := by rw [UInt8.lt_iff_toNat_lt] at q ⊢; omega
          simp [this]
    · subst h
      by_cases e : a = b
      · subst e; right; left; rfl
      · have : a.toNat ≠ b.toNat := fun q => e (UInt8.toNat_inj.1 q)
        simp only [bytesLess]
        by_cases q : a < b
        · left; simp [q]
        · right; right
          have : b < a := by rw [UInt8.lt_iff_toNat_lt] at q ⊢; omega
          simp [this]
    · by_cases e : a = b
      · subst e; right; right; simp [bytesLess, h]
      · have : a.toNat ≠ b.toNat := fun q => e (UInt8.toNat_inj.1 q)
        simp only [bytesLess]
        by_cases q : a < b
        · left; simp [q]
        · right; right
          have : b < a := by rw [UInt8.lt_iff_toNat_lt] at q ⊢; omega
          simp [this]
theorem bL_trans : ∀ {x y z : List UInt8}, bytesLess x y = true → bytesLess y z = true → bytesLess x z = true
  | _, [], _, h, _ => by simp [bytesLess] at h
  | _, _ :: _, [], _, h => by simp [bytesLess] at h
  | [], _ :: _, _ :: _, _, _ => rfl
  | a :: x, b :: y, c :: z, h1, h2 => by
    simp only [bytesLess, Bool.or_eq_true, decide_eq_true_eq, Bool.and_eq_true, beq_iff_eq] at h1 h2 ⊢
    rcases h1 with h1 | ⟨rfl, h1⟩ <;> rcases h2 with h2 | ⟨rfl, h2⟩
    · left; rw [UInt8.lt_iff_toNat_lt] at *; omega
    · exact .inl h1
    · exact .inl h2
    · exact .inr ⟨rfl, bL_trans h1 h2⟩
def cmI (a b : Int) : Int := if a < b then -1 else if b < a then 1 else 0
def cmS (a b : List UInt8) : Int := if bytesLess a b = true then -1 else if a = b then 0 else 1
/-- which field goes ahead -/
def ordF (k : Int) (a v : List UInt8) (k' : Int) (a' v' : List UInt8) : Int := if cmI k k' ≠ 0 then cmI k k' else if cmS a a' ≠ 0 then cmS a a' else cmS v v'
def lesF (k : Int) (a v : List UInt8) (k' : Int) (a' v' : List UInt8) : Bool := if k ≠ k' then decide (k < k') else if a ≠ a' then bytesLess a a' else bytesLess v v'
theorem ord_les {k k' : Int} {a v a' v' : List UInt8} : decide (ordF k a v k' a' v' < 0) = lesF k a v k' a' v' := by
  unfold ordF lesF cmI cmS
  by_cases h : k = k'
  · subst h
    by_cases g : a = a'
    · subst g
      simp only [Int.lt_irrefl, if_false, bL_irr, ne_eq, not_true_eq_false]
      by_cases e : bytesLess v v' = true
      · simp [e]
      · simp only [if_neg e]
        by_cases q : v = v' <;> simp [q, e]
        · subst q; simpa using e
    · simp only [Int.lt_irrefl, if_false, ne_eq, not_true_eq_false, g, not_false_eq_true, if_true]
      by_cases e : bytesLess a a' = true <;> simp [e]
  · have : k < k' ∨ k' < k := by omega
    rcases this with q | q
    · simp [q, h]
    · have : ¬ k < k' := by omega
      simp [q, h, this]
theorem les_irr {k : Int} {a v : List UInt8} : lesF k a v k a v = false := by simp [lesF, bL_irr]
theorem les_trans {k k' k'' : Int} {a v a' v' a'' v'' : List UInt8} (h1 : lesF k a v k' a' v' = true) (h2 : lesF k' a' v' k'' a'' v'' = true) : lesF k a v k'' a'' v'' = true := by
  unfold lesF at *
  by_cases e1 : k = k'
  · subst e1
    by_cases e2 : k = k''
    · subst e2
      simp only [ne_eq, not_true_eq_false, if_false] at *
      by_cases f1 : a = a'
      · subst f1
        by_cases f2 : a = a''
        · subst f2
          simp only [not_true_eq_false, if_false] at *
          exact bL_trans h1 h2
        · simp only [f2, not_true_eq_false, if_false, not_false_eq_true, if_true] at *; exact h2
      · by_cases f2 : a' = a''
        · subst f2
          simp only [f1, not_true_eq_false, if_false, not_false_eq_true, if_true] at *; exact h1
        · simp only [f1, f2, not_false_eq_true, if_true] at h1 h2
          have h3 := bL_trans h1 h2
          have f3 : ¬ a = a'' := fun q => by subst q; rw [bL_irr] at h3; cases h3
          simp only [f3, not_false_eq_true, if_true]; exact h3
    · simpa [e2] using h2
  · have q1 : k < k' := by simpa [e1] using h1
    by_cases e2 : k' = k''
    · subst e2; simp [e1, q1]
    · have q2 : k' < k'' := by simpa [e2] using h2
      have : k ≠ k'' := by omega
      simp only [this, ne_eq, not_false_eq_true, if_true]; exact decide_eq_true (by omega)
end Go.Proofs.YtcpmjogeafhpnaaDoor.Tx
