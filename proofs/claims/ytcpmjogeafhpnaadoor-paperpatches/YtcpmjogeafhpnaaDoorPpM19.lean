/- A field, right or not: the program's. -/
import Derived.Test.YtcpmjogeafhpnaaDoorPpM18
import Derived.Shelf.Strings.Search2
import Derived.Shelf.LaysM
import Derived.Test.YtcpmjogeafhpnaaDoorProg
import Derived.Test.YtcpmjogeafhpnaaDoorPpM17
import Derived.Laws.StructEq
set_option linter.all false
set_option maxRecDepth 100000
namespace Go.Proofs.YtcpmjogeafhpnaaDoor.Tx
open Go.RowKit Go.Sep
attribute [local irreducible] Go.wpList Go.Code.wp

def nmL : List (List UInt8) := [[], [110, 97, 109, 101], [112, 104, 111, 110, 101], [109, 97, 105, 108], [97, 100, 100, 114, 101, 115, 115], [110, 111, 116, 101], [103, 114, 111, 117, 112]]
/-- a kind's name -/
def nmS (z : Int) : List UInt8 := if 0 ≤ z ∧ z < 7 then nmL.getD z.toNat [] else []
/-- the names of the kinds, as they are laid -/
def NmT (I : IM) : Prop := ∃ cs T fr, I 0 = some (.cells cs T fr) ∧ ∀ i, i < 7 → cs[i]? = some (.string ⟨(nmL.getD i []).toArray⟩)
theorem NmT.mono {I J : IM} (le : I.Le J) (h : NmT I) : NmT J := by
  obtain ⟨cs, T, fr, h1, h2⟩ := h
  exact ⟨cs, T, fr, le _ _ h1, h2⟩
theorem nm_ld {I : IM} {w : World} (hs : I.Sub w) (h : NmT I) (i : Nat) (hi : i < 7) : (Instr.loadAt 9 (.pointer (some ⟨0, i, none⟩))).run Tryd.prog w = .ok (.string ⟨(nmL.getD i []).toArray⟩) w := by
  obtain ⟨cs, T, fr, h1, h2⟩ := h
  have c1 := run_cell (a := ⟨0, i, none⟩) (hs _ _ h1) rfl rfl
  rw [h2 i hi] at c1
  have e : (Instr.loadAt 9 (.pointer (some ⟨0, i, none⟩))).run Tryd.prog w = (load ⟨0, i, none⟩).run Tryd.prog w := by kernel_rfl
  rw [e]; simp only [load, Sem.run, c1]

theorem semlem0 {w : World} : (Instr.indexAt 98 (.pointer (some ⟨0, 0, none⟩)) (.int .i64 0)).run Tryd.prog w = .ok (.pointer (some ⟨0, 0, none⟩)) w := by kernel_rfl
set_option maxHeartbeats 1000000 in
theorem kindName0_c {I : IM} (hN : NmT I) : Fun Tryd.prog 27 #[.int .i64 0] I (fun v J => v = .string ⟨([] : List UInt8).toArray⟩) := by
  refine enter_rule 12 [(0, .int .i64 0)] Tryd.func27 rfl (by kernel_rfl) ?_
  intro w s
  refine wp_seq ?_
  refine region_rule ?_
  refine ops_rule (C := []) [] [] 1 [] 0 (fun φ1 => [(2, .string ⟨#[]⟩)]) (fun φ1 => []) (fun φ1 => []) s trivial (fun φ1 => by kernel_rfl) ?_
  intro φ1 w1 s
  refine ops_done (by kernel_rfl) ?_
  refine wp_seq ?_
  refine wp_seq ?_
  refine region_rule ?_
  refine ops_rule (C := []) [] [] 6 [] 0 (fun φ2 => [(8, .bool false), (7, .bool false), (6, .int .i64 0), (5, .bool false), (4, .bool false), (3, .int .i64 0)]) (fun φ2 => []) (fun φ2 => []) s trivial (fun φ2 => by kernel_rfl) ?_
  intro φ2 w2 s
  refine ops_done (by kernel_rfl) ?_
  refine cond_false_rule (b := false) (by kernel_rfl) rfl ?_
  refine wp_skip ?_
  refine wp_seq ?_
  refine region_rule ?_
  refine ops_rule (C := []) [] [] 1 [] 0 (fun φ3 => [(9, .int .i64 0)]) (fun φ3 => []) (fun φ3 => []) s trivial (fun φ3 => by kernel_rfl) ?_
  intro φ3 w3 s
  refine sem_rule (Instr.indexAt 98 (.pointer (some ⟨0, 0, none⟩)) (.int .i64 0)) (some 10) (.pointer (some ⟨0, 0, none⟩)) (by kernel_rfl) (semlem0) ?_
  refine sem_rule (Instr.loadAt 9 (.pointer (some ⟨0, 0, none⟩))) (some 11) (.string ⟨#[]⟩) (by kernel_rfl) (nm_ld s.sub hN 0 (by decide)) ?_
  refine ops_rule (C := []) [] [] 1 [] 0 (fun φ4 => [(2, .string ⟨#[]⟩)]) (fun φ4 => []) (fun φ4 => []) s trivial (fun φ4 => by kernel_rfl) ?_
  intro φ4 w4 s
  refine ops_done (by kernel_rfl) ?_
  refine wp_ret ?_
  refine ret_rule (C := []) [] [] (.string ⟨#[]⟩) [] [] s trivial (by kernel_rfl) ?_
  exact ⟨_, _, _, rfl, s, rfl⟩

theorem semlem1 {w : World} : (Instr.indexAt 98 (.pointer (some ⟨0, 0, none⟩)) (.int .i64 1)).run Tryd.prog w = .ok (.pointer (some ⟨0, 1, none⟩)) w := by kernel_rfl
set_option maxHeartbeats 1000000 in
theorem kindName1_c {I : IM} (hN : NmT I) : Fun Tryd.prog 27 #[.int .i64 1] I (fun v J => v = .string ⟨([110, 97, 109, 101] : List UInt8).toArray⟩) := by
  refine enter_rule 12 [(0, .int .i64 1)] Tryd.func27 rfl (by kernel_rfl) ?_
  intro w s
  refine wp_seq ?_
  refine region_rule ?_
  refine ops_rule (C := []) [] [] 1 [] 0 (fun φ1 => [(2, .string ⟨#[]⟩)]) (fun φ1 => []) (fun φ1 => []) s trivial (fun φ1 => by kernel_rfl) ?_
  intro φ1 w1 s
  refine ops_done (by kernel_rfl) ?_
  refine wp_seq ?_
  refine wp_seq ?_
  refine region_rule ?_
  refine ops_rule (C := []) [] [] 6 [] 0 (fun φ2 => [(8, .bool false), (7, .bool false), (6, .int .i64 1), (5, .bool false), (4, .bool false), (3, .int .i64 1)]) (fun φ2 => []) (fun φ2 => []) s trivial (fun φ2 => by kernel_rfl) ?_
  intro φ2 w2 s
  refine ops_done (by kernel_rfl) ?_
  refine cond_false_rule (b := false) (by kernel_rfl) rfl ?_
  refine wp_skip ?_
  refine wp_seq ?_
  refine region_rule ?_
  refine ops_rule (C := []) [] [] 1 [] 0 (fun φ3 => [(9, .int .i64 1)]) (fun φ3 => []) (fun φ3 => []) s trivial (fun φ3 => by kernel_rfl) ?_
  intro φ3 w3 s
  refine sem_rule (Instr.indexAt 98 (.pointer (some ⟨0, 0, none⟩)) (.int .i64 1)) (some 10) (.pointer (some ⟨0, 1, none⟩)) (by kernel_rfl) (semlem1) ?_
  refine sem_rule (Instr.loadAt 9 (.pointer (some ⟨0, 1, none⟩))) (some 11) (.string ⟨#[110, 97, 109, 101]⟩) (by kernel_rfl) (nm_ld s.sub hN 1 (by decide)) ?_
  refine ops_rule (C := []) [] [] 1 [] 0 (fun φ4 => [(2, .string ⟨#[110, 97, 109, 101]⟩)]) (fun φ4 => []) (fun φ4 => []) s trivial (fun φ4 => by kernel_rfl) ?_
  intro φ4 w4 s
  refine ops_done (by kernel_rfl) ?_
  refine wp_ret ?_
  refine ret_rule (C := []) [] [] (.string ⟨#[110, 97, 109, 101]⟩) [] [] s trivial (by kernel_rfl) ?_
  exact ⟨_, _, _, rfl, s, rfl⟩

theorem semlem2 {w : World} : (Instr.indexAt 98 (.pointer (some ⟨0, 0, none⟩)) (.int .i64 2)).run Tryd.prog w = .ok (.pointer (some ⟨0, 2, none⟩)) w := by kernel_rfl
set_option maxHeartbeats 1000000 in
theorem kindName2_c {I : IM} (hN : NmT I) : Fun Tryd.prog 27 #[.int .i64 2] I (fun v J => v = .string ⟨([112, 104, 111, 110, 101] : List UInt8).toArray⟩) := by
  refine enter_rule 12 [(0, .int .i64 2)] Tryd.func27 rfl (by kernel_rfl) ?_
  intro w s
  refine wp_seq ?_
  refine region_rule ?_
  refine ops_rule (C := []) [] [] 1 [] 0 (fun φ1 => [(2, .string ⟨#[]⟩)]) (fun φ1 => []) (fun φ1 => []) s trivial (fun φ1 => by kernel_rfl) ?_
  intro φ1 w1 s
  refine ops_done (by kernel_rfl) ?_
  refine wp_seq ?_
  refine wp_seq ?_
  refine region_rule ?_
  refine ops_rule (C := []) [] [] 6 [] 0 (fun φ2 => [(8, .bool false), (7, .bool false), (6, .int .i64 2), (5, .bool false), (4, .bool false), (3, .int .i64 2)]) (fun φ2 => []) (fun φ2 => []) s trivial (fun φ2 => by kernel_rfl) ?_
  intro φ2 w2 s
  refine ops_done (by kernel_rfl) ?_
  refine cond_false_rule (b := false) (by kernel_rfl) rfl ?_
  refine wp_skip ?_
  refine wp_seq ?_
  refine region_rule ?_
  refine ops_rule (C := []) [] [] 1 [] 0 (fun φ3 => [(9, .int .i64 2)]) (fun φ3 => []) (fun φ3 => []) s trivial (fun φ3 => by kernel_rfl) ?_
  intro φ3 w3 s
  refine sem_rule (Instr.indexAt 98 (.pointer (some ⟨0, 0, none⟩)) (.int .i64 2)) (some 10) (.pointer (some ⟨0, 2, none⟩)) (by kernel_rfl) (semlem2) ?_
  refine sem_rule (Instr.loadAt 9 (.pointer (some ⟨0, 2, none⟩))) (some 11) (.string ⟨#[112, 104, 111, 110, 101]⟩) (by kernel_rfl) (nm_ld s.sub hN 2 (by decide)) ?_
  refine ops_rule (C := []) [] [] 1 [] 0 (fun φ4 => [(2, .string ⟨#[112, 104, 111, 110, 101]⟩)]) (fun φ4 => []) (fun φ4 => []) s trivial (fun φ4 => by kernel_rfl) ?_
  intro φ4 w4 s
  refine ops_done (by kernel_rfl) ?_
  refine wp_ret ?_
  refine ret_rule (C := []) [] [] (.string ⟨#[112, 104, 111, 110, 101]⟩) [] [] s trivial (by kernel_rfl) ?_
  exact ⟨_, _, _, rfl, s, rfl⟩

theorem semlem3 {w : World} : (Instr.indexAt 98 (.pointer (some ⟨0, 0, none⟩)) (.int .i64 3)).run Tryd.prog w = .ok (.pointer (some ⟨0, 3, none⟩)) w := by kernel_rfl
set_option maxHeartbeats 1000000 in
theorem kindName3_c {I : IM} (hN : NmT I) : Fun Tryd.prog 27 #[.int .i64 3] I (fun v J => v = .string ⟨([109, 97, 105, 108] : List UInt8).toArray⟩) := by
  refine enter_rule 12 [(0, .int .i64 3)] Tryd.func27 rfl (by kernel_rfl) ?_
  intro w s
  refine wp_seq ?_
  refine region_rule ?_
  refine ops_rule (C := []) [] [] 1 [] 0 (fun φ1 => [(2, .string ⟨#[]⟩)]) (fun φ1 => []) (fun φ1 => []) s trivial (fun φ1 => by kernel_rfl) ?_
  intro φ1 w1 s
  refine ops_done (by kernel_rfl) ?_
  refine wp_seq ?_
  refine wp_seq ?_
  refine region_rule ?_
  refine ops_rule (C := []) [] [] 6 [] 0 (fun φ2 => [(8, .bool false), (7, .bool false), (6, .int .i64 3), (5, .bool false), (4, .bool false), (3, .int .i64 3)]) (fun φ2 => []) (fun φ2 => []) s trivial (fun φ2 => by kernel_rfl) ?_
  intro φ2 w2 s
  refine ops_done (by kernel_rfl) ?_
  refine cond_false_rule (b := false) (by kernel_rfl) rfl ?_
  refine wp_skip ?_
  refine wp_seq ?_
  refine region_rule ?_
  refine ops_rule (C := []) [] [] 1 [] 0 (fun φ3 => [(9, .int .i64 3)]) (fun φ3 => []) (fun φ3 => []) s trivial (fun φ3 => by kernel_rfl) ?_
  intro φ3 w3 s
  refine sem_rule (Instr.indexAt 98 (.pointer (some ⟨0, 0, none⟩)) (.int .i64 3)) (some 10) (.pointer (some ⟨0, 3, none⟩)) (by kernel_rfl) (semlem3) ?_
  refine sem_rule (Instr.loadAt 9 (.pointer (some ⟨0, 3, none⟩))) (some 11) (.string ⟨#[109, 97, 105, 108]⟩) (by kernel_rfl) (nm_ld s.sub hN 3 (by decide)) ?_
  refine ops_rule (C := []) [] [] 1 [] 0 (fun φ4 => [(2, .string ⟨#[109, 97, 105, 108]⟩)]) (fun φ4 => []) (fun φ4 => []) s trivial (fun φ4 => by kernel_rfl) ?_
  intro φ4 w4 s
  refine ops_done (by kernel_rfl) ?_
  refine wp_ret ?_
  refine ret_rule (C := []) [] [] (.string ⟨#[109, 97, 105, 108]⟩) [] [] s trivial (by kernel_rfl) ?_
  exact ⟨_, _, _, rfl, s, rfl⟩

theorem semlem4 {w : World} : (Instr.indexAt 98 (.pointer (some ⟨0, 0, none⟩)) (.int .i64 4)).run Tryd.prog w = .ok (.pointer (some ⟨0, 4, none⟩)) w := by kernel_rfl
set_option maxHeartbeats 1000000 in
theorem kindName4_c {I : IM} (hN : NmT I) : Fun Tryd.prog 27 #[.int .i64 4] I (fun v J => v = .string ⟨([97, 100, 100, 114, 101, 115, 115] : List UInt8).toArray⟩) := by
  refine enter_rule 12 [(0, .int .i64 4)] Tryd.func27 rfl (by kernel_rfl) ?_
  intro w s
  refine wp_seq ?_
  refine region_rule ?_
  refine ops_rule (C := []) [] [] 1 [] 0 (fun φ1 => [(2, .string ⟨#[]⟩)]) (fun φ1 => []) (fun φ1 => []) s trivial (fun φ1 => by kernel_rfl) ?_
  intro φ1 w1 s
  refine ops_done (by kernel_rfl) ?_
  refine wp_seq ?_
  refine wp_seq ?_
  refine region_rule ?_
  refine ops_rule (C := []) [] [] 6 [] 0 (fun φ2 => [(8, .bool false), (7, .bool false), (6, .int .i64 4), (5, .bool false), (4, .bool false), (3, .int .i64 4)]) (fun φ2 => []) (fun φ2 => []) s trivial (fun φ2 => by kernel_rfl) ?_
  intro φ2 w2 s
  refine ops_done (by kernel_rfl) ?_
  refine cond_false_rule (b := false) (by kernel_rfl) rfl ?_
  refine wp_skip ?_
  refine wp_seq ?_
  refine region_rule ?_
  refine ops_rule (C := []) [] [] 1 [] 0 (fun φ3 => [(9, .int .i64 4)]) (fun φ3 => []) (fun φ3 => []) s trivial (fun φ3 => by kernel_rfl) ?_
  intro φ3 w3 s
  refine sem_rule (Instr.indexAt 98 (.pointer (some ⟨0, 0, none⟩)) (.int .i64 4)) (some 10) (.pointer (some ⟨0, 4, none⟩)) (by kernel_rfl) (semlem4) ?_
  refine sem_rule (Instr.loadAt 9 (.pointer (some ⟨0, 4, none⟩))) (some 11) (.string ⟨#[97, 100, 100, 114, 101, 115, 115]⟩) (by kernel_rfl) (nm_ld s.sub hN 4 (by decide)) ?_
  refine ops_rule (C := []) [] [] 1 [] 0 (fun φ4 => [(2, .string ⟨#[97, 100, 100, 114, 101, 115, 115]⟩)]) (fun φ4 => []) (fun φ4 => []) s trivial (fun φ4 => by kernel_rfl) ?_
  intro φ4 w4 s
  refine ops_done (by kernel_rfl) ?_
  refine wp_ret ?_
  refine ret_rule (C := []) [] [] (.string ⟨#[97, 100, 100, 114, 101, 115, 115]⟩) [] [] s trivial (by kernel_rfl) ?_
  exact ⟨_, _, _, rfl, s, rfl⟩

theorem semlem5 {w : World} : (Instr.indexAt 98 (.pointer (some ⟨0, 0, none⟩)) (.int .i64 5)).run Tryd.prog w = .ok (.pointer (some ⟨0, 5, none⟩)) w := by kernel_rfl
set_option maxHeartbeats 1000000 in
theorem kindName5_c {I : IM} (hN : NmT I) : Fun Tryd.prog 27 #[.int .i64 5] I (fun v J => v = .string ⟨([110, 111, 116, 101] : List UInt8).toArray⟩) := by
  refine enter_rule 12 [(0, .int .i64 5)] Tryd.func27 rfl (by kernel_rfl) ?_
  intro w s
  refine wp_seq ?_
  refine region_rule ?_
  refine ops_rule (C := []) [] [] 1 [] 0 (fun φ1 => [(2, .string ⟨#[]⟩)]) (fun φ1 => []) (fun φ1 => []) s trivial (fun φ1 => by kernel_rfl) ?_
  intro φ1 w1 s
  refine ops_done (by kernel_rfl) ?_
  refine wp_seq ?_
  refine wp_seq ?_
  refine region_rule ?_
  refine ops_rule (C := []) [] [] 6 [] 0 (fun φ2 => [(8, .bool false), (7, .bool false), (6, .int .i64 5), (5, .bool false), (4, .bool false), (3, .int .i64 5)]) (fun φ2 => []) (fun φ2 => []) s trivial (fun φ2 => by kernel_rfl) ?_
  intro φ2 w2 s
  refine ops_done (by kernel_rfl) ?_
  refine cond_false_rule (b := false) (by kernel_rfl) rfl ?_
  refine wp_skip ?_
  refine wp_seq ?_
  refine region_rule ?_
  refine ops_rule (C := []) [] [] 1 [] 0 (fun φ3 => [(9, .int .i64 5)]) (fun φ3 => []) (fun φ3 => []) s trivial (fun φ3 => by kernel_rfl) ?_
  intro φ3 w3 s
  refine sem_rule (Instr.indexAt 98 (.pointer (some ⟨0, 0, none⟩)) (.int .i64 5)) (some 10) (.pointer (some ⟨0, 5, none⟩)) (by kernel_rfl) (semlem5) ?_
  refine sem_rule (Instr.loadAt 9 (.pointer (some ⟨0, 5, none⟩))) (some 11) (.string ⟨#[110, 111, 116, 101]⟩) (by kernel_rfl) (nm_ld s.sub hN 5 (by decide)) ?_
  refine ops_rule (C := []) [] [] 1 [] 0 (fun φ4 => [(2, .string ⟨#[110, 111, 116, 101]⟩)]) (fun φ4 => []) (fun φ4 => []) s trivial (fun φ4 => by kernel_rfl) ?_
  intro φ4 w4 s
  refine ops_done (by kernel_rfl) ?_
  refine wp_ret ?_
  refine ret_rule (C := []) [] [] (.string ⟨#[110, 111, 116, 101]⟩) [] [] s trivial (by kernel_rfl) ?_
  exact ⟨_, _, _, rfl, s, rfl⟩

theorem semlem6 {w : World} : (Instr.indexAt 98 (.pointer (some ⟨0, 0, none⟩)) (.int .i64 6)).run Tryd.prog w = .ok (.pointer (some ⟨0, 6, none⟩)) w := by kernel_rfl
set_option maxHeartbeats 1000000 in
theorem kindName6_c {I : IM} (hN : NmT I) : Fun Tryd.prog 27 #[.int .i64 6] I (fun v J => v = .string ⟨([103, 114, 111, 117, 112] : List UInt8).toArray⟩) := by
  refine enter_rule 12 [(0, .int .i64 6)] Tryd.func27 rfl (by kernel_rfl) ?_
  intro w s
  refine wp_seq ?_
  refine region_rule ?_
  refine ops_rule (C := []) [] [] 1 [] 0 (fun φ1 => [(2, .string ⟨#[]⟩)]) (fun φ1 => []) (fun φ1 => []) s trivial (fun φ1 => by kernel_rfl) ?_
  intro φ1 w1 s
  refine ops_done (by kernel_rfl) ?_
  refine wp_seq ?_
  refine wp_seq ?_
  refine region_rule ?_
  refine ops_rule (C := []) [] [] 6 [] 0 (fun φ2 => [(8, .bool false), (7, .bool false), (6, .int .i64 6), (5, .bool false), (4, .bool false), (3, .int .i64 6)]) (fun φ2 => []) (fun φ2 => []) s trivial (fun φ2 => by kernel_rfl) ?_
  intro φ2 w2 s
  refine ops_done (by kernel_rfl) ?_
  refine cond_false_rule (b := false) (by kernel_rfl) rfl ?_
  refine wp_skip ?_
  refine wp_seq ?_
  refine region_rule ?_
  refine ops_rule (C := []) [] [] 1 [] 0 (fun φ3 => [(9, .int .i64 6)]) (fun φ3 => []) (fun φ3 => []) s trivial (fun φ3 => by kernel_rfl) ?_
  intro φ3 w3 s
  refine sem_rule (Instr.indexAt 98 (.pointer (some ⟨0, 0, none⟩)) (.int .i64 6)) (some 10) (.pointer (some ⟨0, 6, none⟩)) (by kernel_rfl) (semlem6) ?_
  refine sem_rule (Instr.loadAt 9 (.pointer (some ⟨0, 6, none⟩))) (some 11) (.string ⟨#[103, 114, 111, 117, 112]⟩) (by kernel_rfl) (nm_ld s.sub hN 6 (by decide)) ?_
  refine ops_rule (C := []) [] [] 1 [] 0 (fun φ4 => [(2, .string ⟨#[103, 114, 111, 117, 112]⟩)]) (fun φ4 => []) (fun φ4 => []) s trivial (fun φ4 => by kernel_rfl) ?_
  intro φ4 w4 s
  refine ops_done (by kernel_rfl) ?_
  refine wp_ret ?_
  refine ret_rule (C := []) [] [] (.string ⟨#[103, 114, 111, 117, 112]⟩) [] [] s trivial (by kernel_rfl) ?_
  exact ⟨_, _, _, rfl, s, rfl⟩

set_option maxHeartbeats 1000000 in
theorem kindNameX_c {I : IM} (hN : NmT I) {z : Int} (hz : ¬ (0 ≤ z ∧ z < 7)) : Fun Tryd.prog 27 #[.int .i64 z] I (fun v J => v = .string ⟨([] : List UInt8).toArray⟩) := by
  refine enter_rule 12 [(0, .int .i64 z)] Tryd.func27 rfl (by kernel_rfl) ?_
  intro w s
  refine wp_seq ?_
  refine region_rule ?_
  refine ops_rule (C := []) [] [] 1 [] 0 (fun φ1 => [(2, .string ⟨#[]⟩)]) (fun φ1 => []) (fun φ1 => []) s trivial (fun φ1 => by kernel_rfl) ?_
  intro φ1 w1 s
  refine ops_done (by kernel_rfl) ?_
  refine wp_seq ?_
  refine wp_seq ?_
  refine region_rule ?_
  refine ops_rule (C := []) [] [] 3 [] 0 (fun φ2 => [(5, .bool (decide (z < ((0 : Nat) : Int)))), (4, .bool (decide (z < ((0 : Nat) : Int)))), (3, .int .i64 z)]) (fun φ2 => []) (fun φ2 => []) s trivial (fun φ2 => by kernel_rfl) ?_
  intro φ2 w2 s
  rcases Bool.eq_false_or_eq_true (decide (z < ((0 : Nat) : Int))) with hc3 | hc3
  ·
    rw [hc3]
    refine ops_rule (C := []) [] [] 3 [] 0 (fun φ4 => [(8, .bool true), (7, undef), (6, undef)]) (fun φ4 => []) (fun φ4 => []) s trivial (fun φ4 => by kernel_rfl) ?_
    intro φ4 w4 s
    refine ops_done (by kernel_rfl) ?_
    refine cond_true_rule (b := true) (by kernel_rfl) rfl ?_
    refine wp_seq ?_
    refine region_rule ?_
    refine ops_rule (C := []) [] [] 1 [] 0 (fun φ5 => [(2, .string ⟨#[]⟩)]) (fun φ5 => []) (fun φ5 => []) s trivial (fun φ5 => by kernel_rfl) ?_
    intro φ5 w5 s
    refine ops_done (by kernel_rfl) ?_
    refine wp_ret ?_
    refine ret_rule (C := []) [] [] (.string ⟨#[]⟩) [] [] s trivial (by kernel_rfl) ?_
    exact ⟨_, _, _, rfl, s, rfl⟩
  ·
    rw [hc3]
    refine ops_rule (C := []) [] [] 3 [] 0 (fun φ6 => [(8, .bool (decide (z ≥ ((7 : Nat) : Int)))), (7, .bool (decide (z ≥ ((7 : Nat) : Int)))), (6, .int .i64 z)]) (fun φ6 => []) (fun φ6 => []) s trivial (fun φ6 => by kernel_rfl) ?_
    intro φ6 w6 s
    refine ops_done (by kernel_rfl) ?_
    rcases Bool.eq_false_or_eq_true (decide (z ≥ ((7 : Nat) : Int))) with hc7 | hc7
    ·
      rw [hc7]
      refine cond_true_rule (b := true) (by kernel_rfl) rfl ?_
      refine wp_seq ?_
      refine region_rule ?_
      refine ops_rule (C := []) [] [] 1 [] 0 (fun φ8 => [(2, .string ⟨#[]⟩)]) (fun φ8 => []) (fun φ8 => []) s trivial (fun φ8 => by kernel_rfl) ?_
      intro φ8 w8 s
      refine ops_done (by kernel_rfl) ?_
      refine wp_ret ?_
      refine ret_rule (C := []) [] [] (.string ⟨#[]⟩) [] [] s trivial (by kernel_rfl) ?_
      exact ⟨_, _, _, rfl, s, rfl⟩
    ·
      exact absurd (of_decide_eq_false hc7) (by have hq0 := of_decide_eq_false hc3; omega)

theorem kindName_c {I : IM} (hN : NmT I) {z : Int} : Fun Tryd.prog 27 #[.int .i64 z] I (fun v J => v = .string ⟨(nmS z).toArray⟩) := by
  by_cases h : 0 ≤ z ∧ z < 7
  · have : z = 0 ∨ z = 1 ∨ z = 2 ∨ z = 3 ∨ z = 4 ∨ z = 5 ∨ z = 6 := by omega
    rcases this with rfl | rfl | rfl | rfl | rfl | rfl | rfl
    · exact kindName0_c hN
    · exact kindName1_c hN
    · exact kindName2_c hN
    · exact kindName3_c hN
    · exact kindName4_c hN
    · exact kindName5_c hN
    · exact kindName6_c hN
  · have e : nmS z = [] := by unfold nmS; rw [if_neg h]
    rw [e]; exact kindNameX_c hN h
end Go.Proofs.YtcpmjogeafhpnaaDoor.Tx
/- Slices of fields, and of ints. -/
set_option linter.all false
set_option maxRecDepth 100000
namespace Go.Proofs.YtcpmjogeafhpnaaDoor
open Go.RowKit Go.Sep
structure Fe where
  k : Int
  a : List UInt8
  v : List UInt8
def Fe.z : Fe := ⟨0, [], []⟩
def fc (x : Fe) : List Value := [.int .i64 x.k, .string ⟨x.a.toArray⟩, .string ⟨x.v.toArray⟩]
def fcs (L : List Fe) : List Value := L.flatMap fc
theorem fcs_append (l m : List Fe) : fcs (l ++ m) = fcs l ++ fcs m := List.flatMap_append
theorem fcs_length : ∀ l : List Fe, (fcs l).length = l.length * 3
  | [] => rfl
  | s :: l => by
    have := fcs_length l
    have e : fcs (s :: l) = fc s ++ fcs l := rfl
    rw [e, List.length_append, this]; simp only [fc, List.length_cons, List.length_nil]; omega
theorem fcs_at : ∀ {L : List Fe} {i : Nat} {x : Fe}, L[i]? = some x → (fcs L)[i * 3]? = some (.int .i64 x.k) ∧ (fcs L)[i * 3 + 1]? = some (.string ⟨x.a.toArray⟩) ∧ (fcs L)[i * 3 + 2]? = some (.string ⟨x.v.toArray⟩)
  | [], _, _, h => by simp at h
  | s :: L, 0, x, h => by
    simp only [List.getElem?_cons_zero, Option.some.injEq] at h
    subst h
    exact ⟨rfl, rfl, rfl⟩
  | s :: L, i + 1, x, h => by
    have := fcs_at (L := L) (i := i) (x := x) (by simpa using h)
    have e : fcs (s :: L) = fc s ++ fcs L := rfl
    have hl : (fc s).length = 3 := rfl
    rw [e, List.getElem?_append_right (by omega), List.getElem?_append_right (by omega), List.getElem?_append_right (by omega), hl,
      show (i + 1) * 3 - 3 = i * 3 by omega, show (i + 1) * 3 + 1 - 3 = i * 3 + 1 by omega, show (i + 1) * 3 + 2 - 3 = i * 3 + 2 by omega]
    exact this
/-- v is a slice of these fields, never written -/
def FSl (I : IM) (L : List Fe) (v : Value) : Prop := ∃ a cap, v = .slice a L.length cap ∧ L.length ≤ cap ∧ ∀ (j : Nat) (x : Fe), L[j]? = some x → ∃ (b o : Nat) (cs : Array Value) (T : TypeId) (fr : Nat × Nat), a = some ⟨b, o, none⟩ ∧ I b = some (.cells cs T fr) ∧ cs[o + j * 3]? = some (.int .i64 x.k) ∧ cs[o + j * 3 + 1]? = some (.string ⟨x.a.toArray⟩) ∧ cs[o + j * 3 + 2]? = some (.string ⟨x.v.toArray⟩)
theorem FSl.mono {I J : IM} (le : I.Le J) {L : List Fe} {v : Value} (h : FSl I L v) : FSl J L v := by
  obtain ⟨a, cap, hv, hc, hr⟩ := h
  refine ⟨a, cap, hv, hc, fun j x hj => ?_⟩
  obtain ⟨b, o, cs, T, fr, h1, h2, h3⟩ := hr j x hj
  exact ⟨b, o, cs, T, fr, h1, le _ _ h2, h3⟩
theorem FSl.open {I : IM} {L : List Fe} {v : Value} (h : FSl I L v) : ∃ a c, v = .slice a L.length c ∧ L.length ≤ c ∧ FSl I L (.slice a L.length c) := by
  obtain ⟨a, c, rfl, hc, hr⟩ := h
  exact ⟨a, c, rfl, hc, a, c, rfl, hc, hr⟩
theorem fsl_nil (I : IM) : FSl I [] (.slice none 0 0) := ⟨none, 0, rfl, Nat.le_refl _, fun j x h => by simp at h⟩
theorem FSl.cap {I : IM} {L : List Fe} {a : Option Addr} {n c : Nat} (h : FSl I L (.slice a n c)) : n = L.length ∧ L.length ≤ c := by
  obtain ⟨a', c', hv, hc, _⟩ := h
  cases hv; exact ⟨rfl, hc⟩
theorem fe_getD {L : List Fe} {i : Nat} (h : i < L.length) : L[i]? = some (L.getD i Fe.z) := by simp [h]
theorem under22s : Tryd.prog.underlying 22 = some (.slice 39) := by kernel_rfl
theorem size39s (w : World) : (sizeOf 39).run Tryd.prog w = .ok 3 w := by kernel_rfl
theorem fsl_idx22 {I : IM} {w : World} {L : List Fe} {a : Option Addr} {n c i : Nat} (h : FSl I L (.slice a n c)) (hi : i < L.length) :
    (Instr.indexAt 22 (.slice a n c) (.int .i64 ((i : Nat) : Int))).run Tryd.prog w = .ok (.pointer (pAt a (i * 3))) w := by
  obtain ⟨a', c', hv, hc, hr⟩ := h
  cases hv
  obtain ⟨b, o, cs, T, fr, rfl, h2, h3, h4⟩ := hr i _ (fe_getD hi)
  have h2 : (i : Int) < (L.length : Int) := by omega
  simp [Instr.indexAt, asIntOf, run_underlying under22s, size39s, h2, pAt]
  intro h3; omega
theorem fsl_ld39 {I : IM} {w : World} (hS : I.Sub w) {L : List Fe} {a : Option Addr} {n c i : Nat} (h : FSl I L (.slice a n c)) (hi : i < L.length) :
    (Instr.loadAt 39 (.pointer (pAt a (i * 3)))).run Tryd.prog w = .ok (.agg #[.int .i64 (L.getD i Fe.z).k, .string ⟨(L.getD i Fe.z).a.toArray⟩, .string ⟨(L.getD i Fe.z).v.toArray⟩]) w := by
  obtain ⟨a', c', hv, hc, hr⟩ := h
  cases hv
  obtain ⟨b, o, cs, T, fr, rfl, h2, h3, h4, h5⟩ := hr i _ (fe_getD hi)
  rw [show pAt (some ⟨b, o, none⟩) (i * 3) = some ⟨b, o + i * 3, none⟩ from congrArg some (addr_addO b o (i * 3))]
  have c1 := run_cell (a := ⟨b, o + i * 3, none⟩) (hS _ _ h2) rfl rfl
  have c2 := run_cell (a := ⟨b, o + i * 3 + 1, none⟩) (hS _ _ h2) rfl rfl
  have c3 := run_cell (a := ⟨b, o + i * 3 + 2, none⟩) (hS _ _ h2) rfl rfl
  rw [h3] at c1
  rw [h4] at c2
  rw [h5] at c3
  have e : (Instr.loadAt 39 (.pointer (some ⟨b, o + i * 3, none⟩))).run Tryd.prog w = ((do pure (.agg (← loadCells ⟨b, o + i * 3, none⟩ 3))) : Sem Value).run Tryd.prog w := by kernel_rfl
  have l1 : (load ⟨b, o + i * 3, none⟩).run Tryd.prog w = .ok (.int .i64 (L.getD i Fe.z).k) w := by simp only [load, Sem.run, c1]
  have l2 : (load ⟨b, o + i * 3 + 1, none⟩).run Tryd.prog w = .ok (.string ⟨(L.getD i Fe.z).a.toArray⟩) w := by simp only [load, Sem.run, c2]
  have l3 : (load ⟨b, o + i * 3 + 2, none⟩).run Tryd.prog w = .ok (.string ⟨(L.getD i Fe.z).v.toArray⟩) w := by simp only [load, Sem.run, c3]
  have a1 : (⟨b, o + i * 3, none⟩ : Addr).add 0 = ⟨b, o + i * 3, none⟩ := rfl
  have a2 : (⟨b, o + i * 3, none⟩ : Addr).add 1 = ⟨b, o + i * 3 + 1, none⟩ := rfl
  have a3 : (⟨b, o + i * 3, none⟩ : Addr).add (1 + 1) = ⟨b, o + i * 3 + 2, none⟩ := rfl
  rw [e]
  simp only [loadCells, loadCellsFrom, Sem.run_bind, Sem.run_pure, a1, a2, a3, Nat.zero_add, l1, l2, l3, Result.andThen_ok]
  rfl
theorem freeze_row39 {w0 : World} {I0 : IM} {m : List Nat} {I : IM} {w : World} {H F : List OB} {L : List Fe} {v : Value} {n : Nat} (s : St w0 I0 m I w (H ++ F)) (h : RowH 39 3 v n (fcs L) F) :
    ∃ I', I.Le I' ∧ FSl I' L v ∧ St w0 I0 m I' w H := by
  have hl : L.length = n := by have := h.1; rw [fcs_length] at this; omega
  rcases h.2 with ⟨rfl, rfl, rfl⟩ | ⟨g, cap, cur, rfl, rfl, hnc, hcm, hcs, ht⟩
  · have : L = [] := List.eq_nil_of_length_eq_zero hl
    subst this
    exact ⟨I, IM.Le.refl I, fsl_nil I, by simpa using s⟩
  · have s2 := (s.perm (H' := (g, .cells cur 39) :: H) (by exact List.perm_append_comm))
    refine ⟨_, IM.le_add (s2.free (g, .cells cur 39) (by simp)) _, ?_, s2.freeze⟩
    refine ⟨some ⟨g, 0, none⟩, cap, congrArg (fun q => Value.slice (some ⟨g, 0, none⟩) q cap) hl.symm, by omega, fun j x hj => ⟨g, 0, cur, 39, (0, 0), rfl, IM.add_self _ _ _, ?_⟩⟩
    have hh := fcs_at hj
    rw [← ht, List.getElem?_take, List.getElem?_take, List.getElem?_take] at hh
    have hj2 := (List.getElem?_eq_some_iff.1 hj).1
    rw [if_pos (by omega), if_pos (by omega), if_pos (by omega)] at hh
    rw [Nat.zero_add]
    simpa using hh
theorem under30s : Tryd.prog.underlying 30 = some (.slice 42) := by kernel_rfl
theorem size42s (w : World) : (sizeOf 42).run Tryd.prog w = .ok 3 w := by kernel_rfl
theorem fsl_idx30 {I : IM} {w : World} {L : List Fe} {a : Option Addr} {n c i : Nat} (h : FSl I L (.slice a n c)) (hi : i < L.length) :
    (Instr.indexAt 30 (.slice a n c) (.int .i64 ((i : Nat) : Int))).run Tryd.prog w = .ok (.pointer (pAt a (i * 3))) w := by
  obtain ⟨a', c', hv, hc, hr⟩ := h
  cases hv
  obtain ⟨b, o, cs, T, fr, rfl, h2, h3, h4⟩ := hr i _ (fe_getD hi)
  have h2 : (i : Int) < (L.length : Int) := by omega
  simp [Instr.indexAt, asIntOf, run_underlying under30s, size42s, h2, pAt]
  intro h3; omega
theorem fsl_ld42 {I : IM} {w : World} (hS : I.Sub w) {L : List Fe} {a : Option Addr} {n c i : Nat} (h : FSl I L (.slice a n c)) (hi : i < L.length) :
    (Instr.loadAt 42 (.pointer (pAt a (i * 3)))).run Tryd.prog w = .ok (.agg #[.int .i64 (L.getD i Fe.z).k, .string ⟨(L.getD i Fe.z).a.toArray⟩, .string ⟨(L.getD i Fe.z).v.toArray⟩]) w := by
  obtain ⟨a', c', hv, hc, hr⟩ := h
  cases hv
  obtain ⟨b, o, cs, T, fr, rfl, h2, h3, h4, h5⟩ := hr i _ (fe_getD hi)
  rw [show pAt (some ⟨b, o, none⟩) (i * 3) = some ⟨b, o + i * 3, none⟩ from congrArg some (addr_addO b o (i * 3))]
  have c1 := run_cell (a := ⟨b, o + i * 3, none⟩) (hS _ _ h2) rfl rfl
  have c2 := run_cell (a := ⟨b, o + i * 3 + 1, none⟩) (hS _ _ h2) rfl rfl
  have c3 := run_cell (a := ⟨b, o + i * 3 + 2, none⟩) (hS _ _ h2) rfl rfl
  rw [h3] at c1
  rw [h4] at c2
  rw [h5] at c3
  have e : (Instr.loadAt 42 (.pointer (some ⟨b, o + i * 3, none⟩))).run Tryd.prog w = ((do pure (.agg (← loadCells ⟨b, o + i * 3, none⟩ 3))) : Sem Value).run Tryd.prog w := by kernel_rfl
  have l1 : (load ⟨b, o + i * 3, none⟩).run Tryd.prog w = .ok (.int .i64 (L.getD i Fe.z).k) w := by simp only [load, Sem.run, c1]
  have l2 : (load ⟨b, o + i * 3 + 1, none⟩).run Tryd.prog w = .ok (.string ⟨(L.getD i Fe.z).a.toArray⟩) w := by simp only [load, Sem.run, c2]
  have l3 : (load ⟨b, o + i * 3 + 2, none⟩).run Tryd.prog w = .ok (.string ⟨(L.getD i Fe.z).v.toArray⟩) w := by simp only [load, Sem.run, c3]
  have a1 : (⟨b, o + i * 3, none⟩ : Addr).add 0 = ⟨b, o + i * 3, none⟩ := rfl
  have a2 : (⟨b, o + i * 3, none⟩ : Addr).add 1 = ⟨b, o + i * 3 + 1, none⟩ := rfl
  have a3 : (⟨b, o + i * 3, none⟩ : Addr).add (1 + 1) = ⟨b, o + i * 3 + 2, none⟩ := rfl
  rw [e]
  simp only [loadCells, loadCellsFrom, Sem.run_bind, Sem.run_pure, a1, a2, a3, Nat.zero_add, l1, l2, l3, Result.andThen_ok]
  rfl
theorem freeze_row42 {w0 : World} {I0 : IM} {m : List Nat} {I : IM} {w : World} {H F : List OB} {L : List Fe} {v : Value} {n : Nat} (s : St w0 I0 m I w (H ++ F)) (h : RowH 42 3 v n (fcs L) F) :
    ∃ I', I.Le I' ∧ FSl I' L v ∧ St w0 I0 m I' w H := by
  have hl : L.length = n := by have := h.1; rw [fcs_length] at this; omega
  rcases h.2 with ⟨rfl, rfl, rfl⟩ | ⟨g, cap, cur, rfl, rfl, hnc, hcm, hcs, ht⟩
  · have : L = [] := List.eq_nil_of_length_eq_zero hl
    subst this
    exact ⟨I, IM.Le.refl I, fsl_nil I, by simpa using s⟩
  · have s2 := (s.perm (H' := (g, .cells cur 42) :: H) (by exact List.perm_append_comm))
    refine ⟨_, IM.le_add (s2.free (g, .cells cur 42) (by simp)) _, ?_, s2.freeze⟩
    refine ⟨some ⟨g, 0, none⟩, cap, congrArg (fun q => Value.slice (some ⟨g, 0, none⟩) q cap) hl.symm, by omega, fun j x hj => ⟨g, 0, cur, 42, (0, 0), rfl, IM.add_self _ _ _, ?_⟩⟩
    have hh := fcs_at hj
    rw [← ht, List.getElem?_take, List.getElem?_take, List.getElem?_take] at hh
    have hj2 := (List.getElem?_eq_some_iff.1 hj).1
    rw [if_pos (by omega), if_pos (by omega), if_pos (by omega)] at hh
    rw [Nat.zero_add]
    simpa using hh
def ic (K : List Nat) : List Value := K.map fun x => .int .i64 ((x : Nat) : Int)
theorem ic_append (l m : List Nat) : ic (l ++ m) = ic l ++ ic m := List.map_append
/-- v is a slice of these ints, never written -/
def KSl (I : IM) (K : List Nat) (v : Value) : Prop := ∃ a cap, v = .slice a K.length cap ∧ K.length ≤ cap ∧ ∀ (j : Nat) (x : Nat), K[j]? = some x → ∃ (b o : Nat) (cs : Array Value) (T : TypeId) (fr : Nat × Nat), a = some ⟨b, o, none⟩ ∧ I b = some (.cells cs T fr) ∧ cs[o + j]? = some (.int .i64 ((x : Nat) : Int))
theorem KSl.mono {I J : IM} (le : I.Le J) {L : List Nat} {v : Value} (h : KSl I L v) : KSl J L v := by
  obtain ⟨a, cap, hv, hc, hr⟩ := h
  refine ⟨a, cap, hv, hc, fun j x hj => ?_⟩
  obtain ⟨b, o, cs, T, fr, h1, h2, h3⟩ := hr j x hj
  exact ⟨b, o, cs, T, fr, h1, le _ _ h2, h3⟩
theorem KSl.open {I : IM} {L : List Nat} {v : Value} (h : KSl I L v) : ∃ a c, v = .slice a L.length c ∧ L.length ≤ c ∧ KSl I L (.slice a L.length c) := by
  obtain ⟨a, c, rfl, hc, hr⟩ := h
  exact ⟨a, c, rfl, hc, a, c, rfl, hc, hr⟩
theorem ksl_nil (I : IM) : KSl I [] (.slice none 0 0) := ⟨none, 0, rfl, Nat.le_refl _, fun j x h => by simp at h⟩
theorem KSl.cap {I : IM} {L : List Nat} {a : Option Addr} {n c : Nat} (h : KSl I L (.slice a n c)) : n = L.length ∧ L.length ≤ c := by
  obtain ⟨a', c', hv, hc, _⟩ := h
  cases hv; exact ⟨rfl, hc⟩
theorem k_getD {L : List Nat} {i : Nat} (h : i < L.length) : L[i]? = some (L.getD i 0) := by simp [h]
theorem under52s : Tryd.prog.underlying 52 = some (.slice 3) := by kernel_rfl
theorem size3s (w : World) : (sizeOf 3).run Tryd.prog w = .ok 1 w := by kernel_rfl
theorem ksl_idx {I : IM} {w : World} {L : List Nat} {a : Option Addr} {n c i : Nat} (h : KSl I L (.slice a n c)) (hi : i < L.length) :
    (Instr.indexAt 52 (.slice a n c) (.int .i64 ((i : Nat) : Int))).run Tryd.prog w = .ok (.pointer (pAt a i)) w := by
  obtain ⟨a', c', hv, hc, hr⟩ := h
  cases hv
  obtain ⟨b, o, cs, T, fr, rfl, h2, h3⟩ := hr i _ (k_getD hi)
  have h2 : (i : Int) < (L.length : Int) := by omega
  simp [Instr.indexAt, asIntOf, run_underlying under52s, size3s, h2, pAt]
  intro h3; omega
theorem ksl_ld {I : IM} {w : World} (hS : I.Sub w) {L : List Nat} {a : Option Addr} {n c i : Nat} (h : KSl I L (.slice a n c)) (hi : i < L.length) :
    (Instr.loadAt 3 (.pointer (pAt a i))).run Tryd.prog w = .ok (.int .i64 ((L.getD i 0 : Nat) : Int)) w := by
  obtain ⟨a', c', hv, hc, hr⟩ := h
  cases hv
  obtain ⟨b, o, cs, T, fr, rfl, h2, h3⟩ := hr i _ (k_getD hi)
  rw [show pAt (some ⟨b, o, none⟩) i = some ⟨b, o + i, none⟩ from congrArg some (addr_addO b o i)]
  have c1 := run_cell (a := ⟨b, o + i, none⟩) (hS _ _ h2) rfl rfl
  rw [h3] at c1
  have e : (Instr.loadAt 3 (.pointer (some ⟨b, o + i, none⟩))).run Tryd.prog w = (load ⟨b, o + i, none⟩).run Tryd.prog w := by kernel_rfl
  rw [e]; simp only [load, Sem.run, c1]
theorem freeze_row3 {w0 : World} {I0 : IM} {m : List Nat} {I : IM} {w : World} {H F : List OB} {L : List Nat} {v : Value} {n : Nat} (s : St w0 I0 m I w (H ++ F)) (h : RowH 3 1 v n (ic L) F) :
    ∃ I', I.Le I' ∧ KSl I' L v ∧ St w0 I0 m I' w H := by
  have hl : L.length = n := by have := h.1; simpa [ic] using this
  rcases h.2 with ⟨rfl, rfl, rfl⟩ | ⟨g, cap, cur, rfl, rfl, hnc, hcm, hcs, ht⟩
  · have : L = [] := List.eq_nil_of_length_eq_zero hl
    subst this
    exact ⟨I, IM.Le.refl I, ksl_nil I, by simpa using s⟩
  · have s2 := (s.perm (H' := (g, .cells cur 3) :: H) (by exact List.perm_append_comm))
    refine ⟨_, IM.le_add (s2.free (g, .cells cur 3) (by simp)) _, ?_, s2.freeze⟩
    refine ⟨some ⟨g, 0, none⟩, cap, congrArg (fun q => Value.slice (some ⟨g, 0, none⟩) q cap) hl.symm, by omega, fun j x hj => ⟨g, 0, cur, 3, (0, 0), rfl, IM.add_self _ _ _, ?_⟩⟩
    have hx : (ic L)[j]? = some (.int .i64 ((x : Nat) : Int)) := by rw [ic, List.getElem?_map, hj]; rfl
    rw [← ht, List.getElem?_take] at hx
    rw [Nat.zero_add]
    split at hx
    · simpa using hx
    · cases hx
/-- the fields that the program reads; the rest; the error -/
noncomputable def pF : Nat → List UInt8 → Nat → List Fe × List UInt8 × Nat
  | 0, l, e => ([], l, e)
  | n + 1, l, e => (⟨(((fdG l e 255 255).k : Nat) : Int), (fdG l e 255 255).a, (fdG l e 255 255).v⟩ :: (pF n (l.drop (fdG l e 255 255).d) (fdG l e 255 255).e).1, (pF n (l.drop (fdG l e 255 255).d) (fdG l e 255 255).e).2)
/-- kinds -/
def pK : Nat → List UInt8 → Nat → List Nat × List UInt8 × Nat
  | 0, l, e => ([], l, e)
  | n + 1, l, e => (byV l e :: (pK n (l.drop (byD l e)) (byE l e)).1, (pK n (l.drop (byD l e)) (byE l e)).2)
/-- a list of fields, a list of kinds -/
noncomputable def gfP (l : List UInt8) (e : Nat) : List Fe × List UInt8 × Nat := pF (coG l e 255 9).1 (l.drop (nuD l e)) (coG l e 255 9).2
noncomputable def gkP (l : List UInt8) (e : Nat) : List Nat × List UInt8 × Nat := pK (coG l e 255 9).1 (l.drop (nuD l e)) (coG l e 255 9).2
theorem co_small {l : List UInt8} {e : Nat} (h : ¬ 255 < nuV l e) : coG l e 255 9 = (nuV l e, nuE l e) := by
  unfold coG; rw [if_neg h]
end Go.Proofs.YtcpmjogeafhpnaaDoor
/- Lists of fields and kinds are read. -/
set_option linter.all false
set_option maxRecDepth 100000
namespace Go.Proofs.YtcpmjogeafhpnaaDoor
open Go.RowKit Go.Sep
attribute [local irreducible] Go.wpList Go.Code.wp

theorem co_le {l : List UInt8} {e N E : Nat} (h : coG l e 255 9 = (N, E)) : N ≤ 255 := by
  unfold coG at h
  split at h
  · cases h; omega
  · cases h; omega
theorem pF_step {n m : Nat} {l L L2 : List UInt8} {e E D K e0 : Nat} {A V : List UInt8} {Fs : List Fe} (h : pF n l e0 = (Fs ++ (pF m L e).1, (pF m L e).2)) (hm : 0 < m) (h1 : fdG L e 255 255 = ⟨K, A, V, D, E⟩) (h2 : L.drop D = L2) :
    pF n l e0 = ((Fs ++ [⟨((K : Nat) : Int), A, V⟩]) ++ (pF (m - 1) L2 E).1, (pF (m - 1) L2 E).2) := by
  obtain ⟨q, rfl⟩ : ∃ q, m = q + 1 := ⟨m - 1, by omega⟩
  rw [h]
  simp only [pF, h1, h2, Nat.add_sub_cancel, List.append_assoc, List.singleton_append]
theorem pK_step {n m : Nat} {l L L2 : List UInt8} {e E D V e0 : Nat} {Fs : List Nat} (h : pK n l e0 = (Fs ++ (pK m L e).1, (pK m L e).2)) (hm : 0 < m) (h1 : byV L e = V) (h3 : byE L e = E) (h4 : byD L e = D) (h2 : L.drop D = L2) :
    pK n l e0 = ((Fs ++ [V]) ++ (pK (m - 1) L2 E).1, (pK (m - 1) L2 E).2) := by
  obtain ⟨q, rfl⟩ : ∃ q, m = q + 1 := ⟨m - 1, by omega⟩
  rw [h]
  simp only [pK, h1, h3, h4, h2, Nat.add_sub_cancel, List.append_assoc, List.singleton_append]
theorem row39_snoc {v : Value} {n : Nat} {Fs : List Fe} {x : Fe} {F : List OB} (h : RowH 39 3 v (n + 1) (fcs Fs ++ [.int .i64 x.k, .string ⟨x.a.toArray⟩, .string ⟨x.v.toArray⟩]) F) (hn : n = Fs.length) : RowH 39 3 v (Fs ++ [x]).length (fcs (Fs ++ [x])) F := by
  subst hn
  rw [fcs_append, List.length_append]
  exact h
theorem row3_snoc {v : Value} {n : Nat} {Fs : List Nat} {x : Nat} {F : List OB} (h : RowH 3 1 v (n + 1) (ic Fs ++ [.int .i64 ((x : Nat) : Int)]) F) (hn : n = Fs.length) : RowH 3 1 v (Fs ++ [x]).length (ic (Fs ++ [x])) F := by
  subst hn
  rw [ic_append, List.length_append]
  exact h

set_option maxHeartbeats 4000000 in
theorem getFields_c {I : IM} {l : List UInt8} {a : Option Addr} {k c r e : Nat} (hl : BSl I l (.slice a k c)) (hn9 : l.length ≤ 1000000) : FunM Tryd.prog 87 #[.pointer (some ⟨r, 0, none⟩)] I [(r, .cells #[.slice a k c, .int .i64 ((e : Nat) : Int)] 126)] (fun v J H' => ∃ (b' : OB) (F' : List OB), H' = b' :: F' ∧ b'.1 = r ∧ ∃ (Fs : List Fe) (E : Nat) (L : List UInt8) (a' : Option Addr) (k' c' : Nat), b' = (r, .cells #[.slice a' k' c', .int .i64 ((E : Nat) : Int)] 126) ∧ BSl J L (.slice a' k' c') ∧ gfP l e = (Fs, L, E) ∧ Fs.length ≤ 255 ∧ L.length ≤ 1000000 ∧ RowH 39 3 v Fs.length (fcs Fs) F') := by
  obtain ⟨rfl, -⟩ := hl.cap
  refine enterM_rule 15 [(0, .pointer (some ⟨r, 0, none⟩))] Tryd.func87 rfl (by kernel_rfl) ?_
  intro w s
  refine wp_seq ?_
  refine region_rule ?_
  refine ops_rule (C := []) [(r, .cells #[.slice a l.length c, .int .i64 ((e : Nat) : Int)] 126)] [] 1 [] 0 (fun φ1 => [(2, .slice none 0 0)]) (fun φ1 => [(r, .cells #[.slice a l.length c, .int .i64 ((e : Nat) : Int)] 126)]) (fun φ1 => []) s trivial (fun φ1 => by kernel_rfl) ?_
  intro φ1 w1 s
  refine ops_done (by kernel_rfl) ?_
  refine wp_seq ?_
  refine region_rule ?_
  refine ops_rule (C := []) [(r, .cells #[.slice a l.length c, .int .i64 ((e : Nat) : Int)] 126)] [] 1 [] 0 (fun φ2 => [(3, .slice none 0 0)]) (fun φ2 => [(r, .cells #[.slice a l.length c, .int .i64 ((e : Nat) : Int)] 126)]) (fun φ2 => []) s trivial (fun φ2 => by kernel_rfl) ?_
  intro φ2 w2 s
  refine ops_done (by kernel_rfl) ?_
  refine wp_seq ?_
  refine wp_seq ?_
  refine region_rule ?_
  refine ops_rule (C := []) [(r, .cells #[.slice a l.length c, .int .i64 ((e : Nat) : Int)] 126)] [] 1 [] 0 (fun φ3 => [(4, .pointer (some ⟨r, 0, none⟩))]) (fun φ3 => [(r, .cells #[.slice a l.length c, .int .i64 ((e : Nat) : Int)] 126)]) (fun φ3 => []) s trivial (fun φ3 => by kernel_rfl) ?_
  intro φ3 w3 s
  refine callB_rule (b := (r, .cells #[.slice a l.length c, .int .i64 ((e : Nat) : Int)] 126)) (H := [(r, .cells #[.slice a l.length c, .int .i64 ((e : Nat) : Int)] 126)]) (F := []) (Hr := []) (some 5) 0 s (by kernel_rfl) (by kernel_rfl) (count_c (r := r) (e := e) (most := 255) (q := 9) hl hn9 (by decide)) (by kernel_rfl) ?_
  rintro v4 I4 w4 b4 le4 - h4 s
  replace hl := BSl.mono le4 hl
  obtain ⟨N4, E4, D4, L4, a4, k4, c4, rfl, rfl, h4_0, h4_1, h4_2, h4_3⟩ := h4
  refine ops_rule (C := []) [(r, .cells #[.slice a4 k4 c4, .int .i64 ((E4 : Nat) : Int)] 126)] [] 1 [] 0 (fun φ5 => [(6, .int .i64 0)]) (fun φ5 => [(r, .cells #[.slice a4 k4 c4, .int .i64 ((E4 : Nat) : Int)] 126)]) (fun φ5 => []) s trivial (fun φ5 => by kernel_rfl) ?_
  intro φ5 w5 s
  refine ops_done (by kernel_rfl) ?_
  refine wp_block ?_
  have hN6 := co_le h4_1
  have hle7 := IM.Le.refl I4
  refine loop_rule (fun (x : Nat × List UInt8 × Option Addr × Nat × Nat × Nat × Value × List OB × List Fe) => [(0, .pointer (some ⟨r, 0, none⟩)), (2, .slice none 0 0), (4, .pointer (some ⟨r, 0, none⟩)), (5, .int .i64 ((N4 : Nat) : Int)), (6, .int .i64 ((x.1 : Nat) : Int)), (3, x.2.2.2.2.2.2.1)]) (fun (x : Nat × List UInt8 × Option Addr × Nat × Nat × Nat × Value × List OB × List Fe) => [(r, .cells #[.slice x.2.2.1 x.2.2.2.1 x.2.2.2.2.1, .int .i64 ((x.2.2.2.2.2.1 : Nat) : Int)] 126)] ++ x.2.2.2.2.2.2.2.1) (fun m (x : Nat × List UInt8 × Option Addr × Nat × Nat × Nat × Value × List OB × List Fe) J => IM.Le I4 J ∧ x.1 + m = N4 ∧ BSl J x.2.1 (.slice x.2.2.1 x.2.2.2.1 x.2.2.2.2.1) ∧ x.2.1.length ≤ 1000000 ∧ RowH 39 3 x.2.2.2.2.2.2.1 (x.2.2.2.2.2.2.2.2).length (fcs x.2.2.2.2.2.2.2.2) x.2.2.2.2.2.2.2.1 ∧ (x.2.2.2.2.2.2.2.2).length = x.1 ∧ pF N4 L4 E4 = (x.2.2.2.2.2.2.2.2 ++ (pF m x.2.1 x.2.2.2.2.2.1).1, (pF m x.2.1 x.2.2.2.2.2.1).2)) (N4) (0, L4, a4, k4, c4, E4, (.slice none 0 0), [], []) s (by kernel_rfl) (List.Sublist.refl _) ⟨IM.Le.refl _, Nat.zero_add _, h4_0, (drop_len9 h4_3 hn9), (RowH.nil 39 3), rfl, rfl⟩ ?_
  rintro m8 ⟨i8, L8, a8, k8, c8, e8, v8, F8, Fs8⟩ I8 w8 ev8 s ⟨le8, hi8_0, hi8_1, hi8_2, hi8_3, hi8_4, hi8_5⟩
  try dsimp only at s hi8_0 hi8_1 hi8_2 hi8_3 hi8_4 hi8_5 ⊢
  replace hl := BSl.mono le8 hl
  replace h4_0 := BSl.mono le8 h4_0
  replace hle7 := leMono le8 hle7
  have hl9 : Fs8.length ≤ 255 := by have e9 := hi8_4; have e8 := hi8_0; omega
  refine wp_seq ?_
  refine region_rule ?_
  refine ops_rule (C := []) [(r, .cells #[.slice a8 k8 c8, .int .i64 ((e8 : Nat) : Int)] 126)] F8 1 [] 0 (fun φ9 => [(7, .bool (decide (((i8 : Nat) : Int) < ((N4 : Nat) : Int))))]) (fun φ9 => [(r, .cells #[.slice a8 k8 c8, .int .i64 ((e8 : Nat) : Int)] 126)]) (fun φ9 => []) s trivial (fun φ9 => by kernel_rfl) ?_
  intro φ9 w9 s
  rw [nat_lss (a := i8) (b := N4)]
  refine ops_done (by kernel_rfl) ?_
  refine wp_seq ?_
  rcases Bool.eq_false_or_eq_true (decide (i8 < N4)) with hc10 | hc10
  ·
    rw [hc10]
    refine cond_true_rule (b := true) (by kernel_rfl) rfl ?_
    refine wp_skip ?_
    refine wp_seq ?_
    refine wp_block ?_
    refine region_rule ?_
    refine ops_rule (C := []) [(r, .cells #[.slice a8 k8 c8, .int .i64 ((e8 : Nat) : Int)] 126)] F8 2 [] 0 (fun φ11 => [(9, .pointer (some ⟨r, 0, none⟩)), (8, v8)]) (fun φ11 => [(r, .cells #[.slice a8 k8 c8, .int .i64 ((e8 : Nat) : Int)] 126)]) (fun φ11 => []) s trivial (fun φ11 => by kernel_rfl) ?_
    intro φ11 w11 s
    refine callB_rule (b := (r, .cells #[.slice a8 k8 c8, .int .i64 ((e8 : Nat) : Int)] 126)) (H := [(r, .cells #[.slice a8 k8 c8, .int .i64 ((e8 : Nat) : Int)] 126)]) (F := F8) (Hr := []) (some 10) 0 s (by kernel_rfl) (by kernel_rfl) (getField_c (r := r) (e := e8) (z1 := 255) (z2 := 255) hi8_1 hi8_2 (by decide) (by decide)) (by kernel_rfl) ?_
    rintro v12 I12 w12 b12 le12 - h12 s
    replace hl := BSl.mono le12 hl
    replace h4_0 := BSl.mono le12 h4_0
    replace hle7 := leMono le12 hle7
    replace hi8_1 := BSl.mono le12 hi8_1
    obtain ⟨K12, A12, V12, E12, D12, L12, a12, k12, c12, rfl, rfl, h12_0, h12_1, h12_2, h12_3⟩ := h12
    refine ops_rule (C := []) [(r, .cells #[.slice a12 k12 c12, .int .i64 ((E12 : Nat) : Int)] 126)] F8 1 [] 1 (fun φ13 => [(11, .slice (some ⟨(φ13 0), 0, none⟩) 1 1)]) (fun φ13 => [(r, .cells #[.slice a12 k12 c12, .int .i64 ((E12 : Nat) : Int)] 126), ((φ13 0), .cells #[.int .i64 ((K12 : Nat) : Int), .string ⟨(A12).toArray⟩, .string ⟨(V12).toArray⟩] 39)]) (fun φ13 => []) s trivial (fun φ13 => by kernel_rfl) ?_
    intro φ13 w13 s
    refine append_rule (H := [(r, .cells #[.slice a12 k12 c12, .int .i64 ((E12 : Nat) : Int)] 126), ((φ13 0), .cells #[.int .i64 ((K12 : Nat) : Int), .string ⟨(A12).toArray⟩, .string ⟨(V12).toArray⟩] 39)]) (F := F8) 22 22 39 Tryd.t39 (.agg #[.int .i64 0, .string ⟨#[]⟩, .string ⟨#[]⟩]) 3 40 (some 12) s Tryd.underlying22 (by kernel_rfl) (by kernel_rfl) (by kernel_rfl) (by kernel_rfl) (by kernel_rfl) (by decide) hi8_3 (src_own s 1 (φ13 0) #[.int .i64 ((K12 : Nat) : Int), .string ⟨(A12).toArray⟩, .string ⟨(V12).toArray⟩] 39 22 39 1 1 3 [.int .i64 ((K12 : Nat) : Int), .string ⟨(A12).toArray⟩, .string ⟨(V12).toArray⟩] (by kernel_rfl) Tryd.underlying22 (by kernel_rfl) (by kernel_rfl) (by kernel_rfl)) (by simp only [maxLen]; omega) (by omega) (by kernel_rfl) ?_
    intro v14 w14 F14 s h14
    refine ops_rule (C := []) [(r, .cells #[.slice a12 k12 c12, .int .i64 ((E12 : Nat) : Int)] 126), ((φ13 0), .cells #[.int .i64 ((K12 : Nat) : Int), .string ⟨(A12).toArray⟩, .string ⟨(V12).toArray⟩] 39)] F14 1 [] 0 (fun φ15 => [(3, v14)]) (fun φ15 => [(r, .cells #[.slice a12 k12 c12, .int .i64 ((E12 : Nat) : Int)] 126), ((φ13 0), .cells #[.int .i64 ((K12 : Nat) : Int), .string ⟨(A12).toArray⟩, .string ⟨(V12).toArray⟩] 39)]) (fun φ15 => []) s trivial (fun φ15 => by kernel_rfl) ?_
    intro φ15 w15 s
    refine ops_done (by kernel_rfl) ?_
    refine region_rule ?_
    refine ops_rule (C := []) [(r, .cells #[.slice a12 k12 c12, .int .i64 ((E12 : Nat) : Int)] 126), ((φ13 0), .cells #[.int .i64 ((K12 : Nat) : Int), .string ⟨(A12).toArray⟩, .string ⟨(V12).toArray⟩] 39)] F14 2 [] 0 (fun φ16 => [(6, .int .i64 (IntKind.wrap .i64 (((i8 : Nat) : Int) + ((1 : Nat) : Int)))), (13, .int .i64 (IntKind.wrap .i64 (((i8 : Nat) : Int) + ((1 : Nat) : Int))))]) (fun φ16 => [(r, .cells #[.slice a12 k12 c12, .int .i64 ((E12 : Nat) : Int)] 126), ((φ13 0), .cells #[.int .i64 ((K12 : Nat) : Int), .string ⟨(A12).toArray⟩, .string ⟨(V12).toArray⟩] 39)]) (fun φ16 => []) s trivial (fun φ16 => by kernel_rfl) ?_
    intro φ16 w16 s
    rw [nat_addI (a := i8) (b := 1) (by have e9 := hi8_4; have e8 := hi8_0; have hq0 := of_decide_eq_true hc10; omega)]
    refine ops_done (by kernel_rfl) ?_
    exact ⟨⟨m8 - 1, (i8 + 1, L12, a12, k12, c12, E12, v14, F14, Fs8 ++ [(⟨((K12 : Nat) : Int), A12, V12⟩ : Fe)]), _, _, _, by have hq0 := of_decide_eq_true hc10; have := hi8_0; omega, rfl, s, (List.Sublist.append (List.Sublist.cons₂ _ (List.Sublist.cons _ List.Sublist.slnil)) (List.Sublist.refl _)), by kernel_rfl, hle7, by have hq0 := of_decide_eq_true hc10; have := hi8_0; show i8 + 1 + (m8 - 1) = N4; omega, h12_0, (drop_len9 h12_3 hi8_2), row39_snoc h14 rfl, by have := hi8_4; show (Fs8 ++ [(⟨((K12 : Nat) : Int), A12, V12⟩ : Fe)]).length = i8 + 1; rw [List.length_append, this]; rfl, pF_step hi8_5 (by have hq0 := of_decide_eq_true hc10; have := hi8_0; omega) h12_1 h12_3⟩⟩
  ·
    rw [hc10]
    refine cond_false_rule (b := false) (by kernel_rfl) rfl ?_
    refine wp_exit ?_
    refine wp_seq ?_
    refine region_rule ?_
    refine ops_rule (C := []) [(r, .cells #[.slice a8 k8 c8, .int .i64 ((e8 : Nat) : Int)] 126)] F8 2 [] 0 (fun φ17 => [(2, v8), (14, v8)]) (fun φ17 => [(r, .cells #[.slice a8 k8 c8, .int .i64 ((e8 : Nat) : Int)] 126)]) (fun φ17 => []) s trivial (fun φ17 => by kernel_rfl) ?_
    intro φ17 w17 s
    refine ops_done (by kernel_rfl) ?_
    refine wp_ret ?_
    refine ret_rule (C := []) [(r, .cells #[.slice a8 k8 c8, .int .i64 ((e8 : Nat) : Int)] 126)] F8 (v8) [] [] s trivial (by kernel_rfl) ?_
    replace s := s.drop (List.Sublist.append (List.Sublist.cons₂ _ List.Sublist.slnil) (List.Sublist.refl F8))
    have hm0 : m8 = 0 := by have hq0 := of_decide_eq_false hc10; have := hi8_0; omega
    have e7 := hi8_5
    rw [hm0] at e7
    simp only [pF, List.append_nil] at e7
    have e6 : gfP l e = (Fs8, L8, e8) := by unfold gfP; rw [h4_1, h4_2, h4_3]; exact e7
    exact ⟨_, _, _, rfl, s, ⟨_, _, rfl, rfl, _, _, _, _, _, _, rfl, hi8_1, e6, hl9, hi8_2, hi8_3⟩⟩

set_option maxHeartbeats 4000000 in
theorem getKinds_c {I : IM} {l : List UInt8} {a : Option Addr} {k c r e : Nat} (hl : BSl I l (.slice a k c)) (hn9 : l.length ≤ 1000000) : FunM Tryd.prog 88 #[.pointer (some ⟨r, 0, none⟩)] I [(r, .cells #[.slice a k c, .int .i64 ((e : Nat) : Int)] 126)] (fun v J H' => ∃ (b' : OB) (F' : List OB), H' = b' :: F' ∧ b'.1 = r ∧ ∃ (Fs : List Nat) (E : Nat) (L : List UInt8) (a' : Option Addr) (k' c' : Nat), b' = (r, .cells #[.slice a' k' c', .int .i64 ((E : Nat) : Int)] 126) ∧ BSl J L (.slice a' k' c') ∧ gkP l e = (Fs, L, E) ∧ Fs.length ≤ 255 ∧ L.length ≤ 1000000 ∧ RowH 3 1 v Fs.length (ic Fs) F') := by
  obtain ⟨rfl, -⟩ := hl.cap
  refine enterM_rule 16 [(0, .pointer (some ⟨r, 0, none⟩))] Tryd.func88 rfl (by kernel_rfl) ?_
  intro w s
  refine wp_seq ?_
  refine region_rule ?_
  refine ops_rule (C := []) [(r, .cells #[.slice a l.length c, .int .i64 ((e : Nat) : Int)] 126)] [] 1 [] 0 (fun φ1 => [(2, .slice none 0 0)]) (fun φ1 => [(r, .cells #[.slice a l.length c, .int .i64 ((e : Nat) : Int)] 126)]) (fun φ1 => []) s trivial (fun φ1 => by kernel_rfl) ?_
  intro φ1 w1 s
  refine ops_done (by kernel_rfl) ?_
  refine wp_seq ?_
  refine region_rule ?_
  refine ops_rule (C := []) [(r, .cells #[.slice a l.length c, .int .i64 ((e : Nat) : Int)] 126)] [] 1 [] 0 (fun φ2 => [(3, .slice none 0 0)]) (fun φ2 => [(r, .cells #[.slice a l.length c, .int .i64 ((e : Nat) : Int)] 126)]) (fun φ2 => []) s trivial (fun φ2 => by kernel_rfl) ?_
  intro φ2 w2 s
  refine ops_done (by kernel_rfl) ?_
  refine wp_seq ?_
  refine wp_seq ?_
  refine region_rule ?_
  refine ops_rule (C := []) [(r, .cells #[.slice a l.length c, .int .i64 ((e : Nat) : Int)] 126)] [] 1 [] 0 (fun φ3 => [(4, .pointer (some ⟨r, 0, none⟩))]) (fun φ3 => [(r, .cells #[.slice a l.length c, .int .i64 ((e : Nat) : Int)] 126)]) (fun φ3 => []) s trivial (fun φ3 => by kernel_rfl) ?_
  intro φ3 w3 s
  refine callB_rule (b := (r, .cells #[.slice a l.length c, .int .i64 ((e : Nat) : Int)] 126)) (H := [(r, .cells #[.slice a l.length c, .int .i64 ((e : Nat) : Int)] 126)]) (F := []) (Hr := []) (some 5) 0 s (by kernel_rfl) (by kernel_rfl) (count_c (r := r) (e := e) (most := 255) (q := 9) hl hn9 (by decide)) (by kernel_rfl) ?_
  rintro v4 I4 w4 b4 le4 - h4 s
  replace hl := BSl.mono le4 hl
  obtain ⟨N4, E4, D4, L4, a4, k4, c4, rfl, rfl, h4_0, h4_1, h4_2, h4_3⟩ := h4
  refine ops_rule (C := []) [(r, .cells #[.slice a4 k4 c4, .int .i64 ((E4 : Nat) : Int)] 126)] [] 1 [] 0 (fun φ5 => [(6, .int .i64 0)]) (fun φ5 => [(r, .cells #[.slice a4 k4 c4, .int .i64 ((E4 : Nat) : Int)] 126)]) (fun φ5 => []) s trivial (fun φ5 => by kernel_rfl) ?_
  intro φ5 w5 s
  refine ops_done (by kernel_rfl) ?_
  refine wp_block ?_
  have hN6 := co_le h4_1
  have hle7 := IM.Le.refl I4
  refine loop_rule (fun (x : Nat × List UInt8 × Option Addr × Nat × Nat × Nat × Value × List OB × List Nat) => [(0, .pointer (some ⟨r, 0, none⟩)), (2, .slice none 0 0), (4, .pointer (some ⟨r, 0, none⟩)), (5, .int .i64 ((N4 : Nat) : Int)), (6, .int .i64 ((x.1 : Nat) : Int)), (3, x.2.2.2.2.2.2.1)]) (fun (x : Nat × List UInt8 × Option Addr × Nat × Nat × Nat × Value × List OB × List Nat) => [(r, .cells #[.slice x.2.2.1 x.2.2.2.1 x.2.2.2.2.1, .int .i64 ((x.2.2.2.2.2.1 : Nat) : Int)] 126)] ++ x.2.2.2.2.2.2.2.1) (fun m (x : Nat × List UInt8 × Option Addr × Nat × Nat × Nat × Value × List OB × List Nat) J => IM.Le I4 J ∧ x.1 + m = N4 ∧ BSl J x.2.1 (.slice x.2.2.1 x.2.2.2.1 x.2.2.2.2.1) ∧ x.2.1.length ≤ 1000000 ∧ RowH 3 1 x.2.2.2.2.2.2.1 (x.2.2.2.2.2.2.2.2).length (ic x.2.2.2.2.2.2.2.2) x.2.2.2.2.2.2.2.1 ∧ (x.2.2.2.2.2.2.2.2).length = x.1 ∧ pK N4 L4 E4 = (x.2.2.2.2.2.2.2.2 ++ (pK m x.2.1 x.2.2.2.2.2.1).1, (pK m x.2.1 x.2.2.2.2.2.1).2)) (N4) (0, L4, a4, k4, c4, E4, (.slice none 0 0), [], []) s (by kernel_rfl) (List.Sublist.refl _) ⟨IM.Le.refl _, Nat.zero_add _, h4_0, (drop_len9 h4_3 hn9), (RowH.nil 3 1), rfl, rfl⟩ ?_
  rintro m8 ⟨i8, L8, a8, k8, c8, e8, v8, F8, Fs8⟩ I8 w8 ev8 s ⟨le8, hi8_0, hi8_1, hi8_2, hi8_3, hi8_4, hi8_5⟩
  try dsimp only at s hi8_0 hi8_1 hi8_2 hi8_3 hi8_4 hi8_5 ⊢
  replace hl := BSl.mono le8 hl
  replace h4_0 := BSl.mono le8 h4_0
  replace hle7 := leMono le8 hle7
  have hl9 : Fs8.length ≤ 255 := by have e9 := hi8_4; have e8 := hi8_0; omega
  refine wp_seq ?_
  refine region_rule ?_
  refine ops_rule (C := []) [(r, .cells #[.slice a8 k8 c8, .int .i64 ((e8 : Nat) : Int)] 126)] F8 1 [] 0 (fun φ9 => [(7, .bool (decide (((i8 : Nat) : Int) < ((N4 : Nat) : Int))))]) (fun φ9 => [(r, .cells #[.slice a8 k8 c8, .int .i64 ((e8 : Nat) : Int)] 126)]) (fun φ9 => []) s trivial (fun φ9 => by kernel_rfl) ?_
  intro φ9 w9 s
  rw [nat_lss (a := i8) (b := N4)]
  refine ops_done (by kernel_rfl) ?_
  refine wp_seq ?_
  rcases Bool.eq_false_or_eq_true (decide (i8 < N4)) with hc10 | hc10
  ·
    rw [hc10]
    refine cond_true_rule (b := true) (by kernel_rfl) rfl ?_
    refine wp_skip ?_
    refine wp_seq ?_
    refine wp_block ?_
    refine region_rule ?_
    refine ops_rule (C := []) [(r, .cells #[.slice a8 k8 c8, .int .i64 ((e8 : Nat) : Int)] 126)] F8 2 [] 0 (fun φ11 => [(9, .pointer (some ⟨r, 0, none⟩)), (8, v8)]) (fun φ11 => [(r, .cells #[.slice a8 k8 c8, .int .i64 ((e8 : Nat) : Int)] 126)]) (fun φ11 => []) s trivial (fun φ11 => by kernel_rfl) ?_
    intro φ11 w11 s
    refine callB_rule (b := (r, .cells #[.slice a8 k8 c8, .int .i64 ((e8 : Nat) : Int)] 126)) (H := [(r, .cells #[.slice a8 k8 c8, .int .i64 ((e8 : Nat) : Int)] 126)]) (F := F8) (Hr := []) (some 10) 0 s (by kernel_rfl) (by kernel_rfl) (byteV_c (r := r) (e := e8) hi8_1 hi8_2) (by kernel_rfl) ?_
    rintro v12 I12 w12 b12 le12 - h12 s
    replace hl := BSl.mono le12 hl
    replace h4_0 := BSl.mono le12 h4_0
    replace hle7 := leMono le12 hle7
    replace hi8_1 := BSl.mono le12 hi8_1
    obtain ⟨V12, E12, D12, L12, a12, k12, c12, rfl, rfl, h12_0, h12_1, h12_2, h12_3, h12_4⟩ := h12
    refine ops_rule (C := []) [(r, .cells #[.slice a12 k12 c12, .int .i64 ((E12 : Nat) : Int)] 126)] F8 2 [] 1 (fun φ13 => [(12, .slice (some ⟨(φ13 0), 0, none⟩) 1 1), (11, .int .i64 (IntKind.wrap .i64 ((V12 : Nat) : Int)))]) (fun φ13 => [(r, .cells #[.slice a12 k12 c12, .int .i64 ((E12 : Nat) : Int)] 126), ((φ13 0), .cells #[.int .i64 (IntKind.wrap .i64 ((V12 : Nat) : Int))] 3)]) (fun φ13 => []) s trivial (fun φ13 => by kernel_rfl) ?_
    intro φ13 w13 s
    rw [nat_wrapI (a := V12) (by have h9 := byV_lt L8 e8; rw [h12_1] at h9; omega)] at s ⊢
    refine append_rule (H := [(r, .cells #[.slice a12 k12 c12, .int .i64 ((E12 : Nat) : Int)] 126), ((φ13 0), .cells #[.int .i64 ((V12 : Nat) : Int)] 3)]) (F := F8) 52 52 3 Tryd.t3 (.int .i64 0) 1 8 (some 13) s Tryd.underlying52 (by kernel_rfl) (by kernel_rfl) (by kernel_rfl) (by kernel_rfl) (by kernel_rfl) (by decide) hi8_3 (src_own s 1 (φ13 0) #[.int .i64 ((V12 : Nat) : Int)] 3 52 3 1 1 1 [.int .i64 ((V12 : Nat) : Int)] (by kernel_rfl) Tryd.underlying52 (by kernel_rfl) (by kernel_rfl) (by kernel_rfl)) (by simp only [maxLen]; omega) (by omega) (by kernel_rfl) ?_
    intro v14 w14 F14 s h14
    refine ops_rule (C := []) [(r, .cells #[.slice a12 k12 c12, .int .i64 ((E12 : Nat) : Int)] 126), ((φ13 0), .cells #[.int .i64 ((V12 : Nat) : Int)] 3)] F14 1 [] 0 (fun φ15 => [(3, v14)]) (fun φ15 => [(r, .cells #[.slice a12 k12 c12, .int .i64 ((E12 : Nat) : Int)] 126), ((φ13 0), .cells #[.int .i64 ((V12 : Nat) : Int)] 3)]) (fun φ15 => []) s trivial (fun φ15 => by kernel_rfl) ?_
    intro φ15 w15 s
    refine ops_done (by kernel_rfl) ?_
    refine region_rule ?_
    refine ops_rule (C := []) [(r, .cells #[.slice a12 k12 c12, .int .i64 ((E12 : Nat) : Int)] 126), ((φ13 0), .cells #[.int .i64 ((V12 : Nat) : Int)] 3)] F14 2 [] 0 (fun φ16 => [(6, .int .i64 (IntKind.wrap .i64 (((i8 : Nat) : Int) + ((1 : Nat) : Int)))), (14, .int .i64 (IntKind.wrap .i64 (((i8 : Nat) : Int) + ((1 : Nat) : Int))))]) (fun φ16 => [(r, .cells #[.slice a12 k12 c12, .int .i64 ((E12 : Nat) : Int)] 126), ((φ13 0), .cells #[.int .i64 ((V12 : Nat) : Int)] 3)]) (fun φ16 => []) s trivial (fun φ16 => by kernel_rfl) ?_
    intro φ16 w16 s
    rw [nat_addI (a := i8) (b := 1) (by have e9 := hi8_4; have e8 := hi8_0; have hq0 := of_decide_eq_true hc10; omega)]
    refine ops_done (by kernel_rfl) ?_
    exact ⟨⟨m8 - 1, (i8 + 1, L12, a12, k12, c12, E12, v14, F14, Fs8 ++ [V12]), _, _, _, by have hq0 := of_decide_eq_true hc10; have := hi8_0; omega, rfl, s, (List.Sublist.append (List.Sublist.cons₂ _ (List.Sublist.cons _ List.Sublist.slnil)) (List.Sublist.refl _)), by kernel_rfl, hle7, by have hq0 := of_decide_eq_true hc10; have := hi8_0; show i8 + 1 + (m8 - 1) = N4; omega, h12_0, (drop_len9 h12_4 hi8_2), row3_snoc h14 rfl, by have := hi8_4; show (Fs8 ++ [V12]).length = i8 + 1; rw [List.length_append, this]; rfl, pK_step hi8_5 (by have hq0 := of_decide_eq_true hc10; have := hi8_0; omega) h12_1 h12_2 h12_3 h12_4⟩⟩
  ·
    rw [hc10]
    refine cond_false_rule (b := false) (by kernel_rfl) rfl ?_
    refine wp_exit ?_
    refine wp_seq ?_
    refine region_rule ?_
    refine ops_rule (C := []) [(r, .cells #[.slice a8 k8 c8, .int .i64 ((e8 : Nat) : Int)] 126)] F8 2 [] 0 (fun φ17 => [(2, v8), (15, v8)]) (fun φ17 => [(r, .cells #[.slice a8 k8 c8, .int .i64 ((e8 : Nat) : Int)] 126)]) (fun φ17 => []) s trivial (fun φ17 => by kernel_rfl) ?_
    intro φ17 w17 s
    refine ops_done (by kernel_rfl) ?_
    refine wp_ret ?_
    refine ret_rule (C := []) [(r, .cells #[.slice a8 k8 c8, .int .i64 ((e8 : Nat) : Int)] 126)] F8 (v8) [] [] s trivial (by kernel_rfl) ?_
    replace s := s.drop (List.Sublist.append (List.Sublist.cons₂ _ List.Sublist.slnil) (List.Sublist.refl F8))
    have hm0 : m8 = 0 := by have hq0 := of_decide_eq_false hc10; have := hi8_0; omega
    have e7 := hi8_5
    rw [hm0] at e7
    simp only [pK, List.append_nil] at e7
    have e6 : gkP l e = (Fs8, L8, e8) := by unfold gkP; rw [h4_1, h4_2, h4_3]; exact e7
    exact ⟨_, _, _, rfl, s, ⟨_, _, rfl, rfl, _, _, _, _, _, _, rfl, hi8_1, e6, hl9, hi8_2, hi8_3⟩⟩

end Go.Proofs.YtcpmjogeafhpnaaDoor
/- A patch is read. -/
set_option linter.all false
set_option maxRecDepth 100000
namespace Go.Proofs.YtcpmjogeafhpnaaDoor
open Go.RowKit Go.Sep
attribute [local irreducible] Go.wpList Go.Code.wp

theorem funM_freeze {P : Program} {f : FuncId} {args : Array Value} {I : IM} {H : List OB} {R R2 : Value → IM → List OB → Prop} (h : FunM P f args I H R)
    (k : ∀ (w0 : World) (I0 : IM) (m : List Nat) (w' : World) (v : Value) (J : IM) (H' : List OB), St w0 I0 m J w' H' → R v J H' → ∃ (J2 : IM) (H2 : List OB), J.Le J2 ∧ St w0 I0 m J2 w' H2 ∧ R2 v J2 H2) : FunM P f args I H R2 :=
  fun w hw ho => (h w hw ho).mono fun e w' ⟨v, J, H', he, p, r⟩ => by
    obtain ⟨J2, H2, le, s2, r2⟩ := k _ _ _ _ v J H' p r
    exact ⟨v, J2, H2, he, s2, r2⟩

theorem getFieldsF_c {I : IM} {l : List UInt8} {a : Option Addr} {k c r e : Nat} (hl : BSl I l (.slice a k c)) (hn9 : l.length ≤ 1000000) : FunM Tryd.prog 87 #[.pointer (some ⟨r, 0, none⟩)] I [(r, .cells #[.slice a k c, .int .i64 ((e : Nat) : Int)] 126)] (fun v J H' => ∃ b' : OB, H' = [b'] ∧ b'.1 = r ∧ ∃ (Fs : List Fe) (E : Nat) (L : List UInt8) (a' : Option Addr) (k' c' : Nat) (a1 : Option Addr) (c1 : Nat), v = .slice a1 Fs.length c1 ∧ b' = (r, .cells #[.slice a' k' c', .int .i64 ((E : Nat) : Int)] 126) ∧ BSl J L (.slice a' k' c') ∧ FSl J Fs (.slice a1 Fs.length c1) ∧ gfP l e = (Fs, L, E) ∧ Fs.length ≤ 255 ∧ L.length ≤ 1000000) := by
  refine funM_freeze (getFields_c (r := r) (e := e) hl hn9) (fun w0 I0 m w' v J H' s q => ?_)
  obtain ⟨b', F', rfl, h1, Fs, E, L, a', k', c', rfl, h3, h4, h5, h6, h7⟩ := q
  obtain ⟨J2, le, hf, s2⟩ := freeze_row39 (H := [(r, .cells #[.slice a' k' c', .int .i64 ((E : Nat) : Int)] 126)]) s h7
  obtain ⟨a1, c1, rfl, -, hf⟩ := hf.open
  exact ⟨J2, _, le, s2, _, rfl, rfl, Fs, E, L, a', k', c', a1, c1, rfl, rfl, h3.mono le, hf, h4, h5, h6⟩

theorem getKindsF_c {I : IM} {l : List UInt8} {a : Option Addr} {k c r e : Nat} (hl : BSl I l (.slice a k c)) (hn9 : l.length ≤ 1000000) : FunM Tryd.prog 88 #[.pointer (some ⟨r, 0, none⟩)] I [(r, .cells #[.slice a k c, .int .i64 ((e : Nat) : Int)] 126)] (fun v J H' => ∃ b' : OB, H' = [b'] ∧ b'.1 = r ∧ ∃ (Fs : List Nat) (E : Nat) (L : List UInt8) (a' : Option Addr) (k' c' : Nat) (a1 : Option Addr) (c1 : Nat), v = .slice a1 Fs.length c1 ∧ b' = (r, .cells #[.slice a' k' c', .int .i64 ((E : Nat) : Int)] 126) ∧ BSl J L (.slice a' k' c') ∧ KSl J Fs (.slice a1 Fs.length c1) ∧ gkP l e = (Fs, L, E) ∧ Fs.length ≤ 255 ∧ L.length ≤ 1000000) := by
  refine funM_freeze (getKinds_c (r := r) (e := e) hl hn9) (fun w0 I0 m w' v J H' s q => ?_)
  obtain ⟨b', F', rfl, h1, Fs, E, L, a', k', c', rfl, h3, h4, h5, h6, h7⟩ := q
  obtain ⟨J2, le, hf, s2⟩ := freeze_row3 (H := [(r, .cells #[.slice a' k' c', .int .i64 ((E : Nat) : Int)] 126)]) s h7
  obtain ⟨a1, c1, rfl, -, hf⟩ := hf.open
  exact ⟨J2, _, le, s2, _, rfl, rfl, Fs, E, L, a', k', c', a1, c1, rfl, rfl, h3.mono le, hf, h4, h5, h6⟩

/-- a patch that is read: what it adds, drops, clears; the error -/
noncomputable def rpT (b : List UInt8) : List Fe × List Fe × List Nat × Nat :=
  ((gfP b 0).1, (gfP (gfP b 0).2.1 (gfP b 0).2.2).1, (gkP (gfP (gfP b 0).2.1 (gfP b 0).2.2).2.1 (gfP (gfP b 0).2.1 (gfP b 0).2.2).2.2).1,
   enE (gkP (gfP (gfP b 0).2.1 (gfP b 0).2.2).2.1 (gfP (gfP b 0).2.1 (gfP b 0).2.2).2.2).2.1 (gkP (gfP (gfP b 0).2.1 (gfP b 0).2.2).2.1 (gfP (gfP b 0).2.1 (gfP b 0).2.2).2.2).2.2)
noncomputable def rpA (b : List UInt8) : List Fe := if (rpT b).2.2.2 = 0 then (rpT b).1 else []
noncomputable def rpD (b : List UInt8) : List Fe := if (rpT b).2.2.2 = 0 then (rpT b).2.1 else []
noncomputable def rpK (b : List UInt8) : List Nat := if (rpT b).2.2.2 = 0 then (rpT b).2.2.1 else []

set_option maxHeartbeats 4000000 in
theorem readPatch_c {I : IM} {l : List UInt8} {a : Option Addr} {c : Nat} (hl : BSl I l (.slice a l.length c)) (hn9 : l.length ≤ 1000000) : Fun Tryd.prog 46 #[.slice a l.length c] I (fun v J => ∃ (a1 a2 a3 : Option Addr) (c1 c2 c3 : Nat), v = .tuple #[.agg #[.slice a1 (rpA l).length c1, .slice a2 (rpD l).length c2, .slice a3 (rpK l).length c3], .int .i64 (((rpT l).2.2.2 : Nat) : Int)] ∧ FSl J (rpA l) (.slice a1 (rpA l).length c1) ∧ FSl J (rpD l) (.slice a2 (rpD l).length c2) ∧ KSl J (rpK l) (.slice a3 (rpK l).length c3)) := by
  refine enter_rule 25 [(0, .slice a l.length c)] Tryd.func46 rfl (by kernel_rfl) ?_
  intro w s
  refine wp_seq ?_
  refine region_rule ?_
  refine ops_rule (C := []) [] [] 2 [] 1 (fun φ1 => [(3, .int .i64 0), (2, .pointer (some ⟨(φ1 0), 0, none⟩))]) (fun φ1 => [((φ1 0), .cells #[.slice none 0 0, .slice none 0 0, .slice none 0 0] 56)]) (fun φ1 => []) s trivial (fun φ1 => by kernel_rfl) ?_
  intro φ1 w1 s
  refine ops_done (by kernel_rfl) ?_
  refine wp_seq ?_
  refine region_rule ?_
  refine ops_rule (C := []) [((φ1 0), .cells #[.slice none 0 0, .slice none 0 0, .slice none 0 0] 56)] [] 1 [] 0 (fun φ2 => [(7, .slice a l.length c)]) (fun φ2 => [((φ1 0), .cells #[.slice none 0 0, .slice none 0 0, .slice none 0 0] 56)]) (fun φ2 => []) s trivial (fun φ2 => by kernel_rfl) ?_
  intro φ2 w2 s
  refine callF_rule (H := [((φ1 0), .cells #[.slice none 0 0, .slice none 0 0, .slice none 0 0] 56)]) (F := []) (some 8) s (newIn_c hl hn9) (by kernel_rfl) ?_
  rintro v3 I3 w3 F3 le3 ⟨b3, a3, c3, rfl, rfl, hb3⟩ s
  replace hl := BSl.mono le3 hl
  refine ops_rule (C := []) [((φ1 0), .cells #[.slice none 0 0, .slice none 0 0, .slice none 0 0] 56), (b3, .cells #[.slice a3 (List.length l) c3, .int .i64 0] 126)] [] 1 [] 0 (fun φ4 => [(4, .pointer (some ⟨b3, 0, none⟩))]) (fun φ4 => [((φ1 0), .cells #[.slice none 0 0, .slice none 0 0, .slice none 0 0] 56), (b3, .cells #[.slice a3 (List.length l) c3, .int .i64 0] 126)]) (fun φ4 => []) s trivial (fun φ4 => by kernel_rfl) ?_
  intro φ4 w4 s
  refine ops_done (by kernel_rfl) ?_
  refine wp_seq ?_
  refine region_rule ?_
  refine ops_rule (C := []) [((φ1 0), .cells #[.slice none 0 0, .slice none 0 0, .slice none 0 0] 56), (b3, .cells #[.slice a3 (List.length l) c3, .int .i64 0] 126)] [] 1 [] 1 (fun φ5 => [(5, .pointer (some ⟨(φ5 0), 0, none⟩))]) (fun φ5 => [((φ1 0), .cells #[.slice none 0 0, .slice none 0 0, .slice none 0 0] 56), (b3, .cells #[.slice a3 (List.length l) c3, .int .i64 0] 126), ((φ5 0), .cells #[.slice none 0 0, .slice none 0 0, .slice none 0 0] 56)]) (fun φ5 => []) s trivial (fun φ5 => by kernel_rfl) ?_
  intro φ5 w5 s
  refine ops_done (by kernel_rfl) ?_
  refine wp_seq ?_
  refine region_rule ?_
  refine ops_rule (C := []) [((φ1 0), .cells #[.slice none 0 0, .slice none 0 0, .slice none 0 0] 56), (b3, .cells #[.slice a3 (List.length l) c3, .int .i64 0] 126), ((φ5 0), .cells #[.slice none 0 0, .slice none 0 0, .slice none 0 0] 56)] [] 1 [] 0 (fun φ6 => [(9, .pointer (some ⟨b3, 0, none⟩))]) (fun φ6 => [((φ1 0), .cells #[.slice none 0 0, .slice none 0 0, .slice none 0 0] 56), (b3, .cells #[.slice a3 (List.length l) c3, .int .i64 0] 126), ((φ5 0), .cells #[.slice none 0 0, .slice none 0 0, .slice none 0 0] 56)]) (fun φ6 => []) s trivial (fun φ6 => by kernel_rfl) ?_
  intro φ6 w6 s
  refine callB_rule (b := (b3, .cells #[.slice a3 (List.length l) c3, .int .i64 0] 126)) (H := [((φ1 0), .cells #[.slice none 0 0, .slice none 0 0, .slice none 0 0] 56), (b3, .cells #[.slice a3 (List.length l) c3, .int .i64 0] 126), ((φ5 0), .cells #[.slice none 0 0, .slice none 0 0, .slice none 0 0] 56)]) (F := []) (Hr := [((φ1 0), .cells #[.slice none 0 0, .slice none 0 0, .slice none 0 0] 56), ((φ5 0), .cells #[.slice none 0 0, .slice none 0 0, .slice none 0 0] 56)]) (some 10) 1 s (by kernel_rfl) (by kernel_rfl) (getFieldsF_c (r := b3) (e := 0) hb3 hn9) (by kernel_rfl) ?_
  rintro v7 I7 w7 b7 le7 - h7 s
  replace hl := BSl.mono le7 hl
  replace hb3 := BSl.mono le7 hb3
  obtain ⟨Fs7, E7, L7, a7, k7, c7, b7, d7, rfl, rfl, h7_0, h7_1, h7_2, h7_3, h7_4⟩ := h7
  refine ops_rule (C := []) [(b3, .cells #[.slice a7 k7 c7, .int .i64 ((E7 : Nat) : Int)] 126), ((φ1 0), .cells #[.slice none 0 0, .slice none 0 0, .slice none 0 0] 56), ((φ5 0), .cells #[.slice none 0 0, .slice none 0 0, .slice none 0 0] 56)] [] 2 [.o 2] 0 (fun φ8 => [(11, .pointer (some ⟨(φ5 0), 0, none⟩))]) (fun φ8 => [(b3, .cells #[.slice a7 k7 c7, .int .i64 ((E7 : Nat) : Int)] 126), ((φ1 0), .cells #[.slice none 0 0, .slice none 0 0, .slice none 0 0] 56), ((φ5 0), .cells #[.slice b7 Fs7.length d7, .slice none 0 0, .slice none 0 0] 56)]) (fun φ8 => [(φ5 0)]) s trivial (fun φ8 => by kernel_rfl) ?_
  intro φ8 w8 s
  refine ops_done (by kernel_rfl) ?_
  refine wp_seq ?_
  refine region_rule ?_
  refine ops_rule (C := []) [(b3, .cells #[.slice a7 k7 c7, .int .i64 ((E7 : Nat) : Int)] 126), ((φ1 0), .cells #[.slice none 0 0, .slice none 0 0, .slice none 0 0] 56), ((φ5 0), .cells #[.slice b7 Fs7.length d7, .slice none 0 0, .slice none 0 0] 56)] [] 1 [] 0 (fun φ9 => [(12, .pointer (some ⟨b3, 0, none⟩))]) (fun φ9 => [(b3, .cells #[.slice a7 k7 c7, .int .i64 ((E7 : Nat) : Int)] 126), ((φ1 0), .cells #[.slice none 0 0, .slice none 0 0, .slice none 0 0] 56), ((φ5 0), .cells #[.slice b7 Fs7.length d7, .slice none 0 0, .slice none 0 0] 56)]) (fun φ9 => []) s trivial (fun φ9 => by kernel_rfl) ?_
  intro φ9 w9 s
  refine callB_rule (b := (b3, .cells #[.slice a7 k7 c7, .int .i64 ((E7 : Nat) : Int)] 126)) (H := [(b3, .cells #[.slice a7 k7 c7, .int .i64 ((E7 : Nat) : Int)] 126), ((φ1 0), .cells #[.slice none 0 0, .slice none 0 0, .slice none 0 0] 56), ((φ5 0), .cells #[.slice b7 Fs7.length d7, .slice none 0 0, .slice none 0 0] 56)]) (F := []) (Hr := [((φ1 0), .cells #[.slice none 0 0, .slice none 0 0, .slice none 0 0] 56), ((φ5 0), .cells #[.slice b7 Fs7.length d7, .slice none 0 0, .slice none 0 0] 56)]) (some 13) 0 s (by kernel_rfl) (by kernel_rfl) (getFieldsF_c (r := b3) (e := E7) h7_0 h7_4) (by kernel_rfl) ?_
  rintro v10 I10 w10 b10 le10 - h10 s
  replace hl := BSl.mono le10 hl
  replace hb3 := BSl.mono le10 hb3
  replace h7_0 := BSl.mono le10 h7_0
  replace h7_1 := FSl.mono le10 h7_1
  obtain ⟨Fs10, E10, L10, a10, k10, c10, b10, d10, rfl, rfl, h10_0, h10_1, h10_2, h10_3, h10_4⟩ := h10
  refine ops_rule (C := []) [(b3, .cells #[.slice a10 k10 c10, .int .i64 ((E10 : Nat) : Int)] 126), ((φ1 0), .cells #[.slice none 0 0, .slice none 0 0, .slice none 0 0] 56), ((φ5 0), .cells #[.slice b7 Fs7.length d7, .slice none 0 0, .slice none 0 0] 56)] [] 2 [.o 2] 0 (fun φ11 => [(14, .pointer (some ⟨(φ5 0), 1, none⟩))]) (fun φ11 => [(b3, .cells #[.slice a10 k10 c10, .int .i64 ((E10 : Nat) : Int)] 126), ((φ1 0), .cells #[.slice none 0 0, .slice none 0 0, .slice none 0 0] 56), ((φ5 0), .cells #[.slice b7 Fs7.length d7, .slice b10 Fs10.length d10, .slice none 0 0] 56)]) (fun φ11 => [(φ5 0)]) s trivial (fun φ11 => by kernel_rfl) ?_
  intro φ11 w11 s
  refine ops_done (by kernel_rfl) ?_
  refine wp_seq ?_
  refine region_rule ?_
  refine ops_rule (C := []) [(b3, .cells #[.slice a10 k10 c10, .int .i64 ((E10 : Nat) : Int)] 126), ((φ1 0), .cells #[.slice none 0 0, .slice none 0 0, .slice none 0 0] 56), ((φ5 0), .cells #[.slice b7 Fs7.length d7, .slice b10 Fs10.length d10, .slice none 0 0] 56)] [] 1 [] 0 (fun φ12 => [(15, .pointer (some ⟨b3, 0, none⟩))]) (fun φ12 => [(b3, .cells #[.slice a10 k10 c10, .int .i64 ((E10 : Nat) : Int)] 126), ((φ1 0), .cells #[.slice none 0 0, .slice none 0 0, .slice none 0 0] 56), ((φ5 0), .cells #[.slice b7 Fs7.length d7, .slice b10 Fs10.length d10, .slice none 0 0] 56)]) (fun φ12 => []) s trivial (fun φ12 => by kernel_rfl) ?_
  intro φ12 w12 s
  refine callB_rule (b := (b3, .cells #[.slice a10 k10 c10, .int .i64 ((E10 : Nat) : Int)] 126)) (H := [(b3, .cells #[.slice a10 k10 c10, .int .i64 ((E10 : Nat) : Int)] 126), ((φ1 0), .cells #[.slice none 0 0, .slice none 0 0, .slice none 0 0] 56), ((φ5 0), .cells #[.slice b7 Fs7.length d7, .slice b10 Fs10.length d10, .slice none 0 0] 56)]) (F := []) (Hr := [((φ1 0), .cells #[.slice none 0 0, .slice none 0 0, .slice none 0 0] 56), ((φ5 0), .cells #[.slice b7 Fs7.length d7, .slice b10 Fs10.length d10, .slice none 0 0] 56)]) (some 16) 0 s (by kernel_rfl) (by kernel_rfl) (getKindsF_c (r := b3) (e := E10) h10_0 h10_4) (by kernel_rfl) ?_
  rintro v13 I13 w13 b13 le13 - h13 s
  replace hl := BSl.mono le13 hl
  replace hb3 := BSl.mono le13 hb3
  replace h7_0 := BSl.mono le13 h7_0
  replace h7_1 := FSl.mono le13 h7_1
  replace h10_0 := BSl.mono le13 h10_0
  replace h10_1 := FSl.mono le13 h10_1
  obtain ⟨Fs13, E13, L13, a13, k13, c13, b13, d13, rfl, rfl, h13_0, h13_1, h13_2, h13_3, h13_4⟩ := h13
  refine ops_rule (C := []) [(b3, .cells #[.slice a13 k13 c13, .int .i64 ((E13 : Nat) : Int)] 126), ((φ1 0), .cells #[.slice none 0 0, .slice none 0 0, .slice none 0 0] 56), ((φ5 0), .cells #[.slice b7 Fs7.length d7, .slice b10 Fs10.length d10, .slice none 0 0] 56)] [] 2 [.o 2] 0 (fun φ14 => [(17, .pointer (some ⟨(φ5 0), 2, none⟩))]) (fun φ14 => [(b3, .cells #[.slice a13 k13 c13, .int .i64 ((E13 : Nat) : Int)] 126), ((φ1 0), .cells #[.slice none 0 0, .slice none 0 0, .slice none 0 0] 56), ((φ5 0), .cells #[.slice b7 Fs7.length d7, .slice b10 Fs10.length d10, .slice b13 Fs13.length d13] 56)]) (fun φ14 => [(φ5 0)]) s trivial (fun φ14 => by kernel_rfl) ?_
  intro φ14 w14 s
  refine ops_done (by kernel_rfl) ?_
  refine wp_seq ?_
  refine wp_seq ?_
  refine region_rule ?_
  refine ops_rule (C := []) [(b3, .cells #[.slice a13 k13 c13, .int .i64 ((E13 : Nat) : Int)] 126), ((φ1 0), .cells #[.slice none 0 0, .slice none 0 0, .slice none 0 0] 56), ((φ5 0), .cells #[.slice b7 Fs7.length d7, .slice b10 Fs10.length d10, .slice b13 Fs13.length d13] 56)] [] 1 [] 0 (fun φ15 => [(18, .pointer (some ⟨b3, 0, none⟩))]) (fun φ15 => [(b3, .cells #[.slice a13 k13 c13, .int .i64 ((E13 : Nat) : Int)] 126), ((φ1 0), .cells #[.slice none 0 0, .slice none 0 0, .slice none 0 0] 56), ((φ5 0), .cells #[.slice b7 Fs7.length d7, .slice b10 Fs10.length d10, .slice b13 Fs13.length d13] 56)]) (fun φ15 => []) s trivial (fun φ15 => by kernel_rfl) ?_
  intro φ15 w15 s
  refine callB_rule (b := (b3, .cells #[.slice a13 k13 c13, .int .i64 ((E13 : Nat) : Int)] 126)) (H := [(b3, .cells #[.slice a13 k13 c13, .int .i64 ((E13 : Nat) : Int)] 126), ((φ1 0), .cells #[.slice none 0 0, .slice none 0 0, .slice none 0 0] 56), ((φ5 0), .cells #[.slice b7 Fs7.length d7, .slice b10 Fs10.length d10, .slice b13 Fs13.length d13] 56)]) (F := []) (Hr := [((φ1 0), .cells #[.slice none 0 0, .slice none 0 0, .slice none 0 0] 56), ((φ5 0), .cells #[.slice b7 Fs7.length d7, .slice b10 Fs10.length d10, .slice b13 Fs13.length d13] 56)]) (some 19) 0 s (by kernel_rfl) (by kernel_rfl) (endG_c (r := b3) (e := E13) h13_0 h13_4) (by kernel_rfl) ?_
  rintro v16 I16 w16 b16 le16 - h16 s
  replace hl := BSl.mono le16 hl
  replace hb3 := BSl.mono le16 hb3
  replace h7_0 := BSl.mono le16 h7_0
  replace h7_1 := FSl.mono le16 h7_1
  replace h10_0 := BSl.mono le16 h10_0
  replace h10_1 := FSl.mono le16 h10_1
  replace h13_0 := BSl.mono le16 h13_0
  replace h13_1 := KSl.mono le16 h13_1
  obtain ⟨a16, k16, c16, rfl, rfl, h16_0⟩ := h16
  refine ops_rule (C := []) [(b3, .cells #[.slice a16 k16 c16, .int .i64 ((enE L13 E13 : Nat) : Int)] 126), ((φ1 0), .cells #[.slice none 0 0, .slice none 0 0, .slice none 0 0] 56), ((φ5 0), .cells #[.slice b7 Fs7.length d7, .slice b10 Fs10.length d10, .slice b13 Fs13.length d13] 56)] [] 1 [] 0 (fun φ17 => [(6, .int .i64 ((enE L13 E13 : Nat) : Int))]) (fun φ17 => [(b3, .cells #[.slice a16 k16 c16, .int .i64 ((enE L13 E13 : Nat) : Int)] 126), ((φ1 0), .cells #[.slice none 0 0, .slice none 0 0, .slice none 0 0] 56), ((φ5 0), .cells #[.slice b7 Fs7.length d7, .slice b10 Fs10.length d10, .slice b13 Fs13.length d13] 56)]) (fun φ17 => []) s trivial (fun φ17 => by kernel_rfl) ?_
  intro φ17 w17 s
  refine ops_done (by kernel_rfl) ?_
  refine wp_seq ?_
  refine region_rule ?_
  refine ops_rule (C := []) [(b3, .cells #[.slice a16 k16 c16, .int .i64 ((enE L13 E13 : Nat) : Int)] 126), ((φ1 0), .cells #[.slice none 0 0, .slice none 0 0, .slice none 0 0] 56), ((φ5 0), .cells #[.slice b7 Fs7.length d7, .slice b10 Fs10.length d10, .slice b13 Fs13.length d13] 56)] [] 2 [] 0 (fun φ18 => [(21, .bool (((enE L13 E13 : Nat) : Int) != ((0 : Nat) : Int))), (20, .int .i64 ((enE L13 E13 : Nat) : Int))]) (fun φ18 => [(b3, .cells #[.slice a16 k16 c16, .int .i64 ((enE L13 E13 : Nat) : Int)] 126), ((φ1 0), .cells #[.slice none 0 0, .slice none 0 0, .slice none 0 0] 56), ((φ5 0), .cells #[.slice b7 Fs7.length d7, .slice b10 Fs10.length d10, .slice b13 Fs13.length d13] 56)]) (fun φ18 => []) s trivial (fun φ18 => by kernel_rfl) ?_
  intro φ18 w18 s
  rw [nat_neq (a := (enE L13 E13)) (b := 0)]
  refine ops_done (by kernel_rfl) ?_
  rcases Bool.eq_false_or_eq_true (decide ((enE L13 E13) ≠ 0)) with hc19 | hc19
  ·
    rw [hc19]
    refine cond_true_rule (b := true) (by kernel_rfl) rfl ?_
    refine wp_seq ?_
    refine region_rule ?_
    refine ops_rule (C := []) [(b3, .cells #[.slice a16 k16 c16, .int .i64 ((enE L13 E13 : Nat) : Int)] 126), ((φ1 0), .cells #[.slice none 0 0, .slice none 0 0, .slice none 0 0] 56), ((φ5 0), .cells #[.slice b7 Fs7.length d7, .slice b10 Fs10.length d10, .slice b13 Fs13.length d13] 56)] [] 4 [.o 1, .o 1, .o 1] 0 (fun φ20 => [(3, .int .i64 ((enE L13 E13 : Nat) : Int)), (23, .int .i64 ((enE L13 E13 : Nat) : Int)), (22, .agg #[.slice none 0 0, .slice none 0 0, .slice none 0 0])]) (fun φ20 => [(b3, .cells #[.slice a16 k16 c16, .int .i64 ((enE L13 E13 : Nat) : Int)] 126), ((φ1 0), .cells #[.slice none 0 0, .slice none 0 0, .slice none 0 0] 56), ((φ5 0), .cells #[.slice b7 Fs7.length d7, .slice b10 Fs10.length d10, .slice b13 Fs13.length d13] 56)]) (fun φ20 => [(φ1 0), (φ1 0), (φ1 0)]) s trivial (fun φ20 => by kernel_rfl) ?_
    intro φ20 w20 s
    refine ops_done (by kernel_rfl) ?_
    refine wp_ret ?_
    refine ret_rule (C := []) [(b3, .cells #[.slice a16 k16 c16, .int .i64 ((enE L13 E13 : Nat) : Int)] 126), ((φ1 0), .cells #[.slice none 0 0, .slice none 0 0, .slice none 0 0] 56), ((φ5 0), .cells #[.slice b7 Fs7.length d7, .slice b10 Fs10.length d10, .slice b13 Fs13.length d13] 56)] [] (.tuple #[.agg #[.slice none 0 0, .slice none 0 0, .slice none 0 0], .int .i64 ((enE L13 E13 : Nat) : Int)]) [.o 1, .o 1, .o 1] [(φ1 0), (φ1 0), (φ1 0)] s trivial (by kernel_rfl) ?_
    have e9 := (show rpT l = (Fs7, Fs10, Fs13, enE L13 E13) by unfold rpT; simp only [h7_2, h10_2, h13_2])
    have hz := of_decide_eq_true hc19
    have er : ¬ (rpT l).2.2.2 = 0 := by rw [e9]; exact hz
    have eA : rpA l = [] := if_neg er
    have eD : rpD l = [] := if_neg er
    have eK : rpK l = [] := if_neg er
    have eE : (rpT l).2.2.2 = enE L13 E13 := by rw [e9]
    rw [eA, eD, eK, eE]
    exact ⟨_, _, _, rfl, s, ⟨none, none, none, 0, 0, 0, rfl, fsl_nil _, fsl_nil _, ksl_nil _⟩⟩
  ·
    rw [hc19]
    refine cond_false_rule (b := false) (by kernel_rfl) rfl ?_
    refine wp_skip ?_
    refine wp_seq ?_
    refine region_rule ?_
    refine ops_rule (C := []) [(b3, .cells #[.slice a16 k16 c16, .int .i64 ((enE L13 E13 : Nat) : Int)] 126), ((φ1 0), .cells #[.slice none 0 0, .slice none 0 0, .slice none 0 0] 56), ((φ5 0), .cells #[.slice b7 Fs7.length d7, .slice b10 Fs10.length d10, .slice b13 Fs13.length d13] 56)] [] 3 [.o 2, .o 2, .o 2, .o 1, .o 1, .o 1] 0 (fun φ21 => [(3, .int .i64 0), (24, .agg #[.slice b7 Fs7.length d7, .slice b10 Fs10.length d10, .slice b13 Fs13.length d13])]) (fun φ21 => [(b3, .cells #[.slice a16 k16 c16, .int .i64 ((enE L13 E13 : Nat) : Int)] 126), ((φ1 0), .cells #[.slice b7 Fs7.length d7, .slice b10 Fs10.length d10, .slice b13 Fs13.length d13] 56), ((φ5 0), .cells #[.slice b7 Fs7.length d7, .slice b10 Fs10.length d10, .slice b13 Fs13.length d13] 56)]) (fun φ21 => [(φ5 0), (φ5 0), (φ5 0), (φ1 0), (φ1 0), (φ1 0)]) s trivial (fun φ21 => by kernel_rfl) ?_
    intro φ21 w21 s
    refine ops_done (by kernel_rfl) ?_
    refine wp_ret ?_
    refine ret_rule (C := []) [(b3, .cells #[.slice a16 k16 c16, .int .i64 ((enE L13 E13 : Nat) : Int)] 126), ((φ1 0), .cells #[.slice b7 Fs7.length d7, .slice b10 Fs10.length d10, .slice b13 Fs13.length d13] 56), ((φ5 0), .cells #[.slice b7 Fs7.length d7, .slice b10 Fs10.length d10, .slice b13 Fs13.length d13] 56)] [] (.tuple #[.agg #[.slice b7 Fs7.length d7, .slice b10 Fs10.length d10, .slice b13 Fs13.length d13], .int .i64 0]) [.o 1, .o 1, .o 1] [(φ1 0), (φ1 0), (φ1 0)] s trivial (by kernel_rfl) ?_
    have e9 := (show rpT l = (Fs7, Fs10, Fs13, enE L13 E13) by unfold rpT; simp only [h7_2, h10_2, h13_2])
    have hz := Decidable.not_not.1 (of_decide_eq_false hc19)
    have er : (rpT l).2.2.2 = 0 := by rw [e9]; exact hz
    have eA : rpA l = Fs7 := by rw [rpA, if_pos er, e9]
    have eD : rpD l = Fs10 := by rw [rpD, if_pos er, e9]
    have eK : rpK l = Fs13 := by rw [rpK, if_pos er, e9]
    rw [eA, eD, eK, er]
    exact ⟨_, _, _, rfl, s, ⟨_, _, _, _, _, _, rfl, h7_1, h10_1, h13_1⟩⟩

end Go.Proofs.YtcpmjogeafhpnaaDoor
/- The document: fields are read. -/
set_option linter.all false
set_option maxRecDepth 100000
namespace Go.Proofs.YtcpmjogeafhpnaaDoor
open Go.RowKit Go.Sep
attribute [local irreducible] Go.wpList Go.Code.wp

theorem row42_snoc {v : Value} {n : Nat} {Fs : List Fe} {x : Fe} {F : List OB} (h : RowH 42 3 v (n + 1) (fcs Fs ++ [.int .i64 x.k, .string ⟨x.a.toArray⟩, .string ⟨x.v.toArray⟩]) F) (hn : n = Fs.length) : RowH 42 3 v (Fs ++ [x]).length (fcs (Fs ++ [x])) F := by
  subst hn
  rw [fcs_append, List.length_append]
  exact h
end Go.Proofs.YtcpmjogeafhpnaaDoor
/- Fields copied, compared. -/
set_option linter.all false
set_option maxRecDepth 100000
namespace Go.Proofs.YtcpmjogeafhpnaaDoor
open Go.RowKit Go.Sep
attribute [local irreducible] Go.wpList Go.Code.wp

theorem fe_take {L : List Fe} {i : Nat} (h : i < L.length) : L.take (i + 1) = L.take i ++ [L.getD i Fe.z] := by
  rw [List.take_add_one]; simp [h]
theorem k_take {L : List Nat} {i : Nat} (h : i < L.length) : L.take (i + 1) = L.take i ++ [L.getD i 0] := by
  rw [List.take_add_one]; simp [h]

theorem eqF_int {P : Program} {w : World} {d : Nat} {t : TypeId} {k : Int} (h : P.underlying t = some (.int .i64)) : (Op.equalIn (d + 1) t (.int .i64 k) (.int .i64 k)).run P w = .ok true w := by
  unfold Op.equalIn
  simp [run_underlying h]
theorem eqF_str {P : Program} {w : World} {d : Nat} {t : TypeId} {a : ByteArray} (h : P.underlying t = some .string) : (Op.equalIn (d + 1) t (.string a) (.string a)).run P w = .ok true w := by
  rw [run_equalIn_string _ _ _ _ _ h]; simp

theorem eqFe39 {w : World} {d : Nat} {k : Int} {a b : ByteArray} : (Op.equalIn (d + 1 + 1) 39 (.agg #[.int .i64 k, .string a, .string b]) (.agg #[.int .i64 k, .string a, .string b])).run Tryd.prog w = .ok true w := by
  have p0 : ∀ w, (part 3 #[Value.int IntKind.i64 k, Value.string a, Value.string b] 0).run Tryd.prog w = .ok (.int .i64 k) w := fun w => by kernel_rfl
  have p1 : ∀ w, (part 9 #[Value.int IntKind.i64 k, Value.string a, Value.string b] 1).run Tryd.prog w = .ok (.string a) w := fun w => by kernel_rfl
  have p2 : ∀ w, (part 9 #[Value.int IntKind.i64 k, Value.string a, Value.string b] 2).run Tryd.prog w = .ok (.string b) w := fun w => by kernel_rfl
  have s : ∀ w, (program).run Tryd.prog w = .ok Tryd.prog w := fun w => rfl
  have h : Tryd.prog.stoodInHeld 39 = false := by kernel_rfl
  unfold Op.equalIn
  simp [run_underlying Tryd.underlying39, p0, p1, p2, eqF_int Tryd.underlying3, eqF_str Tryd.underlying9]
theorem run_neG39 {w : World} {x y : Operand} {k : Int} {a b : ByteArray} : (eqGuard .neq 39 x y (.agg #[.int .i64 k, .string a, .string b]) (.agg #[.int .i64 k, .string a, .string b])).run Tryd.prog w = .ok () w := by kernel_rfl
theorem run_neFe39 {w : World} {x y : Operand} {k : Int} {a b : ByteArray} : (do eqGuard .neq 39 x y (.agg #[.int .i64 k, .string a, .string b]) (.agg #[.int .i64 k, .string a, .string b]); binOp .neq 39 (.agg #[.int .i64 k, .string a, .string b]) (.agg #[.int .i64 k, .string a, .string b]) : Sem Value).run Tryd.prog w = .ok (.bool false) w := by
  rw [Sem.run_bind, run_neG39]
  show (binOp .neq 39 (.agg #[.int .i64 k, .string a, .string b]) (.agg #[.int .i64 k, .string a, .string b])).run Tryd.prog w = _
  have h : (binOp .neq 39 (.agg #[.int .i64 k, .string a, .string b]) (.agg #[.int .i64 k, .string a, .string b])).run Tryd.prog w = ((Op.equalIn (9998 + 1 + 1) 39 (.agg #[.int .i64 k, .string a, .string b]) (.agg #[.int .i64 k, .string a, .string b])) >>= fun r => pure (.bool (!r))).run Tryd.prog w := by kernel_rfl
  rw [h, Sem.run_bind, eqFe39]; rfl

set_option maxHeartbeats 2000000 in
theorem ownF_c {I : IM} {L : List Fe} {a0 : Option Addr} {c0 : Nat} (h0 : FSl I L (.slice a0 L.length c0)) (hl : L.length ≤ 1000) : Fun Tryd.prog 40 #[.slice a0 L.length c0] I (fun v J => ∃ a c, v = .slice a L.length c ∧ FSl J L (.slice a L.length c)) := by
  refine enter_rule 18 [(0, .slice a0 L.length c0)] Tryd.func40 rfl (by kernel_rfl) ?_
  intro w s
  refine wp_seq ?_
  refine region_rule ?_
  refine ops_rule (C := []) [] [] 1 [] 0 (fun φ1 => [(2, .slice none 0 0)]) (fun φ1 => []) (fun φ1 => []) s trivial (fun φ1 => by kernel_rfl) ?_
  intro φ1 w1 s
  refine ops_done (by kernel_rfl) ?_
  refine wp_seq ?_
  refine region_rule ?_
  refine ops_rule (C := []) [] [] 1 [] 0 (fun φ2 => [(3, .slice none 0 0)]) (fun φ2 => []) (fun φ2 => []) s trivial (fun φ2 => by kernel_rfl) ?_
  intro φ2 w2 s
  refine ops_done (by kernel_rfl) ?_
  refine wp_seq ?_
  refine wp_seq ?_
  refine region_rule ?_
  refine ops_rule (C := []) [] [] 3 [] 0 (fun φ3 => [(8, .int .i64 0), (7, .int .i64 ((L.length : Nat) : Int)), (6, .slice a0 L.length c0)]) (fun φ3 => []) (fun φ3 => []) s trivial (fun φ3 => by kernel_rfl) ?_
  intro φ3 w3 s
  refine ops_done (by kernel_rfl) ?_
  refine wp_block ?_
  have hle4 := IM.Le.refl I
  refine loop_rule (fun (x : Nat × Value × List OB) => [(0, .slice a0 L.length c0), (2, .slice none 0 0), (6, .slice a0 L.length c0), (7, .int .i64 ((L.length : Nat) : Int)), (8, .int .i64 ((x.1 : Nat) : Int)), (3, x.2.1)]) (fun (x : Nat × Value × List OB) => [] ++ x.2.2) (fun m (x : Nat × Value × List OB) J => IM.Le I J ∧ x.1 + m = L.length ∧ RowH 42 3 x.2.1 (L.take x.1).length (fcs (L.take x.1)) x.2.2) (L.length) (0, (.slice none 0 0), []) s (by kernel_rfl) (List.Sublist.refl _) ⟨IM.Le.refl _, Nat.zero_add _, (RowH.nil 42 3)⟩ ?_
  rintro m5 ⟨i5, v5, F5⟩ I5 w5 ev5 s ⟨le5, hi5_0, hi5_1⟩
  try dsimp only at s hi5_0 hi5_1 ⊢
  replace h0 := FSl.mono le5 h0
  replace hle4 := leMono le5 hle4
  have hl9 : (L.take i5).length ≤ 1000 := by have e8 := hi5_0; rw [List.length_take]; omega
  refine wp_seq ?_
  refine region_rule ?_
  refine ops_rule (C := []) [] F5 1 [] 0 (fun φ6 => [(9, .bool (decide (((i5 : Nat) : Int) < ((L.length : Nat) : Int))))]) (fun φ6 => []) (fun φ6 => []) s trivial (fun φ6 => by kernel_rfl) ?_
  intro φ6 w6 s
  rw [nat_lss (a := i5) (b := L.length)]
  refine ops_done (by kernel_rfl) ?_
  refine wp_seq ?_
  rcases Bool.eq_false_or_eq_true (decide (i5 < L.length)) with hc7 | hc7
  ·
    rw [hc7]
    refine cond_true_rule (b := true) (by kernel_rfl) rfl ?_
    refine wp_skip ?_
    refine wp_seq ?_
    refine wp_block ?_
    refine wp_seq ?_
    refine region_rule ?_
    refine sem_rule (Instr.indexAt 22 (.slice a0 L.length c0) (.int .i64 ((i5 : Nat) : Int))) (some 10) (.pointer (pAt a0 (i5 * 3))) (by kernel_rfl) (fsl_idx22 h0 (by have e8 := hi5_0; have e7 := List.length_take (i := i5) (l := L); have hq0 := of_decide_eq_true hc7; omega)) ?_
    refine sem_rule (Instr.loadAt 39 (.pointer (pAt a0 (i5 * 3)))) (some 11) (.agg #[.int .i64 ((List.getD L i5 Fe.z).k), .string ⟨((List.getD L i5 Fe.z).a).toArray⟩, .string ⟨((List.getD L i5 Fe.z).v).toArray⟩]) (by kernel_rfl) (fsl_ld39 s.sub h0 (by have e8 := hi5_0; have e7 := List.length_take (i := i5) (l := L); have hq0 := of_decide_eq_true hc7; omega)) ?_
    refine ops_rule (C := []) [] F5 2 [.o 0, .o 0, .o 0] 1 (fun φ8 => [(5, .pointer (some ⟨(φ8 0), 0, none⟩))]) (fun φ8 => [((φ8 0), .cells #[.int .i64 ((List.getD L i5 Fe.z).k), .string ⟨((List.getD L i5 Fe.z).a).toArray⟩, .string ⟨((List.getD L i5 Fe.z).v).toArray⟩] 39)]) (fun φ8 => [(φ8 0), (φ8 0), (φ8 0)]) s trivial (fun φ8 => by kernel_rfl) ?_
    intro φ8 w8 s
    refine ops_done (by kernel_rfl) ?_
    refine region_rule ?_
    refine ops_rule (C := []) [((φ8 0), .cells #[.int .i64 ((List.getD L i5 Fe.z).k), .string ⟨((List.getD L i5 Fe.z).a).toArray⟩, .string ⟨((List.getD L i5 Fe.z).v).toArray⟩] 39)] F5 3 [.o 0, .o 0, .o 0] 1 (fun φ9 => [(14, .slice (some ⟨(φ9 0), 0, none⟩) 1 1), (13, .agg #[.int .i64 ((List.getD L i5 Fe.z).k), .string ⟨((List.getD L i5 Fe.z).a).toArray⟩, .string ⟨((List.getD L i5 Fe.z).v).toArray⟩]), (12, v5)]) (fun φ9 => [((φ8 0), .cells #[.int .i64 ((List.getD L i5 Fe.z).k), .string ⟨((List.getD L i5 Fe.z).a).toArray⟩, .string ⟨((List.getD L i5 Fe.z).v).toArray⟩] 39), ((φ9 0), .cells #[.int .i64 ((List.getD L i5 Fe.z).k), .string ⟨((List.getD L i5 Fe.z).a).toArray⟩, .string ⟨((List.getD L i5 Fe.z).v).toArray⟩] 42)]) (fun φ9 => [(φ8 0), (φ8 0), (φ8 0)]) s trivial (fun φ9 => by kernel_rfl) ?_
    intro φ9 w9 s
    refine append_rule (H := [((φ8 0), .cells #[.int .i64 ((List.getD L i5 Fe.z).k), .string ⟨((List.getD L i5 Fe.z).a).toArray⟩, .string ⟨((List.getD L i5 Fe.z).v).toArray⟩] 39), ((φ9 0), .cells #[.int .i64 ((List.getD L i5 Fe.z).k), .string ⟨((List.getD L i5 Fe.z).a).toArray⟩, .string ⟨((List.getD L i5 Fe.z).v).toArray⟩] 42)]) (F := F5) 30 30 42 Tryd.t42 (.agg #[.int .i64 0, .string ⟨#[]⟩, .string ⟨#[]⟩]) 3 40 (some 15) s Tryd.underlying30 (by kernel_rfl) (by kernel_rfl) (by kernel_rfl) (by kernel_rfl) (by kernel_rfl) (by decide) hi5_1 (src_own s 1 (φ9 0) #[.int .i64 ((List.getD L i5 Fe.z).k), .string ⟨((List.getD L i5 Fe.z).a).toArray⟩, .string ⟨((List.getD L i5 Fe.z).v).toArray⟩] 42 30 42 1 1 3 [.int .i64 ((List.getD L i5 Fe.z).k), .string ⟨((List.getD L i5 Fe.z).a).toArray⟩, .string ⟨((List.getD L i5 Fe.z).v).toArray⟩] (by kernel_rfl) Tryd.underlying30 (by kernel_rfl) (by kernel_rfl) (by kernel_rfl)) (by simp only [maxLen]; omega) (by omega) (by kernel_rfl) ?_
    intro v10 w10 F10 s h10
    refine ops_rule (C := []) [((φ8 0), .cells #[.int .i64 ((List.getD L i5 Fe.z).k), .string ⟨((List.getD L i5 Fe.z).a).toArray⟩, .string ⟨((List.getD L i5 Fe.z).v).toArray⟩] 39), ((φ9 0), .cells #[.int .i64 ((List.getD L i5 Fe.z).k), .string ⟨((List.getD L i5 Fe.z).a).toArray⟩, .string ⟨((List.getD L i5 Fe.z).v).toArray⟩] 42)] F10 1 [] 0 (fun φ11 => [(3, v10)]) (fun φ11 => [((φ8 0), .cells #[.int .i64 ((List.getD L i5 Fe.z).k), .string ⟨((List.getD L i5 Fe.z).a).toArray⟩, .string ⟨((List.getD L i5 Fe.z).v).toArray⟩] 39), ((φ9 0), .cells #[.int .i64 ((List.getD L i5 Fe.z).k), .string ⟨((List.getD L i5 Fe.z).a).toArray⟩, .string ⟨((List.getD L i5 Fe.z).v).toArray⟩] 42)]) (fun φ11 => []) s trivial (fun φ11 => by kernel_rfl) ?_
    intro φ11 w11 s
    refine ops_done (by kernel_rfl) ?_
    refine region_rule ?_
    refine ops_rule (C := []) [((φ8 0), .cells #[.int .i64 ((List.getD L i5 Fe.z).k), .string ⟨((List.getD L i5 Fe.z).a).toArray⟩, .string ⟨((List.getD L i5 Fe.z).v).toArray⟩] 39), ((φ9 0), .cells #[.int .i64 ((List.getD L i5 Fe.z).k), .string ⟨((List.getD L i5 Fe.z).a).toArray⟩, .string ⟨((List.getD L i5 Fe.z).v).toArray⟩] 42)] F10 2 [] 0 (fun φ12 => [(8, .int .i64 (IntKind.wrap .i64 (((i5 : Nat) : Int) + ((1 : Nat) : Int)))), (16, .int .i64 (IntKind.wrap .i64 (((i5 : Nat) : Int) + ((1 : Nat) : Int))))]) (fun φ12 => [((φ8 0), .cells #[.int .i64 ((List.getD L i5 Fe.z).k), .string ⟨((List.getD L i5 Fe.z).a).toArray⟩, .string ⟨((List.getD L i5 Fe.z).v).toArray⟩] 39), ((φ9 0), .cells #[.int .i64 ((List.getD L i5 Fe.z).k), .string ⟨((List.getD L i5 Fe.z).a).toArray⟩, .string ⟨((List.getD L i5 Fe.z).v).toArray⟩] 42)]) (fun φ12 => []) s trivial (fun φ12 => by kernel_rfl) ?_
    intro φ12 w12 s
    rw [nat_addI (a := i5) (b := 1) (by have e8 := hi5_0; have e7 := List.length_take (i := i5) (l := L); have hq0 := of_decide_eq_true hc7; omega)]
    refine ops_done (by kernel_rfl) ?_
    exact ⟨⟨m5 - 1, (i5 + 1, v10, F10), _, _, _, by have hq0 := of_decide_eq_true hc7; have := hi5_0; omega, rfl, s, (List.Sublist.append (List.Sublist.cons _ (List.Sublist.cons _ List.Sublist.slnil)) (List.Sublist.refl _)), by kernel_rfl, hle4, by have hq0 := of_decide_eq_true hc7; have := hi5_0; show i5 + 1 + (m5 - 1) = L.length; omega, by have hq0 := of_decide_eq_true hc7; have h0 := hi5_0; have h1 := row42_snoc (x := (List.getD L i5 Fe.z)) h10 rfl; rw [← fe_take (by omega)] at h1; exact h1⟩⟩
  ·
    rw [hc7]
    refine cond_false_rule (b := false) (by kernel_rfl) rfl ?_
    refine wp_exit ?_
    refine wp_seq ?_
    refine region_rule ?_
    refine ops_rule (C := []) [] F5 2 [] 0 (fun φ13 => [(2, v5), (17, v5)]) (fun φ13 => []) (fun φ13 => []) s trivial (fun φ13 => by kernel_rfl) ?_
    intro φ13 w13 s
    refine ops_done (by kernel_rfl) ?_
    refine wp_ret ?_
    refine ret_rule (C := []) [] F5 (v5) [] [] s trivial (by kernel_rfl) ?_
    have ei : i5 = L.length := by have hq0 := of_decide_eq_false hc7; have := hi5_0; omega
    have hr9 := hi5_1
    rw [ei, List.take_length] at hr9
    obtain ⟨J14, le14, hk14, s⟩ := freeze_row42 (H := []) (F := F5) s hr9
    obtain ⟨a14, c14, hv14, -, hk14⟩ := hk14.open
    subst hv14
    exact ⟨_, _, _, rfl, s, ⟨_, _, rfl, hk14⟩⟩

set_option maxHeartbeats 2000000 in
theorem equalK_c {I : IM} {L : List Nat} {a0 a1 : Option Addr} {c0 c1 : Nat} (h0 : KSl I L (.slice a0 L.length c0)) (h1 : KSl I L (.slice a1 L.length c1)) (hl : L.length ≤ 1000) : Fun Tryd.prog 47 #[.slice a0 L.length c0, .slice a1 L.length c1] I (fun v J => v = .bool true) := by
  refine enter_rule 26 [(0, .slice a0 L.length c0), (1, .slice a1 L.length c1)] Tryd.func47 rfl (by kernel_rfl) ?_
  intro w s
  refine wp_seq ?_
  refine region_rule ?_
  refine ops_rule (C := []) [] [] 1 [] 0 (fun φ1 => [(4, .bool false)]) (fun φ1 => []) (fun φ1 => []) s trivial (fun φ1 => by kernel_rfl) ?_
  intro φ1 w1 s
  refine ops_done (by kernel_rfl) ?_
  refine wp_seq ?_
  refine wp_seq ?_
  refine region_rule ?_
  refine ops_rule (C := []) [] [] 5 [] 0 (fun φ2 => [(10, .bool (((L.length : Nat) : Int) != ((L.length : Nat) : Int))), (9, .int .i64 ((L.length : Nat) : Int)), (8, .slice a1 L.length c1), (7, .int .i64 ((L.length : Nat) : Int)), (6, .slice a0 L.length c0)]) (fun φ2 => []) (fun φ2 => []) s trivial (fun φ2 => by kernel_rfl) ?_
  intro φ2 w2 s
  rw [(nat_neq (a := L.length) (b := L.length)).trans (decide_eq_false (fun q => q rfl))]
  refine ops_done (by kernel_rfl) ?_
  refine cond_false_rule (b := false) (by kernel_rfl) rfl ?_
  refine wp_skip ?_
  refine wp_seq ?_
  refine wp_seq ?_
  refine region_rule ?_
  refine ops_rule (C := []) [] [] 3 [] 0 (fun φ3 => [(13, .int .i64 0), (12, .int .i64 ((L.length : Nat) : Int)), (11, .slice a0 L.length c0)]) (fun φ3 => []) (fun φ3 => []) s trivial (fun φ3 => by kernel_rfl) ?_
  intro φ3 w3 s
  refine ops_done (by kernel_rfl) ?_
  refine wp_block ?_
  have hle4 := IM.Le.refl I
  refine loop_rule (fun (x : Nat) => [(0, .slice a0 L.length c0), (1, .slice a1 L.length c1), (4, .bool false), (11, .slice a0 L.length c0), (12, .int .i64 ((L.length : Nat) : Int)), (13, .int .i64 ((x : Nat) : Int))]) (fun (x : Nat) => []) (fun m (x : Nat) J => IM.Le I J ∧ x + m = L.length) (L.length) 0 s (by kernel_rfl) List.Sublist.slnil ⟨IM.Le.refl _, Nat.zero_add _⟩ ?_
  rintro m5 i5 I5 w5 ev5 s ⟨le5, hi5_0⟩
  try dsimp only at s hi5_0 ⊢
  replace h0 := KSl.mono le5 h0
  replace h1 := KSl.mono le5 h1
  replace hle4 := leMono le5 hle4
  refine wp_seq ?_
  refine region_rule ?_
  refine ops_rule (C := []) [] [] 1 [] 0 (fun φ6 => [(14, .bool (decide (((i5 : Nat) : Int) < ((L.length : Nat) : Int))))]) (fun φ6 => []) (fun φ6 => []) s trivial (fun φ6 => by kernel_rfl) ?_
  intro φ6 w6 s
  rw [nat_lss (a := i5) (b := L.length)]
  refine ops_done (by kernel_rfl) ?_
  refine wp_seq ?_
  rcases Bool.eq_false_or_eq_true (decide (i5 < L.length)) with hc7 | hc7
  ·
    rw [hc7]
    refine cond_true_rule (b := true) (by kernel_rfl) rfl ?_
    refine wp_skip ?_
    refine wp_seq ?_
    refine wp_block ?_
    refine wp_seq ?_
    refine region_rule ?_
    refine ops_rule (C := []) [] [] 2 [] 0 (fun φ8 => [(5, .int .i64 ((i5 : Nat) : Int)), (15, .int .i64 ((i5 : Nat) : Int))]) (fun φ8 => []) (fun φ8 => []) s trivial (fun φ8 => by kernel_rfl) ?_
    intro φ8 w8 s
    refine ops_done (by kernel_rfl) ?_
    refine wp_seq ?_
    refine draw_rule (C := []) ⟨(fun φ9 xs9 => [.look 0 [] [], .look 0 [] [], .ran (Instr.indexAt 52 (.slice a0 L.length c0) (.int .i64 ((i5 : Nat) : Int))), .ran (Instr.loadAt 3 (.pointer (pAt a0 i5))), .look 0 [] [], .look 0 [] [], .ran (Instr.indexAt 52 (.slice a1 L.length c1) (.int .i64 ((i5 : Nat) : Int))), .ran (Instr.loadAt 3 (.pointer (pAt a1 i5))), .sub 0 [] [] (.bool ((((List.getD L i5 0) : Nat) : Int) != (((List.getD L i5 0) : Nat) : Int)))]), (fun φ9 xs9 => [.slice a0 L.length c0, .int .i64 ((i5 : Nat) : Int), .pointer (pAt a0 i5), .int .i64 (((List.getD L i5 0) : Nat) : Int), .slice a1 L.length c1, .int .i64 ((i5 : Nat) : Int), .pointer (pAt a1 i5), .int .i64 (((List.getD L i5 0) : Nat) : Int), .bool false]), (fun φ9 xs9 => [[]]), (fun φ9 xs9 => [[default, default, default, default, default, default, default, default, default]]), [], [1, 1, 6, 6, 1, 1, 6, 6, 5]⟩ (fun j => ([MP.any, MP.any, MP.any, MP.any, MP.any, MP.any, MP.any, MP.any, MP.any] : List MP).getD j MP.any) [] [8] [2, 3, 6, 7] (fun φ9 xs9 => []) (fun φ9 xs9 => [(16, .slice a0 L.length c0), (17, .int .i64 ((i5 : Nat) : Int)), (18, .pointer (pAt a0 i5)), (19, .int .i64 (((List.getD L i5 0) : Nat) : Int)), (20, .slice a1 L.length c1), (21, .int .i64 ((i5 : Nat) : Int)), (22, .pointer (pAt a1 i5)), (23, .int .i64 (((List.getD L i5 0) : Nat) : Int)), (24, .bool false)]) (fun φ9 xs9 => []) s trivial (by kernel_rfl) (by kernel_rfl) (fun _ _ => by kernel_rfl) (fun _ _ => by kernel_rfl) ⟨fun _ _ => by kernel_rfl, fun _ _ => by kernel_rfl, fun _ _ => by kernel_rfl, fun _ _ => by kernel_rfl⟩ (fun _ _ _ => by kernel_rfl) (fun _ _ => by kernel_rfl) (fun _ _ => by kernel_rfl) (fun _ _ => by kernel_rfl) (fun _ _ => by kernel_rfl) (fun _ _ => by kernel_rfl) ⟨kcast (A := ∀ (φ9 : Nat → Nat) (xs9 : Xs), (.bool ((((List.getD L i5 0) : Nat) : Int) != (((List.getD L i5 0) : Nat) : Int)) : Value) = .bool false) (by kernel_rfl) (fun φ9 xs9 => congrArg Value.bool (((nat_neq (a := (List.getD L i5 0)) (b := (List.getD L i5 0))).trans (decide_eq_false (fun q => q rfl))))), trivial⟩ ⟨kcast (A := ∀ (φ9 : Nat → Nat) (xs9 : Xs) (J : IM) (w : World), I5.Le J → J.Sub w → ((Instr.indexAt 52 (.slice a0 L.length c0) (.int .i64 ((i5 : Nat) : Int))) : Sem Value).run Tryd.prog w = .ok (.pointer (pAt a0 i5)) w) (by kernel_rfl) (fun φ9 xs9 J w hJ hS => ksl_idx (KSl.mono hJ h0) (by have e8 := hi5_0; have hq0 := of_decide_eq_true hc7; omega)), ⟨kcast (A := ∀ (φ9 : Nat → Nat) (xs9 : Xs) (J : IM) (w : World), I5.Le J → J.Sub w → ((Instr.loadAt 3 (.pointer (pAt a0 i5))) : Sem Value).run Tryd.prog w = .ok (.int .i64 (((List.getD L i5 0) : Nat) : Int)) w) (by kernel_rfl) (fun φ9 xs9 J w hJ hS => ksl_ld hS (KSl.mono hJ h0) (by have e8 := hi5_0; have hq0 := of_decide_eq_true hc7; omega)), ⟨kcast (A := ∀ (φ9 : Nat → Nat) (xs9 : Xs) (J : IM) (w : World), I5.Le J → J.Sub w → ((Instr.indexAt 52 (.slice a1 L.length c1) (.int .i64 ((i5 : Nat) : Int))) : Sem Value).run Tryd.prog w = .ok (.pointer (pAt a1 i5)) w) (by kernel_rfl) (fun φ9 xs9 J w hJ hS => ksl_idx (KSl.mono hJ h1) (by have e8 := hi5_0; have hq0 := of_decide_eq_true hc7; omega)), ⟨kcast (A := ∀ (φ9 : Nat → Nat) (xs9 : Xs) (J : IM) (w : World), I5.Le J → J.Sub w → ((Instr.loadAt 3 (.pointer (pAt a1 i5))) : Sem Value).run Tryd.prog w = .ok (.int .i64 (((List.getD L i5 0) : Nat) : Int)) w) (by kernel_rfl) (fun φ9 xs9 J w hJ hS => ksl_ld hS (KSl.mono hJ h1) (by have e8 := hi5_0; have hq0 := of_decide_eq_true hc7; omega)), trivial⟩⟩⟩⟩ (by kernel_rfl) trivial ?k9
    case k9 =>
      rintro φ9 xs9 I9 w9 le9 s 
      replace h0 := KSl.mono le9 h0
      replace h1 := KSl.mono le9 h1
      replace hle4 := leMono le9 hle4
      refine cond_false_rule (b := false) (by kernel_rfl) rfl ?_
      refine wp_skip ?_
      refine region_rule ?_
      refine ops_rule (C := []) [] [] 2 [] 0 (fun φ10 => [(13, .int .i64 (IntKind.wrap .i64 (((i5 : Nat) : Int) + ((1 : Nat) : Int)))), (25, .int .i64 (IntKind.wrap .i64 (((i5 : Nat) : Int) + ((1 : Nat) : Int))))]) (fun φ10 => []) (fun φ10 => []) s trivial (fun φ10 => by kernel_rfl) ?_
      intro φ10 w10 s
      rw [nat_addI (a := i5) (b := 1) (by have e8 := hi5_0; have hq0 := of_decide_eq_true hc7; omega)]
      refine ops_done (by kernel_rfl) ?_
      exact ⟨⟨m5 - 1, i5 + 1, _, _, _, by have hq0 := of_decide_eq_true hc7; have := hi5_0; omega, rfl, s, List.Sublist.slnil, by kernel_rfl, hle4, by have hq0 := of_decide_eq_true hc7; have := hi5_0; show i5 + 1 + (m5 - 1) = L.length; omega⟩⟩
  ·
    rw [hc7]
    refine cond_false_rule (b := false) (by kernel_rfl) rfl ?_
    refine wp_exit ?_
    refine wp_seq ?_
    refine region_rule ?_
    refine ops_rule (C := []) [] [] 1 [] 0 (fun φ11 => [(4, .bool true)]) (fun φ11 => []) (fun φ11 => []) s trivial (fun φ11 => by kernel_rfl) ?_
    intro φ11 w11 s
    refine ops_done (by kernel_rfl) ?_
    refine wp_ret ?_
    refine ret_rule (C := []) [] [] (.bool true) [] [] s trivial (by kernel_rfl) ?_
    exact ⟨_, _, _, rfl, s, rfl⟩

set_option maxHeartbeats 2000000 in
theorem equalF_c {I : IM} {L : List Fe} {a0 a1 : Option Addr} {c0 c1 : Nat} (h0 : FSl I L (.slice a0 L.length c0)) (h1 : FSl I L (.slice a1 L.length c1)) (hl : L.length ≤ 1000) : Fun Tryd.prog 21 #[.slice a0 L.length c0, .slice a1 L.length c1] I (fun v J => v = .bool true) := by
  refine enter_rule 26 [(0, .slice a0 L.length c0), (1, .slice a1 L.length c1)] Tryd.func21 rfl (by kernel_rfl) ?_
  intro w s
  refine wp_seq ?_
  refine region_rule ?_
  refine ops_rule (C := []) [] [] 1 [] 0 (fun φ1 => [(4, .bool false)]) (fun φ1 => []) (fun φ1 => []) s trivial (fun φ1 => by kernel_rfl) ?_
  intro φ1 w1 s
  refine ops_done (by kernel_rfl) ?_
  refine wp_seq ?_
  refine wp_seq ?_
  refine region_rule ?_
  refine ops_rule (C := []) [] [] 5 [] 0 (fun φ2 => [(10, .bool (((L.length : Nat) : Int) != ((L.length : Nat) : Int))), (9, .int .i64 ((L.length : Nat) : Int)), (8, .slice a1 L.length c1), (7, .int .i64 ((L.length : Nat) : Int)), (6, .slice a0 L.length c0)]) (fun φ2 => []) (fun φ2 => []) s trivial (fun φ2 => by kernel_rfl) ?_
  intro φ2 w2 s
  rw [(nat_neq (a := L.length) (b := L.length)).trans (decide_eq_false (fun q => q rfl))]
  refine ops_done (by kernel_rfl) ?_
  refine cond_false_rule (b := false) (by kernel_rfl) rfl ?_
  refine wp_skip ?_
  refine wp_seq ?_
  refine wp_seq ?_
  refine region_rule ?_
  refine ops_rule (C := []) [] [] 3 [] 0 (fun φ3 => [(13, .int .i64 0), (12, .int .i64 ((L.length : Nat) : Int)), (11, .slice a0 L.length c0)]) (fun φ3 => []) (fun φ3 => []) s trivial (fun φ3 => by kernel_rfl) ?_
  intro φ3 w3 s
  refine ops_done (by kernel_rfl) ?_
  refine wp_block ?_
  have hle4 := IM.Le.refl I
  refine loop_rule (fun (x : Nat) => [(0, .slice a0 L.length c0), (1, .slice a1 L.length c1), (4, .bool false), (11, .slice a0 L.length c0), (12, .int .i64 ((L.length : Nat) : Int)), (13, .int .i64 ((x : Nat) : Int))]) (fun (x : Nat) => []) (fun m (x : Nat) J => IM.Le I J ∧ x + m = L.length) (L.length) 0 s (by kernel_rfl) List.Sublist.slnil ⟨IM.Le.refl _, Nat.zero_add _⟩ ?_
  rintro m5 i5 I5 w5 ev5 s ⟨le5, hi5_0⟩
  try dsimp only at s hi5_0 ⊢
  replace h0 := FSl.mono le5 h0
  replace h1 := FSl.mono le5 h1
  replace hle4 := leMono le5 hle4
  refine wp_seq ?_
  refine region_rule ?_
  refine ops_rule (C := []) [] [] 1 [] 0 (fun φ6 => [(14, .bool (decide (((i5 : Nat) : Int) < ((L.length : Nat) : Int))))]) (fun φ6 => []) (fun φ6 => []) s trivial (fun φ6 => by kernel_rfl) ?_
  intro φ6 w6 s
  rw [nat_lss (a := i5) (b := L.length)]
  refine ops_done (by kernel_rfl) ?_
  refine wp_seq ?_
  rcases Bool.eq_false_or_eq_true (decide (i5 < L.length)) with hc7 | hc7
  ·
    rw [hc7]
    refine cond_true_rule (b := true) (by kernel_rfl) rfl ?_
    refine wp_skip ?_
    refine wp_seq ?_
    refine wp_block ?_
    refine wp_seq ?_
    refine region_rule ?_
    refine ops_rule (C := []) [] [] 2 [] 0 (fun φ8 => [(5, .int .i64 ((i5 : Nat) : Int)), (15, .int .i64 ((i5 : Nat) : Int))]) (fun φ8 => []) (fun φ8 => []) s trivial (fun φ8 => by kernel_rfl) ?_
    intro φ8 w8 s
    refine ops_done (by kernel_rfl) ?_
    refine wp_seq ?_
    refine draw_rule (C := []) ⟨(fun φ9 xs9 => [.look 0 [] [], .look 0 [] [], .ran (Instr.indexAt 22 (.slice a0 L.length c0) (.int .i64 ((i5 : Nat) : Int))), .ran (Instr.loadAt 39 (.pointer (pAt a0 (i5 * 3)))), .look 0 [] [], .look 0 [] [], .ran (Instr.indexAt 22 (.slice a1 L.length c1) (.int .i64 ((i5 : Nat) : Int))), .ran (Instr.loadAt 39 (.pointer (pAt a1 (i5 * 3)))), .ran (do eqGuard .neq 39 (.tmp 19) (.tmp 23) (.agg #[.int .i64 ((List.getD L i5 Fe.z).k), .string ⟨((List.getD L i5 Fe.z).a).toArray⟩, .string ⟨((List.getD L i5 Fe.z).v).toArray⟩]) (.agg #[.int .i64 ((List.getD L i5 Fe.z).k), .string ⟨((List.getD L i5 Fe.z).a).toArray⟩, .string ⟨((List.getD L i5 Fe.z).v).toArray⟩]); binOp .neq 39 (.agg #[.int .i64 ((List.getD L i5 Fe.z).k), .string ⟨((List.getD L i5 Fe.z).a).toArray⟩, .string ⟨((List.getD L i5 Fe.z).v).toArray⟩]) (.agg #[.int .i64 ((List.getD L i5 Fe.z).k), .string ⟨((List.getD L i5 Fe.z).a).toArray⟩, .string ⟨((List.getD L i5 Fe.z).v).toArray⟩]))]), (fun φ9 xs9 => [.slice a0 L.length c0, .int .i64 ((i5 : Nat) : Int), .pointer (pAt a0 (i5 * 3)), .agg #[.int .i64 ((List.getD L i5 Fe.z).k), .string ⟨((List.getD L i5 Fe.z).a).toArray⟩, .string ⟨((List.getD L i5 Fe.z).v).toArray⟩], .slice a1 L.length c1, .int .i64 ((i5 : Nat) : Int), .pointer (pAt a1 (i5 * 3)), .agg #[.int .i64 ((List.getD L i5 Fe.z).k), .string ⟨((List.getD L i5 Fe.z).a).toArray⟩, .string ⟨((List.getD L i5 Fe.z).v).toArray⟩], .bool false]), (fun φ9 xs9 => [[]]), (fun φ9 xs9 => [[default, default, default, default, default, default, default, default, default]]), [], [1, 1, 6, 6, 1, 1, 6, 6, 6]⟩ (fun j => ([MP.any, MP.any, MP.any, MP.any, MP.any, MP.any, MP.any, MP.any, MP.any] : List MP).getD j MP.any) [] [] [2, 3, 6, 7, 8] (fun φ9 xs9 => []) (fun φ9 xs9 => [(16, .slice a0 L.length c0), (17, .int .i64 ((i5 : Nat) : Int)), (18, .pointer (pAt a0 (i5 * 3))), (19, .agg #[.int .i64 ((List.getD L i5 Fe.z).k), .string ⟨((List.getD L i5 Fe.z).a).toArray⟩, .string ⟨((List.getD L i5 Fe.z).v).toArray⟩]), (20, .slice a1 L.length c1), (21, .int .i64 ((i5 : Nat) : Int)), (22, .pointer (pAt a1 (i5 * 3))), (23, .agg #[.int .i64 ((List.getD L i5 Fe.z).k), .string ⟨((List.getD L i5 Fe.z).a).toArray⟩, .string ⟨((List.getD L i5 Fe.z).v).toArray⟩]), (24, .bool false)]) (fun φ9 xs9 => []) s trivial (by kernel_rfl) (by kernel_rfl) (fun _ _ => by kernel_rfl) (fun _ _ => by kernel_rfl) ⟨fun _ _ => by kernel_rfl, fun _ _ => by kernel_rfl, fun _ _ => by kernel_rfl, fun _ _ => by kernel_rfl⟩ (fun _ _ _ => by kernel_rfl) (fun _ _ => by kernel_rfl) (fun _ _ => by kernel_rfl) (fun _ _ => by kernel_rfl) (fun _ _ => by kernel_rfl) (fun _ _ => by kernel_rfl) trivial ⟨kcast (A := ∀ (φ9 : Nat → Nat) (xs9 : Xs) (J : IM) (w : World), I5.Le J → J.Sub w → ((Instr.indexAt 22 (.slice a0 L.length c0) (.int .i64 ((i5 : Nat) : Int))) : Sem Value).run Tryd.prog w = .ok (.pointer (pAt a0 (i5 * 3))) w) (by kernel_rfl) (fun φ9 xs9 J w hJ hS => fsl_idx22 (FSl.mono hJ h0) (by have e8 := hi5_0; have hq0 := of_decide_eq_true hc7; omega)), ⟨kcast (A := ∀ (φ9 : Nat → Nat) (xs9 : Xs) (J : IM) (w : World), I5.Le J → J.Sub w → ((Instr.loadAt 39 (.pointer (pAt a0 (i5 * 3)))) : Sem Value).run Tryd.prog w = .ok (.agg #[.int .i64 ((List.getD L i5 Fe.z).k), .string ⟨((List.getD L i5 Fe.z).a).toArray⟩, .string ⟨((List.getD L i5 Fe.z).v).toArray⟩]) w) (by kernel_rfl) (fun φ9 xs9 J w hJ hS => fsl_ld39 hS (FSl.mono hJ h0) (by have e8 := hi5_0; have hq0 := of_decide_eq_true hc7; omega)), ⟨kcast (A := ∀ (φ9 : Nat → Nat) (xs9 : Xs) (J : IM) (w : World), I5.Le J → J.Sub w → ((Instr.indexAt 22 (.slice a1 L.length c1) (.int .i64 ((i5 : Nat) : Int))) : Sem Value).run Tryd.prog w = .ok (.pointer (pAt a1 (i5 * 3))) w) (by kernel_rfl) (fun φ9 xs9 J w hJ hS => fsl_idx22 (FSl.mono hJ h1) (by have e8 := hi5_0; have hq0 := of_decide_eq_true hc7; omega)), ⟨kcast (A := ∀ (φ9 : Nat → Nat) (xs9 : Xs) (J : IM) (w : World), I5.Le J → J.Sub w → ((Instr.loadAt 39 (.pointer (pAt a1 (i5 * 3)))) : Sem Value).run Tryd.prog w = .ok (.agg #[.int .i64 ((List.getD L i5 Fe.z).k), .string ⟨((List.getD L i5 Fe.z).a).toArray⟩, .string ⟨((List.getD L i5 Fe.z).v).toArray⟩]) w) (by kernel_rfl) (fun φ9 xs9 J w hJ hS => fsl_ld39 hS (FSl.mono hJ h1) (by have e8 := hi5_0; have hq0 := of_decide_eq_true hc7; omega)), ⟨kcast (A := ∀ (φ9 : Nat → Nat) (xs9 : Xs) (J : IM) (w : World), I5.Le J → J.Sub w → ((do eqGuard .neq 39 (.tmp 19) (.tmp 23) (.agg #[.int .i64 ((List.getD L i5 Fe.z).k), .string ⟨((List.getD L i5 Fe.z).a).toArray⟩, .string ⟨((List.getD L i5 Fe.z).v).toArray⟩]) (.agg #[.int .i64 ((List.getD L i5 Fe.z).k), .string ⟨((List.getD L i5 Fe.z).a).toArray⟩, .string ⟨((List.getD L i5 Fe.z).v).toArray⟩]); binOp .neq 39 (.agg #[.int .i64 ((List.getD L i5 Fe.z).k), .string ⟨((List.getD L i5 Fe.z).a).toArray⟩, .string ⟨((List.getD L i5 Fe.z).v).toArray⟩]) (.agg #[.int .i64 ((List.getD L i5 Fe.z).k), .string ⟨((List.getD L i5 Fe.z).a).toArray⟩, .string ⟨((List.getD L i5 Fe.z).v).toArray⟩])) : Sem Value).run Tryd.prog w = .ok (.bool false) w) (by kernel_rfl) (fun φ9 xs9 J w hJ hS => run_neFe39), trivial⟩⟩⟩⟩⟩ (by kernel_rfl) trivial ?k9
    case k9 =>
      rintro φ9 xs9 I9 w9 le9 s 
      replace h0 := FSl.mono le9 h0
      replace h1 := FSl.mono le9 h1
      replace hle4 := leMono le9 hle4
      refine cond_false_rule (b := false) (by kernel_rfl) rfl ?_
      refine wp_skip ?_
      refine region_rule ?_
      refine ops_rule (C := []) [] [] 2 [] 0 (fun φ10 => [(13, .int .i64 (IntKind.wrap .i64 (((i5 : Nat) : Int) + ((1 : Nat) : Int)))), (25, .int .i64 (IntKind.wrap .i64 (((i5 : Nat) : Int) + ((1 : Nat) : Int))))]) (fun φ10 => []) (fun φ10 => []) s trivial (fun φ10 => by kernel_rfl) ?_
      intro φ10 w10 s
      rw [nat_addI (a := i5) (b := 1) (by have e8 := hi5_0; have hq0 := of_decide_eq_true hc7; omega)]
      refine ops_done (by kernel_rfl) ?_
      exact ⟨⟨m5 - 1, i5 + 1, _, _, _, by have hq0 := of_decide_eq_true hc7; have := hi5_0; omega, rfl, s, List.Sublist.slnil, by kernel_rfl, hle4, by have hq0 := of_decide_eq_true hc7; have := hi5_0; show i5 + 1 + (m5 - 1) = L.length; omega⟩⟩
  ·
    rw [hc7]
    refine cond_false_rule (b := false) (by kernel_rfl) rfl ?_
    refine wp_exit ?_
    refine wp_seq ?_
    refine region_rule ?_
    refine ops_rule (C := []) [] [] 1 [] 0 (fun φ11 => [(4, .bool true)]) (fun φ11 => []) (fun φ11 => []) s trivial (fun φ11 => by kernel_rfl) ?_
    intro φ11 w11 s
    refine ops_done (by kernel_rfl) ?_
    refine wp_ret ?_
    refine ret_rule (C := []) [] [] (.bool true) [] [] s trivial (by kernel_rfl) ?_
    exact ⟨_, _, _, rfl, s, rfl⟩

end Go.Proofs.YtcpmjogeafhpnaaDoor
