/- A field is put in: the document. -/
import Derived.Test.YtcpmjogeafhpnaaDoorRwM23
import Derived.Test.YtcpmjogeafhpnaaDoorRows
import Derived.ProofKit
import Derived.LaidMore
import Derived.OpenShut
import Derived.Lay
import Derived.Stop.Joined
import Derived.Lib.LaidU8T
import Derived.Test.YtcpmjogeafhpnaaDoorRwM16
import Derived.Test.YtcpmjogeafhpnaaDoorRwM21
import Derived.WalkKit
import Derived.Deep.Slices
import Derived.Test.YtcpmjogeafhpnaaDoorRwM22
set_option linter.all false
set_option maxRecDepth 100000
namespace Go.Proofs.YtcpmjogeafhpnaaDoor
open Go.RowKit Go.Sep
attribute [local irreducible] Go.wpList Go.Code.wp

theorem has_next {M : List Fe} {x : Fe} {i : Nat} (h : ∀ j, j < i → M.getD j Fe.z ≠ x) (hi : M.getD i Fe.z ≠ x) : ∀ j, j < i + 1 → M.getD j Fe.z ≠ x := fun j hj => by
  by_cases e : j = i
  · subst e; exact hi
  · exact h j (by omega)
theorem mem_at {M : List Fe} {x : Fe} {i : Nat} (hi : i < M.length) (h : M.getD i Fe.z = x) : x ∈ M := by rw [← h]; simp [hi]
theorem mem_not {M : List Fe} {x : Fe} (h : ∀ j, j < M.length → M.getD j Fe.z ≠ x) : x ∉ M := fun hm => by
  obtain ⟨i, hi, he⟩ := List.getElem_of_mem hm
  exact h i hi (by simp [hi, he])
/-- what was copied, behind i of them -/
def outP (M : List Fe) (x : Fe) (i : Nat) : List Fe := if i ≤ rk M x then M.take i else M.take (rk M x) ++ x :: (M.take i).drop (rk M x)
theorem outP_miss {M : List Fe} {x : Fe} {i : Nat} (hx : x ∉ M) (hr : i ≤ rk M x) (hi : i < M.length) (h : lesFe x (M.getD i Fe.z) = false) : outP M x i ++ [M.getD i Fe.z] = outP M x (i + 1) ∧ i + 1 ≤ rk M x := by
  have h1 : i + 1 ≤ rk M x := by
    by_cases e : i = rk M x
    · have h2 := rk_not (M := M) (x := x) (by omega)
      rw [← e] at h2
      rcases les_totFe x (M.getD i Fe.z) with q | q | q
      · rw [q] at h; cases h
      · exact absurd (mem_at hi q.symm) hx
      · rw [q] at h2; cases h2
    · omega
  refine ⟨?_, h1⟩
  unfold outP
  rw [if_pos hr, if_pos h1, fe_take hi]
theorem outP_hit {M : List Fe} {x : Fe} {i : Nat} (hx : x ∉ M) (hr : i ≤ rk M x) (hi : i < M.length) (h : lesFe x (M.getD i Fe.z) = true) : outP M x i ++ [x] ++ [M.getD i Fe.z] = outP M x (i + 1) ∧ rk M x < i + 1 := by
  have h1 : i = rk M x := by
    by_cases e : i < rk M x
    · have := les_asym h; rw [rk_les e] at this; cases this
    · omega
  refine ⟨?_, by omega⟩
  unfold outP
  rw [if_pos hr, if_neg (by omega), fe_take hi, ← h1, List.drop_left' (by rw [List.length_take]; omega)]
  simp
theorem outP_past {M : List Fe} {x : Fe} {i : Nat} (hr : rk M x < i) (hi : i < M.length) : outP M x i ++ [M.getD i Fe.z] = outP M x (i + 1) := by
  unfold outP
  rw [if_neg (by omega), if_neg (by omega), fe_take hi, List.drop_append_of_le_length (by rw [List.length_take]; omega)]
  simp
theorem outP_end {M : List Fe} {x : Fe} {i : Nat} (hx : x ∉ M) (hi : i = M.length) (hr : rk M x < i) : outP M x i = ins M x := by
  subst hi
  unfold outP
  rw [if_neg (by omega), List.take_length, ins_not hx]
theorem outP_last {M : List Fe} {x : Fe} {i : Nat} (hx : x ∉ M) (hi : i = M.length) (hr : i ≤ rk M x) : outP M x i ++ [x] = ins M x := by
  have := rk_le (x := x) M
  have e : rk M x = M.length := by omega
  subst hi
  unfold outP
  rw [if_pos hr, ins_not hx, e, List.take_length, List.drop_length]
theorem outP_len {M : List Fe} {x : Fe} {i : Nat} : (outP M x i).length ≤ M.length + 1 := by
  unfold outP; split
  · rw [List.length_take]; omega
  · have := rk_le (x := x) M
    simp only [List.length_append, List.length_cons, List.length_take, List.length_drop]; omega
theorem row_eq42 {v : Value} {L M : List Fe} {F : List OB} (e : L = M) (h : RowH 42 3 v L.length (fcs L) F) : RowH 42 3 v M.length (fcs M) F := e ▸ h
theorem row_eq39 {v : Value} {L M : List Fe} {F : List OB} (e : L = M) (h : RowH 39 3 v L.length (fcs L) F) : RowH 39 3 v M.length (fcs M) F := e ▸ h
theorem outP_nil42 {M : List Fe} {x : Fe} : RowH 42 3 (.slice none 0 0) (List.length (outP M x 0)) (fcs (outP M x 0)) [] := by
  have e : outP M x 0 = [] := by unfold outP; rw [if_pos (Nat.zero_le _)]; rfl
  rw [e]; exact RowH.nil 42 3

set_option maxHeartbeats 2000000 in
theorem has_c {I : IM} {M : List Fe} {a0 : Option Addr} {c0 : Nat} (h0 : FSl I M (.slice a0 M.length c0)) (hl : M.length ≤ 10000) {xf : Fe} : Fun Tryd.prog 70 #[.slice a0 M.length c0, .agg #[.int .i64 xf.k, .string ⟨(xf.a).toArray⟩, .string ⟨(xf.v).toArray⟩]] I (fun v J => v = .bool (decide (xf ∈ M))) := by
 refine enter_rule 17 [(0, .slice a0 M.length c0), (1, .agg #[.int .i64 xf.k, .string ⟨(xf.a).toArray⟩, .string ⟨(xf.v).toArray⟩])] Tryd.func70 rfl (by kernel_rfl) ?_
 intro w s
 refine seqR ?_
 refine oAD [] [] 2 [] 1 (fun φ1 => [(4, .bool false), (3, pB (φ1 0))]) (fun φ1 => [(φ1 0, .cells #[.int .i64 xf.k, .string ⟨(xf.a).toArray⟩, .string ⟨(xf.v).toArray⟩] 42)]) (fun φ1 => []) s (fun φ1 => by kernel_rfl) (by kernel_rfl) ?_
 intro φ1 w1 s
 refine wp_seq ?_
 refine seqR ?_
 refine oKD _ [] 3 [] 0 (fun φ2 => [(9, .int .i64 0), (8, .int .i64 M.length), (7, .slice a0 M.length c0)]) (fun φ2 => []) s (fun φ2 => by kernel_rfl) (by kernel_rfl) ?_
 intro φ2 w2 s
 refine wp_block ?_
 have hle3 := IM.Le.refl I
 refine loop_rule (fun (x : Nat) => [(0, .slice a0 M.length c0), (3, pB (φ1 0)), (7, .slice a0 M.length c0), (8, .int .i64 M.length), (9, .int .i64 x)]) (fun (x : Nat) => [(φ1 0, .cells #[.int .i64 xf.k, .string ⟨(xf.a).toArray⟩, .string ⟨(xf.v).toArray⟩] 42)]) (fun m (x : Nat) J => IM.Le I J ∧ x + m = M.length ∧ (∀ j, j < x → M.getD j Fe.z ≠ xf)) (M.length) 0 s (by kernel_rfl) (List.Sublist.cons₂ _ List.Sublist.slnil) ⟨IM.Le.refl _, Nat.zero_add _, fun j h => by omega⟩ ?_
 rintro m4 i4 I4 w4 ev4 s ⟨le4, hi4_0, hi4_1⟩
 try dsimp only at s hi4_0 hi4_1 ⊢
 replace h0 := FSl.mono le4 h0
 replace hle3 := leMono le4 hle3
 refine seqR ?_
 refine oK [(φ1 0, .cells #[.int .i64 xf.k, .string ⟨(xf.a).toArray⟩, .string ⟨(xf.v).toArray⟩] 42)] [] 1 [] 0 (fun φ5 => [(10, .bool (decide (((i4 : Nat) : Int) < ((M.length : Nat) : Int))))]) (fun φ5 => []) s (fun φ5 => by kernel_rfl) ?_
 intro φ5 w5 s
 rw [nat_lss (a := i4) (b := M.length)]
 refine ops_done (by kernel_rfl) ?_
 refine wp_seq ?_
 rcases Bool.eq_false_or_eq_true (decide (i4 < M.length)) with hc6 | hc6
 ·
  rw [hc6]
  refine cond_true_rule (b := true) (by kernel_rfl) rfl ?_
  refine wp_skip ?_
  refine wp_seq ?_
  refine wp_block ?_
  refine seqR ?_
  refine sem_rule (Instr.indexAt 30 (.slice a0 M.length c0) (.int .i64 i4)) (some 11) (.pointer (pAt a0 (i4 * 3))) (by kernel_rfl) (fsl_idx30 h0 (by have e8 := hi4_0; have hq0 := dT9 hc6; omega)) ?_
  refine sem_rule (Instr.loadAt 42 (.pointer (pAt a0 (i4 * 3)))) (some 12) (.agg #[.int .i64 ((List.getD M i4 Fe.z).k), .string ⟨((List.getD M i4 Fe.z).a).toArray⟩, .string ⟨((List.getD M i4 Fe.z).v).toArray⟩]) (by kernel_rfl) (fsl_ld42 s.sub h0 (by have e8 := hi4_0; have hq0 := dT9 hc6; omega)) ?_
  refine oAD _ [] 2 [.o 1, .o 1, .o 1] 1 (fun φ7 => [(6, pB (φ7 0))]) (fun φ7 => [(φ1 0, .cells #[.int .i64 xf.k, .string ⟨(xf.a).toArray⟩, .string ⟨(xf.v).toArray⟩] 42), (φ7 0, .cells #[.int .i64 ((List.getD M i4 Fe.z).k), .string ⟨((List.getD M i4 Fe.z).a).toArray⟩, .string ⟨((List.getD M i4 Fe.z).v).toArray⟩] 42)]) (fun φ7 => [φ7 0, φ7 0, φ7 0]) s (fun φ7 => by kernel_rfl) (by kernel_rfl) ?_
  intro φ7 w7 s
  refine seqR ?_
  refine oK _ [] 2 [.o 1, .o 1, .o 1, .o 0, .o 0, .o 0] 0 (fun φ8 => [(14, .agg #[.int .i64 xf.k, .string ⟨(xf.a).toArray⟩, .string ⟨(xf.v).toArray⟩]), (13, .agg #[.int .i64 ((List.getD M i4 Fe.z).k), .string ⟨((List.getD M i4 Fe.z).a).toArray⟩, .string ⟨((List.getD M i4 Fe.z).v).toArray⟩])]) (fun φ8 => [φ7 0, φ7 0, φ7 0, φ1 0, φ1 0, φ1 0]) s (fun φ8 => by kernel_rfl) ?_
  intro φ8 w8 s
  refine sem_rule (do eqGuard .eql 42 (.tmp 13) (.tmp 14) (.agg #[.int .i64 ((List.getD M i4 Fe.z).k), .string ⟨((List.getD M i4 Fe.z).a).toArray⟩, .string ⟨((List.getD M i4 Fe.z).v).toArray⟩]) (.agg #[.int .i64 xf.k, .string ⟨(xf.a).toArray⟩, .string ⟨(xf.v).toArray⟩]); binOp .eql 42 (.agg #[.int .i64 ((List.getD M i4 Fe.z).k), .string ⟨((List.getD M i4 Fe.z).a).toArray⟩, .string ⟨((List.getD M i4 Fe.z).v).toArray⟩]) (.agg #[.int .i64 xf.k, .string ⟨(xf.a).toArray⟩, .string ⟨(xf.v).toArray⟩])) (some 15) (.bool (decide ((List.getD M i4 Fe.z) = xf))) (by kernel_rfl) (run_eqlG42 (X := (List.getD M i4 Fe.z)) (Y := xf)) ?_
  refine ops_done (by kernel_rfl) ?_
  rcases Bool.eq_false_or_eq_true (decide ((List.getD M i4 Fe.z) = xf)) with hc9 | hc9
  ·
   rw [hc9]
   refine cond_true_rule (b := true) (by kernel_rfl) rfl ?_
   refine seqR ?_
   refine oKD _ [] 1 [] 0 (fun φ10 => [(4, .bool true)]) (fun φ10 => []) s (fun φ10 => by kernel_rfl) (by kernel_rfl) ?_
   intro φ10 w10 s
   refine wp_ret ?_
   refine ret_rule (C := []) _ [] (.bool true) [] [] s trivial (by kernel_rfl) ?_
   exact ⟨_, _, _, rfl, s, (congrArg Value.bool (decide_eq_true (mem_at (by have hq0 := dT9 hc6; have hq1 := dT9 hc9; have := hi4_0; omega) (dT9 hc9))).symm)⟩
  ·
   rw [hc9]
   refine cond_false_rule (b := false) (by kernel_rfl) rfl ?_
   refine wp_skip ?_
   refine region_rule ?_
   refine oK _ [] 2 [] 0 (fun φ11 => [(9, .int .i64 (IntKind.wrap .i64 (((i4 : Nat) : Int) + ((1 : Nat) : Int)))), (16, .int .i64 (IntKind.wrap .i64 (((i4 : Nat) : Int) + ((1 : Nat) : Int))))]) (fun φ11 => []) s (fun φ11 => by kernel_rfl) ?_
   intro φ11 w11 s
   rw [nat_addI (a := i4) (b := 1) (by have e8 := hi4_0; have hq0 := dT9 hc6; have hq1 := dF9 hc9; omega)]
   refine ops_done (by kernel_rfl) ?_
   exact ⟨⟨m4 - 1, i4 + 1, _, _, _, by have hq0 := dT9 hc6; have hq1 := dF9 hc9; have := hi4_0; omega, rfl, s, (List.Sublist.cons₂ _ (List.Sublist.cons _ List.Sublist.slnil)), by kernel_rfl, hle3, by have hq0 := dT9 hc6; have hq1 := dF9 hc9; have := hi4_0; show i4 + 1 + (m4 - 1) = M.length; omega, (has_next hi4_1 (dF9 hc9))⟩⟩
 ·
  rw [hc6]
  refine cond_false_rule (b := false) (by kernel_rfl) rfl ?_
  refine wp_exit ?_
  refine seqR ?_
  refine oKD _ [] 1 [] 0 (fun φ12 => [(4, .bool false)]) (fun φ12 => []) s (fun φ12 => by kernel_rfl) (by kernel_rfl) ?_
  intro φ12 w12 s
  refine wp_ret ?_
  refine ret_rule (C := []) _ [] (.bool false) [] [] s trivial (by kernel_rfl) ?_
  exact ⟨_, _, _, rfl, s, (congrArg Value.bool (decide_eq_false (mem_not (by have ei : i4 = M.length := (by have hq0 := dF9 hc6; have := hi4_0; omega); have h9 := hi4_1; rw [ei] at h9; exact h9))).symm)⟩

theorem refLessX_c {I : IM} {x y : Fe} (hx : x.a.length ≤ 1000 ∧ x.v.length ≤ 1000) (hy : y.a.length ≤ 1000 ∧ y.v.length ≤ 1000) : Fun Tryd.prog 35 #[.agg #[.int .i64 x.k, .string ⟨(x.a).toArray⟩, .string ⟨(x.v).toArray⟩], .agg #[.int .i64 y.k, .string ⟨(y.a).toArray⟩, .string ⟨(y.v).toArray⟩]] I (fun v J => v = .bool (lesFe x y)) :=
  Tx.refLess_c (k := x.k) (A := x.a) (B := x.v) (k' := y.k) (A' := y.a) (B' := y.v) (by omega) (by omega) (by omega) (by omega)

set_option maxHeartbeats 4000000 in
theorem put_c {I : IM} {M : List Fe} {a0 : Option Addr} {c0 : Nat} (h0 : FSl I M (.slice a0 M.length c0)) (hl : M.length ≤ 1000) (hsM : shortL M) {xf : Fe} (hsx : xf.a.length ≤ 1000 ∧ xf.v.length ≤ 1000) : Fun Tryd.prog 58 #[.slice a0 M.length c0, .agg #[.int .i64 xf.k, .string ⟨(xf.a).toArray⟩, .string ⟨(xf.v).toArray⟩]] I (fun v J => ∃ a c, v = .slice a (ins M xf).length c ∧ FSl J (ins M xf) (.slice a (ins M xf).length c)) := by
 refine enter_rule 42 [(0, .slice a0 M.length c0), (1, .agg #[.int .i64 xf.k, .string ⟨(xf.a).toArray⟩, .string ⟨(xf.v).toArray⟩])] Tryd.func58 rfl (by kernel_rfl) ?_
 intro w s
 refine seqR ?_
 refine oAD [] [] 2 [] 1 (fun φ1 => [(4, .slice none 0 0), (3, pB (φ1 0))]) (fun φ1 => [(φ1 0, .cells #[.int .i64 xf.k, .string ⟨(xf.a).toArray⟩, .string ⟨(xf.v).toArray⟩] 42)]) (fun φ1 => []) s (fun φ1 => by kernel_rfl) (by kernel_rfl) ?_
 intro φ1 w1 s
 refine wp_seq ?_
 refine seqR ?_
 refine oK _ [] 2 [.o 0, .o 0, .o 0] 0 (fun φ2 => [(10, .agg #[.int .i64 xf.k, .string ⟨(xf.a).toArray⟩, .string ⟨(xf.v).toArray⟩]), (9, .slice a0 M.length c0)]) (fun φ2 => [φ1 0, φ1 0, φ1 0]) s (fun φ2 => by kernel_rfl) ?_
 intro φ2 w2 s
 refine call_rule (some 11) s (has_c (xf := xf) h0 (by   omega)) (by kernel_rfl) ?_
 intro v3 I3 w3 le3 h3 s
 replace h0 := FSl.mono le3 h0
 obtain rfl := h3
 refine ops_done (by kernel_rfl) ?_
 rcases Bool.eq_false_or_eq_true (decide (xf ∈ M)) with hc4 | hc4
 ·
  rw [hc4]
  refine cond_true_rule (b := true) (by kernel_rfl) rfl ?_
  refine seqR ?_
  refine oKD _ [] 2 [] 0 (fun φ5 => [(4, .slice a0 M.length c0), (12, .slice a0 M.length c0)]) (fun φ5 => []) s (fun φ5 => by kernel_rfl) (by kernel_rfl) ?_
  intro φ5 w5 s
  refine wp_ret ?_
  refine ret_rule (C := []) _ [] (.slice a0 M.length c0) [] [] s trivial (by kernel_rfl) ?_
  exact ⟨_, _, _, rfl, s, (by rw [ins_mem (dT9 hc4)]; exact ⟨_, _, rfl, h0⟩)⟩
 ·
  rw [hc4]
  refine cond_false_rule (b := false) (by kernel_rfl) rfl ?_
  refine wp_skip ?_
  refine seqR ?_
  refine oKD _ [] 1 [] 0 (fun φ6 => [(5, .slice none 0 0)]) (fun φ6 => []) s (fun φ6 => by kernel_rfl) (by kernel_rfl) ?_
  intro φ6 w6 s
  refine seqR ?_
  refine oKD _ [] 1 [] 0 (fun φ7 => [(6, .bool false)]) (fun φ7 => []) s (fun φ7 => by kernel_rfl) (by kernel_rfl) ?_
  intro φ7 w7 s
  refine wp_seq ?_
  refine seqR ?_
  refine oKD _ [] 3 [] 0 (fun φ8 => [(15, .int .i64 0), (14, .int .i64 M.length), (13, .slice a0 M.length c0)]) (fun φ8 => []) s (fun φ8 => by kernel_rfl) (by kernel_rfl) ?_
  intro φ8 w8 s
  refine wp_block ?_
  have hle9 := IM.Le.refl I3
  refine loop_rule (fun (x : Nat × Bool × Value × List OB) => [(0, .slice a0 M.length c0), (3, pB (φ1 0)), (4, .slice none 0 0), (13, .slice a0 M.length c0), (14, .int .i64 M.length), (15, .int .i64 x.1), (6, .bool x.2.1), (5, x.2.2.1)]) (fun (x : Nat × Bool × Value × List OB) => [(φ1 0, .cells #[.int .i64 xf.k, .string ⟨(xf.a).toArray⟩, .string ⟨(xf.v).toArray⟩] 42)] ++ x.2.2.2) (fun m (x : Nat × Bool × Value × List OB) J => IM.Le I3 J ∧ x.1 + m = M.length ∧ RowH 42 3 x.2.2.1 (List.length (outP M xf x.1)) (fcs (outP M xf x.1)) x.2.2.2 ∧ x.2.1 = decide (rk M xf < x.1)) (M.length) (0, false, (.slice none 0 0), []) s (by kernel_rfl) (List.Sublist.refl _) ⟨IM.Le.refl _, Nat.zero_add _, (outP_nil42), (decide_eq_false (by omega)).symm⟩ ?_
  rintro m10 ⟨i10, b10, v10, F10⟩ I10 w10 ev10 s ⟨le10, hi10_0, hi10_1, hi10_2⟩
  try dsimp only at s hi10_0 hi10_1 hi10_2 ⊢
  replace h0 := FSl.mono le10 h0
  replace hle9 := leMono le10 hle9
  refine seqR ?_
  refine oK _ F10 1 [] 0 (fun φ11 => [(16, .bool (decide (((i10 : Nat) : Int) < ((M.length : Nat) : Int))))]) (fun φ11 => []) s (fun φ11 => by kernel_rfl) ?_
  intro φ11 w11 s
  rw [nat_lss (a := i10) (b := M.length)]
  refine ops_done (by kernel_rfl) ?_
  refine wp_seq ?_
  rcases Bool.eq_false_or_eq_true (decide (i10 < M.length)) with hc12 | hc12
  ·
   rw [hc12]
   refine cond_true_rule (b := true) (by kernel_rfl) rfl ?_
   refine wp_skip ?_
   refine wp_seq ?_
   refine wp_block ?_
   refine seqR ?_
   refine sem_rule (Instr.indexAt 30 (.slice a0 M.length c0) (.int .i64 i10)) (some 17) (.pointer (pAt a0 (i10 * 3))) (by kernel_rfl) (fsl_idx30 h0 (by have e8 := hi10_0; have hq0 := dF9 hc4; have hq1 := dT9 hc12; omega)) ?_
   refine sem_rule (Instr.loadAt 42 (.pointer (pAt a0 (i10 * 3)))) (some 18) (.agg #[.int .i64 ((List.getD M i10 Fe.z).k), .string ⟨((List.getD M i10 Fe.z).a).toArray⟩, .string ⟨((List.getD M i10 Fe.z).v).toArray⟩]) (by kernel_rfl) (fsl_ld42 s.sub h0 (by have e8 := hi10_0; have hq0 := dF9 hc4; have hq1 := dT9 hc12; omega)) ?_
   refine oAD _ F10 2 [.o 1, .o 1, .o 1] 1 (fun φ13 => [(8, pB (φ13 0))]) (fun φ13 => [(φ1 0, .cells #[.int .i64 xf.k, .string ⟨(xf.a).toArray⟩, .string ⟨(xf.v).toArray⟩] 42), (φ13 0, .cells #[.int .i64 ((List.getD M i10 Fe.z).k), .string ⟨((List.getD M i10 Fe.z).a).toArray⟩, .string ⟨((List.getD M i10 Fe.z).v).toArray⟩] 42)]) (fun φ13 => [φ13 0, φ13 0, φ13 0]) s (fun φ13 => by kernel_rfl) (by kernel_rfl) ?_
   intro φ13 w13 s
   refine wp_seq ?_
   refine seqR ?_
   refine oK _ F10 3 [] 0 (fun φ14 => [(21, .bool (!(b10))), (20, .bool (!(b10))), (19, .bool b10)]) (fun φ14 => []) s (fun φ14 => by kernel_rfl) ?_
   intro φ14 w14 s
   rcases Bool.eq_false_or_eq_true (b10) with hc15 | hc15
   ·
    rw [hc15]
    refine oKD _ F10 4 [] 0 (fun φ16 => [(25, .bool false), (24, undef), (23, undef), (22, undef)]) (fun φ16 => []) s (fun φ16 => by kernel_rfl) (by kernel_rfl) ?_
    intro φ16 w16 s
    refine cond_false_rule (b := false) (by kernel_rfl) rfl ?_
    refine wp_skip ?_
    refine region_rule ?_
    refine oA _ F10 3 [.o 1, .o 1, .o 1] 1 (fun φ17 => [(32, .slice (some ⟨(φ17 0), 0, none⟩) 1 1), (31, .agg #[.int .i64 ((List.getD M i10 Fe.z).k), .string ⟨((List.getD M i10 Fe.z).a).toArray⟩, .string ⟨((List.getD M i10 Fe.z).v).toArray⟩]), (30, v10)]) (fun φ17 => [(φ1 0, .cells #[.int .i64 xf.k, .string ⟨(xf.a).toArray⟩, .string ⟨(xf.v).toArray⟩] 42), (φ13 0, .cells #[.int .i64 ((List.getD M i10 Fe.z).k), .string ⟨((List.getD M i10 Fe.z).a).toArray⟩, .string ⟨((List.getD M i10 Fe.z).v).toArray⟩] 42), (φ17 0, .cells #[.int .i64 ((List.getD M i10 Fe.z).k), .string ⟨((List.getD M i10 Fe.z).a).toArray⟩, .string ⟨((List.getD M i10 Fe.z).v).toArray⟩] 42)]) (fun φ17 => [φ13 0, φ13 0, φ13 0]) s (fun φ17 => by kernel_rfl) ?_
    intro φ17 w17 s
    have hb18 : (List.length (outP M xf i10)) ≤ 100000 := (by have := outP_len (M := M) (x := xf) (i := i10); (try simp only [List.length_append, List.length_cons, List.length_nil]); omega)
    refine append_rule (H := [(φ1 0, .cells #[.int .i64 xf.k, .string ⟨(xf.a).toArray⟩, .string ⟨(xf.v).toArray⟩] 42), (φ13 0, .cells #[.int .i64 ((List.getD M i10 Fe.z).k), .string ⟨((List.getD M i10 Fe.z).a).toArray⟩, .string ⟨((List.getD M i10 Fe.z).v).toArray⟩] 42), (φ17 0, .cells #[.int .i64 ((List.getD M i10 Fe.z).k), .string ⟨((List.getD M i10 Fe.z).a).toArray⟩, .string ⟨((List.getD M i10 Fe.z).v).toArray⟩] 42)]) (F := F10) 30 30 42 Tryd.t42 (.agg #[.int .i64 0, .string ⟨#[]⟩, .string ⟨#[]⟩]) 3 40 (some 33) s Tryd.underlying30 (by kernel_rfl) (by kernel_rfl) (by kernel_rfl) (by kernel_rfl) (by kernel_rfl) (by decide) hi10_1 (src_own s 2 (φ17 0) #[.int .i64 ((List.getD M i10 Fe.z).k), .string ⟨((List.getD M i10 Fe.z).a).toArray⟩, .string ⟨((List.getD M i10 Fe.z).v).toArray⟩] 42 30 42 1 1 3 [.int .i64 ((List.getD M i10 Fe.z).k), .string ⟨((List.getD M i10 Fe.z).a).toArray⟩, .string ⟨((List.getD M i10 Fe.z).v).toArray⟩] (by kernel_rfl) Tryd.underlying30 (by kernel_rfl) (by kernel_rfl) (by kernel_rfl)) (by simp only [maxLen]; omega) (by omega) (by kernel_rfl) ?_
    intro v18 w18 F18 s h18
    replace h18 : RowH 42 3 v18 (List.length ((outP M xf i10) ++ [(List.getD M i10 Fe.z)])) (fcs ((outP M xf i10) ++ [(List.getD M i10 Fe.z)])) F18 := row42_snoc (Fs := (outP M xf i10)) (x := (List.getD M i10 Fe.z)) h18 rfl
    refine oKD _ F18 1 [] 0 (fun φ19 => [(5, v18)]) (fun φ19 => []) s (fun φ19 => by kernel_rfl) (by kernel_rfl) ?_
    intro φ19 w19 s
    refine region_rule ?_
    refine oK _ F18 2 [] 0 (fun φ20 => [(15, .int .i64 (IntKind.wrap .i64 (((i10 : Nat) : Int) + ((1 : Nat) : Int)))), (34, .int .i64 (IntKind.wrap .i64 (((i10 : Nat) : Int) + ((1 : Nat) : Int))))]) (fun φ20 => []) s (fun φ20 => by kernel_rfl) ?_
    intro φ20 w20 s
    rw [nat_addI (a := i10) (b := 1) (by have e8 := hi10_0; have hq0 := dF9 hc4; have hq1 := dT9 hc12; omega)]
    refine ops_done (by kernel_rfl) ?_
    exact ⟨⟨m10 - 1, (i10 + 1, true, v18, F18), _, _, _, by have hq0 := dF9 hc4; have hq1 := dT9 hc12; have := hi10_0; omega, rfl, s, (List.Sublist.append (List.Sublist.cons₂ _ (List.Sublist.cons _ (List.Sublist.cons _ List.Sublist.slnil))) (List.Sublist.refl _)), by kernel_rfl, hle9, by have hq0 := dF9 hc4; have hq1 := dT9 hc12; have := hi10_0; show i10 + 1 + (m10 - 1) = M.length; omega, (row_eq42 (outP_past (dT9 (hi10_2.symm.trans hc15)) (by have hq0 := dF9 hc4; have hq1 := dT9 hc12; have := hi10_0; omega)) h18), (decide_eq_true (by have := dT9 (hi10_2.symm.trans hc15); omega)).symm⟩⟩
   ·
    rw [hc15]
    refine oK _ F10 2 [.o 0, .o 0, .o 0, .o 1, .o 1, .o 1] 0 (fun φ21 => [(23, .agg #[.int .i64 ((List.getD M i10 Fe.z).k), .string ⟨((List.getD M i10 Fe.z).a).toArray⟩, .string ⟨((List.getD M i10 Fe.z).v).toArray⟩]), (22, .agg #[.int .i64 xf.k, .string ⟨(xf.a).toArray⟩, .string ⟨(xf.v).toArray⟩])]) (fun φ21 => [φ1 0, φ1 0, φ1 0, φ13 0, φ13 0, φ13 0]) s (fun φ21 => by kernel_rfl) ?_
    intro φ21 w21 s
    refine call_rule (some 24) s (refLessX_c (x := xf) (y := (List.getD M i10 Fe.z)) hsx (hsM _ (by have hq0 := dF9 hc4; have hq1 := dT9 hc12; have e8 := hi10_0; omega))) (by kernel_rfl) ?_
    intro v22 I22 w22 le22 h22 s
    replace hle9 := leMono le22 hle9
    obtain rfl := h22
    refine oKD _ F10 1 [] 0 (fun φ23 => [(25, .bool (lesFe xf (List.getD M i10 Fe.z)))]) (fun φ23 => []) s (fun φ23 => by kernel_rfl) (by kernel_rfl) ?_
    intro φ23 w23 s
    rcases Bool.eq_false_or_eq_true (lesFe xf (List.getD M i10 Fe.z)) with hc24 | hc24
    ·
     rw [hc24]
     refine cond_true_rule (b := true) (by kernel_rfl) rfl ?_
     refine region_rule ?_
     refine oA _ F10 3 [.o 0, .o 0, .o 0] 1 (fun φ25 => [(28, .slice (some ⟨(φ25 0), 0, none⟩) 1 1), (27, .agg #[.int .i64 xf.k, .string ⟨(xf.a).toArray⟩, .string ⟨(xf.v).toArray⟩]), (26, v10)]) (fun φ25 => [(φ1 0, .cells #[.int .i64 xf.k, .string ⟨(xf.a).toArray⟩, .string ⟨(xf.v).toArray⟩] 42), (φ13 0, .cells #[.int .i64 ((List.getD M i10 Fe.z).k), .string ⟨((List.getD M i10 Fe.z).a).toArray⟩, .string ⟨((List.getD M i10 Fe.z).v).toArray⟩] 42), (φ25 0, .cells #[.int .i64 xf.k, .string ⟨(xf.a).toArray⟩, .string ⟨(xf.v).toArray⟩] 42)]) (fun φ25 => [φ1 0, φ1 0, φ1 0]) s (fun φ25 => by kernel_rfl) ?_
     intro φ25 w25 s
     have hb26 : (List.length (outP M xf i10)) ≤ 100000 := (by have := outP_len (M := M) (x := xf) (i := i10); (try simp only [List.length_append, List.length_cons, List.length_nil]); omega)
     refine append_rule (H := [(φ1 0, .cells #[.int .i64 xf.k, .string ⟨(xf.a).toArray⟩, .string ⟨(xf.v).toArray⟩] 42), (φ13 0, .cells #[.int .i64 ((List.getD M i10 Fe.z).k), .string ⟨((List.getD M i10 Fe.z).a).toArray⟩, .string ⟨((List.getD M i10 Fe.z).v).toArray⟩] 42), (φ25 0, .cells #[.int .i64 xf.k, .string ⟨(xf.a).toArray⟩, .string ⟨(xf.v).toArray⟩] 42)]) (F := F10) 30 30 42 Tryd.t42 (.agg #[.int .i64 0, .string ⟨#[]⟩, .string ⟨#[]⟩]) 3 40 (some 29) s Tryd.underlying30 (by kernel_rfl) (by kernel_rfl) (by kernel_rfl) (by kernel_rfl) (by kernel_rfl) (by decide) hi10_1 (src_own s 2 (φ25 0) #[.int .i64 xf.k, .string ⟨(xf.a).toArray⟩, .string ⟨(xf.v).toArray⟩] 42 30 42 1 1 3 [.int .i64 xf.k, .string ⟨(xf.a).toArray⟩, .string ⟨(xf.v).toArray⟩] (by kernel_rfl) Tryd.underlying30 (by kernel_rfl) (by kernel_rfl) (by kernel_rfl)) (by simp only [maxLen]; omega) (by omega) (by kernel_rfl) ?_
     intro v26 w26 F26 s h26
     replace h26 : RowH 42 3 v26 (List.length ((outP M xf i10) ++ [xf])) (fcs ((outP M xf i10) ++ [xf])) F26 := row42_snoc (Fs := (outP M xf i10)) (x := xf) h26 rfl
     refine oKD _ F26 2 [] 0 (fun φ27 => [(6, .bool true), (5, v26)]) (fun φ27 => []) s (fun φ27 => by kernel_rfl) (by kernel_rfl) ?_
     intro φ27 w27 s
     refine region_rule ?_
     refine oA _ F26 3 [.o 1, .o 1, .o 1] 1 (fun φ28 => [(32, .slice (some ⟨(φ28 0), 0, none⟩) 1 1), (31, .agg #[.int .i64 ((List.getD M i10 Fe.z).k), .string ⟨((List.getD M i10 Fe.z).a).toArray⟩, .string ⟨((List.getD M i10 Fe.z).v).toArray⟩]), (30, v26)]) (fun φ28 => [(φ1 0, .cells #[.int .i64 xf.k, .string ⟨(xf.a).toArray⟩, .string ⟨(xf.v).toArray⟩] 42), (φ13 0, .cells #[.int .i64 ((List.getD M i10 Fe.z).k), .string ⟨((List.getD M i10 Fe.z).a).toArray⟩, .string ⟨((List.getD M i10 Fe.z).v).toArray⟩] 42), (φ25 0, .cells #[.int .i64 xf.k, .string ⟨(xf.a).toArray⟩, .string ⟨(xf.v).toArray⟩] 42), (φ28 0, .cells #[.int .i64 ((List.getD M i10 Fe.z).k), .string ⟨((List.getD M i10 Fe.z).a).toArray⟩, .string ⟨((List.getD M i10 Fe.z).v).toArray⟩] 42)]) (fun φ28 => [φ13 0, φ13 0, φ13 0]) s (fun φ28 => by kernel_rfl) ?_
     intro φ28 w28 s
     have hb29 : (List.length ((outP M xf i10) ++ [xf])) ≤ 100000 := (by have := outP_len (M := M) (x := xf) (i := i10); (try simp only [List.length_append, List.length_cons, List.length_nil]); omega)
     refine append_rule (H := [(φ1 0, .cells #[.int .i64 xf.k, .string ⟨(xf.a).toArray⟩, .string ⟨(xf.v).toArray⟩] 42), (φ13 0, .cells #[.int .i64 ((List.getD M i10 Fe.z).k), .string ⟨((List.getD M i10 Fe.z).a).toArray⟩, .string ⟨((List.getD M i10 Fe.z).v).toArray⟩] 42), (φ25 0, .cells #[.int .i64 xf.k, .string ⟨(xf.a).toArray⟩, .string ⟨(xf.v).toArray⟩] 42), (φ28 0, .cells #[.int .i64 ((List.getD M i10 Fe.z).k), .string ⟨((List.getD M i10 Fe.z).a).toArray⟩, .string ⟨((List.getD M i10 Fe.z).v).toArray⟩] 42)]) (F := F26) 30 30 42 Tryd.t42 (.agg #[.int .i64 0, .string ⟨#[]⟩, .string ⟨#[]⟩]) 3 40 (some 33) s Tryd.underlying30 (by kernel_rfl) (by kernel_rfl) (by kernel_rfl) (by kernel_rfl) (by kernel_rfl) (by decide) h26 (src_own s 3 (φ28 0) #[.int .i64 ((List.getD M i10 Fe.z).k), .string ⟨((List.getD M i10 Fe.z).a).toArray⟩, .string ⟨((List.getD M i10 Fe.z).v).toArray⟩] 42 30 42 1 1 3 [.int .i64 ((List.getD M i10 Fe.z).k), .string ⟨((List.getD M i10 Fe.z).a).toArray⟩, .string ⟨((List.getD M i10 Fe.z).v).toArray⟩] (by kernel_rfl) Tryd.underlying30 (by kernel_rfl) (by kernel_rfl) (by kernel_rfl)) (by simp only [maxLen]; omega) (by omega) (by kernel_rfl) ?_
     intro v29 w29 F29 s h29
     replace h29 : RowH 42 3 v29 (List.length (((outP M xf i10) ++ [xf]) ++ [(List.getD M i10 Fe.z)])) (fcs (((outP M xf i10) ++ [xf]) ++ [(List.getD M i10 Fe.z)])) F29 := row42_snoc (Fs := ((outP M xf i10) ++ [xf])) (x := (List.getD M i10 Fe.z)) h29 rfl
     refine oKD _ F29 1 [] 0 (fun φ30 => [(5, v29)]) (fun φ30 => []) s (fun φ30 => by kernel_rfl) (by kernel_rfl) ?_
     intro φ30 w30 s
     refine region_rule ?_
     refine oK _ F29 2 [] 0 (fun φ31 => [(15, .int .i64 (IntKind.wrap .i64 (((i10 : Nat) : Int) + ((1 : Nat) : Int)))), (34, .int .i64 (IntKind.wrap .i64 (((i10 : Nat) : Int) + ((1 : Nat) : Int))))]) (fun φ31 => []) s (fun φ31 => by kernel_rfl) ?_
     intro φ31 w31 s
     rw [nat_addI (a := i10) (b := 1) (by have e8 := hi10_0; have hq0 := dF9 hc4; have hq1 := dT9 hc12; omega)]
     refine ops_done (by kernel_rfl) ?_
     exact ⟨⟨m10 - 1, (i10 + 1, true, v29, F29), _, _, _, by have hq0 := dF9 hc4; have hq1 := dT9 hc12; have := hi10_0; omega, rfl, s, (List.Sublist.append (List.Sublist.cons₂ _ (List.Sublist.cons _ (List.Sublist.cons _ (List.Sublist.cons _ List.Sublist.slnil)))) (List.Sublist.refl _)), by kernel_rfl, hle9, by have hq0 := dF9 hc4; have hq1 := dT9 hc12; have := hi10_0; show i10 + 1 + (m10 - 1) = M.length; omega, (row_eq42 (outP_hit (dF9 hc4) (by have := dF9 (hi10_2.symm.trans hc15); omega) (by have hq0 := dF9 hc4; have hq1 := dT9 hc12; have := hi10_0; omega) hc24).1 h29), (decide_eq_true (outP_hit (dF9 hc4) (by have := dF9 (hi10_2.symm.trans hc15); omega) (by have hq0 := dF9 hc4; have hq1 := dT9 hc12; have := hi10_0; omega) hc24).2).symm⟩⟩
    ·
     rw [hc24]
     refine cond_false_rule (b := false) (by kernel_rfl) rfl ?_
     refine wp_skip ?_
     refine region_rule ?_
     refine oA _ F10 3 [.o 1, .o 1, .o 1] 1 (fun φ32 => [(32, .slice (some ⟨(φ32 0), 0, none⟩) 1 1), (31, .agg #[.int .i64 ((List.getD M i10 Fe.z).k), .string ⟨((List.getD M i10 Fe.z).a).toArray⟩, .string ⟨((List.getD M i10 Fe.z).v).toArray⟩]), (30, v10)]) (fun φ32 => [(φ1 0, .cells #[.int .i64 xf.k, .string ⟨(xf.a).toArray⟩, .string ⟨(xf.v).toArray⟩] 42), (φ13 0, .cells #[.int .i64 ((List.getD M i10 Fe.z).k), .string ⟨((List.getD M i10 Fe.z).a).toArray⟩, .string ⟨((List.getD M i10 Fe.z).v).toArray⟩] 42), (φ32 0, .cells #[.int .i64 ((List.getD M i10 Fe.z).k), .string ⟨((List.getD M i10 Fe.z).a).toArray⟩, .string ⟨((List.getD M i10 Fe.z).v).toArray⟩] 42)]) (fun φ32 => [φ13 0, φ13 0, φ13 0]) s (fun φ32 => by kernel_rfl) ?_
     intro φ32 w32 s
     have hb33 : (List.length (outP M xf i10)) ≤ 100000 := (by have := outP_len (M := M) (x := xf) (i := i10); (try simp only [List.length_append, List.length_cons, List.length_nil]); omega)
     refine append_rule (H := [(φ1 0, .cells #[.int .i64 xf.k, .string ⟨(xf.a).toArray⟩, .string ⟨(xf.v).toArray⟩] 42), (φ13 0, .cells #[.int .i64 ((List.getD M i10 Fe.z).k), .string ⟨((List.getD M i10 Fe.z).a).toArray⟩, .string ⟨((List.getD M i10 Fe.z).v).toArray⟩] 42), (φ32 0, .cells #[.int .i64 ((List.getD M i10 Fe.z).k), .string ⟨((List.getD M i10 Fe.z).a).toArray⟩, .string ⟨((List.getD M i10 Fe.z).v).toArray⟩] 42)]) (F := F10) 30 30 42 Tryd.t42 (.agg #[.int .i64 0, .string ⟨#[]⟩, .string ⟨#[]⟩]) 3 40 (some 33) s Tryd.underlying30 (by kernel_rfl) (by kernel_rfl) (by kernel_rfl) (by kernel_rfl) (by kernel_rfl) (by decide) hi10_1 (src_own s 2 (φ32 0) #[.int .i64 ((List.getD M i10 Fe.z).k), .string ⟨((List.getD M i10 Fe.z).a).toArray⟩, .string ⟨((List.getD M i10 Fe.z).v).toArray⟩] 42 30 42 1 1 3 [.int .i64 ((List.getD M i10 Fe.z).k), .string ⟨((List.getD M i10 Fe.z).a).toArray⟩, .string ⟨((List.getD M i10 Fe.z).v).toArray⟩] (by kernel_rfl) Tryd.underlying30 (by kernel_rfl) (by kernel_rfl) (by kernel_rfl)) (by simp only [maxLen]; omega) (by omega) (by kernel_rfl) ?_
     intro v33 w33 F33 s h33
     replace h33 : RowH 42 3 v33 (List.length ((outP M xf i10) ++ [(List.getD M i10 Fe.z)])) (fcs ((outP M xf i10) ++ [(List.getD M i10 Fe.z)])) F33 := row42_snoc (Fs := (outP M xf i10)) (x := (List.getD M i10 Fe.z)) h33 rfl
     refine oKD _ F33 1 [] 0 (fun φ34 => [(5, v33)]) (fun φ34 => []) s (fun φ34 => by kernel_rfl) (by kernel_rfl) ?_
     intro φ34 w34 s
     refine region_rule ?_
     refine oK _ F33 2 [] 0 (fun φ35 => [(15, .int .i64 (IntKind.wrap .i64 (((i10 : Nat) : Int) + ((1 : Nat) : Int)))), (34, .int .i64 (IntKind.wrap .i64 (((i10 : Nat) : Int) + ((1 : Nat) : Int))))]) (fun φ35 => []) s (fun φ35 => by kernel_rfl) ?_
     intro φ35 w35 s
     rw [nat_addI (a := i10) (b := 1) (by have e8 := hi10_0; have hq0 := dF9 hc4; have hq1 := dT9 hc12; omega)]
     refine ops_done (by kernel_rfl) ?_
     exact ⟨⟨m10 - 1, (i10 + 1, false, v33, F33), _, _, _, by have hq0 := dF9 hc4; have hq1 := dT9 hc12; have := hi10_0; omega, rfl, s, (List.Sublist.append (List.Sublist.cons₂ _ (List.Sublist.cons _ (List.Sublist.cons _ List.Sublist.slnil))) (List.Sublist.refl _)), by kernel_rfl, hle9, by have hq0 := dF9 hc4; have hq1 := dT9 hc12; have := hi10_0; show i10 + 1 + (m10 - 1) = M.length; omega, (row_eq42 (outP_miss (dF9 hc4) (by have := dF9 (hi10_2.symm.trans hc15); omega) (by have hq0 := dF9 hc4; have hq1 := dT9 hc12; have := hi10_0; omega) hc24).1 h33), (decide_eq_false (by have := (outP_miss (dF9 hc4) (by have := dF9 (hi10_2.symm.trans hc15); omega) (by have hq0 := dF9 hc4; have hq1 := dT9 hc12; have := hi10_0; omega) hc24).2; omega)).symm⟩⟩
  ·
   rw [hc12]
   refine cond_false_rule (b := false) (by kernel_rfl) rfl ?_
   refine wp_exit ?_
   refine wp_seq ?_
   refine seqR ?_
   refine oKD _ F10 2 [] 0 (fun φ36 => [(36, .bool (!(b10))), (35, .bool b10)]) (fun φ36 => []) s (fun φ36 => by kernel_rfl) (by kernel_rfl) ?_
   intro φ36 w36 s
   rcases Bool.eq_false_or_eq_true (b10) with hc37 | hc37
   ·
    rw [hc37]
    refine cond_false_rule (b := false) (by kernel_rfl) rfl ?_
    refine wp_skip ?_
    refine wp_seq ?_
    have hr38 := row_eq42 (outP_end (dF9 hc4) (by have hq0 := dF9 hc4; have hq1 := dF9 hc12; have := hi10_0; omega) (dT9 (hi10_2.symm.trans hc37))) hi10_1
    obtain ⟨J38, le38, hk38, s⟩ := freeze_row42 (H := [((φ1 0), .cells #[.int .i64 xf.k, .string ⟨(xf.a).toArray⟩, .string ⟨(xf.v).toArray⟩] 42)]) (F := F10) s hr38
    obtain ⟨a38, c38, hv38, -, hk38⟩ := hk38.open
    subst hv38
    refine region_rule ?_
    refine oKD [(φ1 0, .cells #[.int .i64 xf.k, .string ⟨(xf.a).toArray⟩, .string ⟨(xf.v).toArray⟩] 42)] [] 2 [] 0 (fun φ39 => [(4, .slice a38 (List.length (ins M xf)) c38), (41, .slice a38 (List.length (ins M xf)) c38)]) (fun φ39 => []) s (fun φ39 => by kernel_rfl) (by kernel_rfl) ?_
    intro φ39 w39 s
    refine wp_ret ?_
    refine ret_rule (C := []) _ [] (.slice a38 (List.length (ins M xf)) c38) [] [] s trivial (by kernel_rfl) ?_
    exact ⟨_, _, _, rfl, s, ⟨_, _, rfl, hk38⟩⟩
   ·
    rw [hc37]
    refine cond_true_rule (b := true) (by kernel_rfl) rfl ?_
    refine region_rule ?_
    refine oA _ F10 3 [.o 0, .o 0, .o 0] 1 (fun φ40 => [(39, .slice (some ⟨(φ40 0), 0, none⟩) 1 1), (38, .agg #[.int .i64 xf.k, .string ⟨(xf.a).toArray⟩, .string ⟨(xf.v).toArray⟩]), (37, v10)]) (fun φ40 => [(φ1 0, .cells #[.int .i64 xf.k, .string ⟨(xf.a).toArray⟩, .string ⟨(xf.v).toArray⟩] 42), (φ40 0, .cells #[.int .i64 xf.k, .string ⟨(xf.a).toArray⟩, .string ⟨(xf.v).toArray⟩] 42)]) (fun φ40 => [φ1 0, φ1 0, φ1 0]) s (fun φ40 => by kernel_rfl) ?_
    intro φ40 w40 s
    have hb41 : (List.length (outP M xf i10)) ≤ 100000 := (by have := outP_len (M := M) (x := xf) (i := i10); (try simp only [List.length_append, List.length_cons, List.length_nil]); omega)
    refine append_rule (H := [(φ1 0, .cells #[.int .i64 xf.k, .string ⟨(xf.a).toArray⟩, .string ⟨(xf.v).toArray⟩] 42), (φ40 0, .cells #[.int .i64 xf.k, .string ⟨(xf.a).toArray⟩, .string ⟨(xf.v).toArray⟩] 42)]) (F := F10) 30 30 42 Tryd.t42 (.agg #[.int .i64 0, .string ⟨#[]⟩, .string ⟨#[]⟩]) 3 40 (some 40) s Tryd.underlying30 (by kernel_rfl) (by kernel_rfl) (by kernel_rfl) (by kernel_rfl) (by kernel_rfl) (by decide) hi10_1 (src_own s 1 (φ40 0) #[.int .i64 xf.k, .string ⟨(xf.a).toArray⟩, .string ⟨(xf.v).toArray⟩] 42 30 42 1 1 3 [.int .i64 xf.k, .string ⟨(xf.a).toArray⟩, .string ⟨(xf.v).toArray⟩] (by kernel_rfl) Tryd.underlying30 (by kernel_rfl) (by kernel_rfl) (by kernel_rfl)) (by simp only [maxLen]; omega) (by omega) (by kernel_rfl) ?_
    intro v41 w41 F41 s h41
    replace h41 : RowH 42 3 v41 (List.length ((outP M xf i10) ++ [xf])) (fcs ((outP M xf i10) ++ [xf])) F41 := row42_snoc (Fs := (outP M xf i10)) (x := xf) h41 rfl
    refine oKD _ F41 1 [] 0 (fun φ42 => [(5, v41)]) (fun φ42 => []) s (fun φ42 => by kernel_rfl) (by kernel_rfl) ?_
    intro φ42 w42 s
    refine wp_seq ?_
    have hr43 := row_eq42 (outP_last (dF9 hc4) (by have hq0 := dF9 hc4; have hq1 := dF9 hc12; have := hi10_0; omega) (by have := dF9 (hi10_2.symm.trans hc37); omega)) h41
    obtain ⟨J43, le43, hk43, s⟩ := freeze_row42 (H := [((φ1 0), .cells #[.int .i64 xf.k, .string ⟨(xf.a).toArray⟩, .string ⟨(xf.v).toArray⟩] 42), ((φ40 0), .cells #[.int .i64 xf.k, .string ⟨(xf.a).toArray⟩, .string ⟨(xf.v).toArray⟩] 42)]) (F := F41) s hr43
    obtain ⟨a43, c43, hv43, -, hk43⟩ := hk43.open
    subst hv43
    refine region_rule ?_
    refine oKD [(φ1 0, .cells #[.int .i64 xf.k, .string ⟨(xf.a).toArray⟩, .string ⟨(xf.v).toArray⟩] 42), (φ40 0, .cells #[.int .i64 xf.k, .string ⟨(xf.a).toArray⟩, .string ⟨(xf.v).toArray⟩] 42)] [] 2 [] 0 (fun φ44 => [(4, .slice a43 (List.length (ins M xf)) c43), (41, .slice a43 (List.length (ins M xf)) c43)]) (fun φ44 => []) s (fun φ44 => by kernel_rfl) (by kernel_rfl) ?_
    intro φ44 w44 s
    refine wp_ret ?_
    refine ret_rule (C := []) _ [] (.slice a43 (List.length (ins M xf)) c43) [] [] s trivial (by kernel_rfl) ?_
    exact ⟨_, _, _, rfl, s, ⟨_, _, rfl, hk43⟩⟩

end Go.Proofs.YtcpmjogeafhpnaaDoor
/- Any fields are a card: the document; a few of them. -/
set_option linter.all false
set_option maxRecDepth 100000
namespace Go.Proofs.YtcpmjogeafhpnaaDoor
open Go.RowKit Go.Sep
attribute [local irreducible] Go.wpList Go.Code.wp

theorem refRightX_c {I : IM} {x : Fe} (h : x.a.length ≤ 1000 ∧ x.v.length ≤ 1000) : Fun Tryd.prog 23 #[.agg #[.int .i64 x.k, .string ⟨(x.a).toArray⟩, .string ⟨(x.v).toArray⟩]] I (fun v J => v = .int .i64 ((rtFe x : Nat) : Int)) :=
  Tx.refRight_c (z := x.k) (A := x.a) (B := x.v) (by omega) (by omega)
theorem short_mem {L : List Fe} (h : shortL L) {x : Fe} (hx : x ∈ L) : x.a.length ≤ 1000 ∧ x.v.length ≤ 1000 := by
  obtain ⟨i, hi, he⟩ := List.getElem_of_mem hx
  have := h i hi
  simpa [hi, he] using this
theorem short_of {L : List Fe} (h : ∀ x ∈ L, x.a.length ≤ 1000 ∧ x.v.length ≤ 1000) : shortL L := fun i hi => h _ (by simp [hi])
theorem short_puts {L : List Fe} (h : shortL L) (i : Nat) : shortL (puts (L.take i)) := short_of fun x hx => short_mem h (List.mem_of_mem_take (mem_puts.1 hx))
theorem putL_c {I : IM} {L : List Fe} {i : Nat} {a0 : Option Addr} {c0 : Nat} (h0 : FSl I (puts (L.take i)) (.slice a0 (puts (L.take i)).length c0)) (hl : L.length ≤ 1000) (hsh : shortL L) (hi : i < L.length) :
    Fun Tryd.prog 58 #[.slice a0 (puts (L.take i)).length c0, .agg #[.int .i64 (L.getD i Fe.z).k, .string ⟨((L.getD i Fe.z).a).toArray⟩, .string ⟨((L.getD i Fe.z).v).toArray⟩]] I (fun v J => ∃ a c, v = .slice a (puts (L.take (i + 1))).length c ∧ FSl J (puts (L.take (i + 1))) (.slice a (puts (L.take (i + 1))).length c)) := by
  rw [puts_take hi]
  exact put_c h0 (by have := puts_len (L.take i); rw [List.length_take] at this; omega) (short_puts hsh i) (hsh i hi)
theorem mkD_err {J : IM} {L : List Fe} {i : Nat} (hi : i < L.length) (h : eRt (L.take i) = 0) (hx : rtFe (L.getD i Fe.z) ≠ 0) : ∃ a c, (.tuple #[.slice none 0 0, .int .i64 ((rtFe (L.getD i Fe.z) : Nat) : Int)] : Value) = .tuple #[.slice a (mkF L).length c, .int .i64 ((mkE L : Nat) : Int)] ∧ FSl J (mkF L) (.slice a (mkF L).length c) := by
  have e := eRt_at hi h hx
  have hne : ¬ eRt L = 0 := by rw [e]; exact hx
  have e1 : mkF L = [] := if_neg hne
  have e2 : mkE L = rtFe (L.getD i Fe.z) := (if_neg hne).trans e
  rw [e1, e2]; exact ⟨none, 0, rfl, fsl_nil J⟩
theorem mkD_full {J : IM} {L : List Fe} {i : Nat} (hi : i = L.length) (h : eRt (L.take i) = 0) (h8 : 8 < (puts (L.take i)).length) : ∃ a c, (.tuple #[.slice none 0 0, .int .i64 8] : Value) = .tuple #[.slice a (mkF L).length c, .int .i64 ((mkE L : Nat) : Int)] ∧ FSl J (mkF L) (.slice a (mkF L).length c) := by
  subst hi
  rw [List.take_length] at h h8
  have hn : ¬ (puts L).length ≤ 8 := by omega
  have e1 : mkF L = [] := (if_pos h).trans (if_neg hn)
  have e2 : mkE L = 8 := (if_pos h).trans (if_neg hn)
  rw [e1, e2]; exact ⟨none, 0, rfl, fsl_nil J⟩
theorem mkD_ok {J : IM} {L : List Fe} {i : Nat} {a : Option Addr} {c : Nat} (hi : i = L.length) (h : eRt (L.take i) = 0) (h8 : ¬ 8 < (puts (L.take i)).length) (hf : FSl J (puts (L.take i)) (.slice a (puts (L.take i)).length c)) : ∃ a' c', (.tuple #[.slice a (puts (L.take i)).length c, .int .i64 0] : Value) = .tuple #[.slice a' (mkF L).length c', .int .i64 ((mkE L : Nat) : Int)] ∧ FSl J (mkF L) (.slice a' (mkF L).length c') := by
  subst hi
  rw [List.take_length] at h h8 hf ⊢
  have hn : (puts L).length ≤ 8 := by omega
  have e1 : mkF L = puts L := (if_pos h).trans (if_pos hn)
  have e2 : mkE L = 0 := (if_pos h).trans (if_pos hn)
  rw [e1, e2]; exact ⟨a, c, rfl, hf⟩
def cutFe (x : Fe) : Fe := ⟨x.k, x.a.take 60, x.v.take 60⟩
/-- not too many, none too long -/
def fewF (L : List Fe) : List Fe := (L.take 14).map cutFe
theorem take_min60 {l : List UInt8} : l.take (min l.length 60) = l.take 60 := by
  by_cases h : l.length ≤ 60
  · rw [Nat.min_eq_left h, List.take_of_length_le (Nat.le_refl _), List.take_of_length_le h]
  · rw [Nat.min_eq_right (by omega)]
theorem few_next {L : List Fe} {i : Nat} (hi : i < L.length) (h : i < 14) : fewF (L.take i) ++ [(⟨(List.getD L i Fe.z).k, ((List.getD L i Fe.z).a).take (min ((List.getD L i Fe.z).a).length 60), ((List.getD L i Fe.z).v).take (min ((List.getD L i Fe.z).v).length 60)⟩ : Fe)] = fewF (L.take (i + 1)) := by
  unfold fewF
  have e1 : min 14 i = i := by omega
  have e2 : min 14 (i + 1) = i + 1 := by omega
  rw [List.take_take, List.take_take, e1, e2, fe_take hi, List.map_append, take_min60, take_min60]; rfl
theorem few_past {L : List Fe} {i : Nat} (hi : i < L.length) (h : ¬ i < 14) : fewF (L.take i) = fewF (L.take (i + 1)) := by
  unfold fewF
  have e1 : min 14 i = 14 := by omega
  have e2 : min 14 (i + 1) = 14 := by omega
  rw [List.take_take, List.take_take, e1, e2]
theorem few_len {L : List Fe} : (fewF L).length ≤ 14 := by unfold fewF; rw [List.length_map, List.length_take]; omega
theorem few_short {L : List Fe} : ∀ x ∈ fewF L, x.a.length ≤ 60 ∧ x.v.length ≤ 60 := fun x hx => by
  obtain ⟨y, _, rfl⟩ := List.mem_map.1 hx
  refine ⟨?_, ?_⟩ <;> (show (List.take 60 _).length ≤ 60; rw [List.length_take]; omega)
theorem few_shortL {L : List Fe} : shortL (fewF L) := short_of fun x hx => by have := few_short x hx; omega
set_option maxHeartbeats 4000000 in
theorem refMake_c {I : IM} {L : List Fe} {a0 : Option Addr} {c0 : Nat} (h0 : FSl I L (.slice a0 L.length c0)) (hl : L.length ≤ 1000) (hsh : shortL L) : Fun Tryd.prog 16 #[.slice a0 L.length c0] I (fun v J => ∃ a c, v = .tuple #[.slice a (mkF L).length c, .int .i64 ((mkE L : Nat) : Int)] ∧ FSl J (mkF L) (.slice a (mkF L).length c)) := by
 refine enter_rule 27 [(0, .slice a0 L.length c0)] Tryd.func16 rfl (by kernel_rfl) ?_
 intro w s
 refine seqR ?_
 refine oKD [] [] 2 [] 0 (fun φ1 => [(3, .int .i64 0), (2, .slice none 0 0)]) (fun φ1 => []) s (fun φ1 => by kernel_rfl) (by kernel_rfl) ?_
 intro φ1 w1 s
 refine seqR ?_
 refine oKD [] [] 1 [] 0 (fun φ2 => [(4, .slice none 0 0)]) (fun φ2 => []) s (fun φ2 => by kernel_rfl) (by kernel_rfl) ?_
 intro φ2 w2 s
 refine wp_seq ?_
 refine seqR ?_
 refine oKD [] [] 3 [] 0 (fun φ3 => [(10, .int .i64 0), (9, .int .i64 L.length), (8, .slice a0 L.length c0)]) (fun φ3 => []) s (fun φ3 => by kernel_rfl) (by kernel_rfl) ?_
 intro φ3 w3 s
 refine wp_block ?_
 have hle4 := IM.Le.refl I
 refine loop_rule (fun (x : Nat × Option Addr × Nat) => [(0, .slice a0 L.length c0), (2, .slice none 0 0), (3, .int .i64 0), (8, .slice a0 L.length c0), (9, .int .i64 L.length), (10, .int .i64 x.1), (4, .slice x.2.1 (List.length (puts (L.take x.1))) x.2.2)]) (fun (x : Nat × Option Addr × Nat) => []) (fun m (x : Nat × Option Addr × Nat) J => IM.Le I J ∧ x.1 + m = L.length ∧ eRt (L.take x.1) = 0 ∧ FSl J (puts (L.take x.1)) (.slice x.2.1 (List.length (puts (L.take x.1))) x.2.2)) (L.length) (0, none, 0) s (by kernel_rfl) List.Sublist.slnil ⟨IM.Le.refl _, Nat.zero_add _, rfl, (fsl_nil _)⟩ ?_
 rintro m5 ⟨i5, a5, c5⟩ I5 w5 ev5 s ⟨le5, hi5_0, hi5_1, hi5_2⟩
 try dsimp only at s hi5_0 hi5_1 hi5_2 ⊢
 replace h0 := FSl.mono le5 h0
 replace hle4 := leMono le5 hle4
 refine seqR ?_
 refine oK [] [] 1 [] 0 (fun φ6 => [(11, .bool (decide (((i5 : Nat) : Int) < ((L.length : Nat) : Int))))]) (fun φ6 => []) s (fun φ6 => by kernel_rfl) ?_
 intro φ6 w6 s
 rw [nat_lss (a := i5) (b := L.length)]
 refine ops_done (by kernel_rfl) ?_
 refine wp_seq ?_
 rcases Bool.eq_false_or_eq_true (decide (i5 < L.length)) with hc7 | hc7
 ·
  rw [hc7]
  refine cond_true_rule (b := true) (by kernel_rfl) rfl ?_
  refine wp_skip ?_
  refine wp_seq ?_
  refine wp_block ?_
  refine seqR ?_
  refine sem_rule (Instr.indexAt 30 (.slice a0 L.length c0) (.int .i64 i5)) (some 12) (.pointer (pAt a0 (i5 * 3))) (by kernel_rfl) (fsl_idx30 h0 (by have e8 := hi5_0; have hq0 := dT9 hc7; omega)) ?_
  refine sem_rule (Instr.loadAt 42 (.pointer (pAt a0 (i5 * 3)))) (some 13) (.agg #[.int .i64 ((List.getD L i5 Fe.z).k), .string ⟨((List.getD L i5 Fe.z).a).toArray⟩, .string ⟨((List.getD L i5 Fe.z).v).toArray⟩]) (by kernel_rfl) (fsl_ld42 s.sub h0 (by have e8 := hi5_0; have hq0 := dT9 hc7; omega)) ?_
  refine oAD [] [] 2 [.o 0, .o 0, .o 0] 1 (fun φ8 => [(6, pB (φ8 0))]) (fun φ8 => [(φ8 0, .cells #[.int .i64 ((List.getD L i5 Fe.z).k), .string ⟨((List.getD L i5 Fe.z).a).toArray⟩, .string ⟨((List.getD L i5 Fe.z).v).toArray⟩] 42)]) (fun φ8 => [φ8 0, φ8 0, φ8 0]) s (fun φ8 => by kernel_rfl) (by kernel_rfl) ?_
  intro φ8 w8 s
  refine wp_seq ?_
  refine seqR ?_
  refine oK _ [] 1 [.o 0, .o 0, .o 0] 0 (fun φ9 => [(14, .agg #[.int .i64 ((List.getD L i5 Fe.z).k), .string ⟨((List.getD L i5 Fe.z).a).toArray⟩, .string ⟨((List.getD L i5 Fe.z).v).toArray⟩])]) (fun φ9 => [φ8 0, φ8 0, φ8 0]) s (fun φ9 => by kernel_rfl) ?_
  intro φ9 w9 s
  refine call_rule (some 15) s (refRightX_c (x := (List.getD L i5 Fe.z)) (hsh i5 (by have hq0 := dT9 hc7; omega))) (by kernel_rfl) ?_
  intro v10 I10 w10 le10 h10 s
  replace hle4 := leMono le10 hle4
  replace hi5_2 := FSl.mono le10 hi5_2
  obtain rfl := h10
  refine oKD _ [] 1 [] 0 (fun φ11 => [(7, .int .i64 (rtFe (List.getD L i5 Fe.z)))]) (fun φ11 => []) s (fun φ11 => by kernel_rfl) (by kernel_rfl) ?_
  intro φ11 w11 s
  refine seqR ?_
  refine oK _ [] 2 [] 0 (fun φ12 => [(17, .bool (((rtFe (List.getD L i5 Fe.z) : Nat) : Int) != ((0 : Nat) : Int))), (16, .int .i64 (rtFe (List.getD L i5 Fe.z)))]) (fun φ12 => []) s (fun φ12 => by kernel_rfl) ?_
  intro φ12 w12 s
  rw [nat_neq (a := (rtFe (List.getD L i5 Fe.z))) (b := 0)]
  refine ops_done (by kernel_rfl) ?_
  rcases Bool.eq_false_or_eq_true (decide ((rtFe (List.getD L i5 Fe.z)) ≠ 0)) with hc13 | hc13
  ·
   rw [hc13]
   refine cond_true_rule (b := true) (by kernel_rfl) rfl ?_
   refine seqR ?_
   refine oKD _ [] 3 [] 0 (fun φ14 => [(3, .int .i64 (rtFe (List.getD L i5 Fe.z))), (2, .slice none 0 0), (18, .int .i64 (rtFe (List.getD L i5 Fe.z)))]) (fun φ14 => []) s (fun φ14 => by kernel_rfl) (by kernel_rfl) ?_
   intro φ14 w14 s
   refine wp_ret ?_
   refine ret_rule (C := []) _ [] (.tuple #[.slice none 0 0, .int .i64 (rtFe (List.getD L i5 Fe.z))]) [] [] s trivial (by kernel_rfl) ?_
   exact ⟨_, _, _, rfl, s, (mkD_err (by have hq0 := dT9 hc7; have hq1 := dT9 hc13; have := hi5_0; omega) hi5_1 (rt1 hc13))⟩
  ·
   rw [hc13]
   refine cond_false_rule (b := false) (by kernel_rfl) rfl ?_
   refine wp_skip ?_
   refine region_rule ?_
   refine oK _ [] 2 [.o 0, .o 0, .o 0] 0 (fun φ15 => [(20, .agg #[.int .i64 ((List.getD L i5 Fe.z).k), .string ⟨((List.getD L i5 Fe.z).a).toArray⟩, .string ⟨((List.getD L i5 Fe.z).v).toArray⟩]), (19, .slice a5 (List.length (puts (L.take i5))) c5)]) (fun φ15 => [φ8 0, φ8 0, φ8 0]) s (fun φ15 => by kernel_rfl) ?_
   intro φ15 w15 s
   refine call_rule (some 21) s (putL_c hi5_2 hl hsh (by have hq0 := dT9 hc7; have hq1 := dF9 hc13; have e8 := hi5_0; omega)) (by kernel_rfl) ?_
   intro v16 I16 w16 le16 h16 s
   replace hle4 := leMono le16 hle4
   replace hi5_2 := FSl.mono le16 hi5_2
   obtain ⟨a16, c16, rfl, h16_0⟩ := h16
   refine oKD _ [] 1 [] 0 (fun φ17 => [(4, .slice a16 (List.length (puts (L.take (i5 + 1)))) c16)]) (fun φ17 => []) s (fun φ17 => by kernel_rfl) (by kernel_rfl) ?_
   intro φ17 w17 s
   refine region_rule ?_
   refine oK _ [] 2 [] 0 (fun φ18 => [(10, .int .i64 (IntKind.wrap .i64 (((i5 : Nat) : Int) + ((1 : Nat) : Int)))), (22, .int .i64 (IntKind.wrap .i64 (((i5 : Nat) : Int) + ((1 : Nat) : Int))))]) (fun φ18 => []) s (fun φ18 => by kernel_rfl) ?_
   intro φ18 w18 s
   rw [nat_addI (a := i5) (b := 1) (by have e8 := hi5_0; have hq0 := dT9 hc7; have hq1 := dF9 hc13; omega)]
   refine ops_done (by kernel_rfl) ?_
   exact ⟨⟨m5 - 1, (i5 + 1, a16, c16), _, _, _, by have hq0 := dT9 hc7; have hq1 := dF9 hc13; have := hi5_0; omega, rfl, s, (List.Sublist.cons _ List.Sublist.slnil), by kernel_rfl, hle4, by have hq0 := dT9 hc7; have hq1 := dF9 hc13; have := hi5_0; show i5 + 1 + (m5 - 1) = L.length; omega, eRt_next (by have hq0 := dT9 hc7; have hq1 := dF9 hc13; have := hi5_0; omega) hi5_1 (rt0 hc13), h16_0⟩⟩
 ·
  rw [hc7]
  refine cond_false_rule (b := false) (by kernel_rfl) rfl ?_
  refine wp_exit ?_
  refine wp_seq ?_
  refine seqR ?_
  refine oK [] [] 3 [] 0 (fun φ19 => [(25, .bool (decide ((((List.length (puts (L.take i5))) : Nat) : Int) > ((8 : Nat) : Int)))), (24, .int .i64 (((List.length (puts (L.take i5))) : Nat) : Int)), (23, .slice a5 (List.length (puts (L.take i5))) c5)]) (fun φ19 => []) s (fun φ19 => by kernel_rfl) ?_
  intro φ19 w19 s
  rw [nat_gtr (a := (List.length (puts (L.take i5)))) (b := 8)]
  refine ops_done (by kernel_rfl) ?_
  rcases Bool.eq_false_or_eq_true (decide (8 < (List.length (puts (L.take i5))))) with hc20 | hc20
  ·
   rw [hc20]
   refine cond_true_rule (b := true) (by kernel_rfl) rfl ?_
   refine seqR ?_
   refine oKD [] [] 2 [] 0 (fun φ21 => [(3, .int .i64 8), (2, .slice none 0 0)]) (fun φ21 => []) s (fun φ21 => by kernel_rfl) (by kernel_rfl) ?_
   intro φ21 w21 s
   refine wp_ret ?_
   refine ret_rule (C := []) [] [] (.tuple #[.slice none 0 0, .int .i64 8]) [] [] s trivial (by kernel_rfl) ?_
   exact ⟨_, _, _, rfl, s, (mkD_full (by have hq0 := dF9 hc7; have hq1 := dT9 hc20; have := hi5_0; omega) hi5_1 (dT9 hc20))⟩
  ·
   rw [hc20]
   refine cond_false_rule (b := false) (by kernel_rfl) rfl ?_
   refine wp_skip ?_
   refine seqR ?_
   refine oKD [] [] 3 [] 0 (fun φ22 => [(3, .int .i64 0), (2, .slice a5 (List.length (puts (L.take i5))) c5), (26, .slice a5 (List.length (puts (L.take i5))) c5)]) (fun φ22 => []) s (fun φ22 => by kernel_rfl) (by kernel_rfl) ?_
   intro φ22 w22 s
   refine wp_ret ?_
   refine ret_rule (C := []) [] [] (.tuple #[.slice a5 (List.length (puts (L.take i5))) c5, .int .i64 0]) [] [] s trivial (by kernel_rfl) ?_
   exact ⟨_, _, _, rfl, s, (mkD_ok (by have hq0 := dF9 hc7; have hq1 := dF9 hc20; have := hi5_0; omega) hi5_1 (dF9 hc20) hi5_2)⟩

set_option maxHeartbeats 4000000 in
theorem fewP_c {I : IM} {L : List Fe} {a0 : Option Addr} {c0 : Nat} (h0 : FSl I L (.slice a0 L.length c0)) (hl : L.length ≤ 9223372036854775807) : Fun Tryd.prog 43 #[.slice a0 L.length c0] I (fun v J => ∃ a c, v = .slice a (fewF L).length c ∧ FSl J (fewF L) (.slice a (fewF L).length c)) := by
 refine enter_rule 37 [(0, .slice a0 L.length c0)] Tryd.func43 rfl (by kernel_rfl) ?_
 intro w s
 refine seqR ?_
 refine oKD [] [] 1 [] 0 (fun φ1 => [(2, .slice none 0 0)]) (fun φ1 => []) s (fun φ1 => by kernel_rfl) (by kernel_rfl) ?_
 intro φ1 w1 s
 refine seqR ?_
 refine oKD [] [] 1 [] 0 (fun φ2 => [(3, .slice none 0 0)]) (fun φ2 => []) s (fun φ2 => by kernel_rfl) (by kernel_rfl) ?_
 intro φ2 w2 s
 refine wp_seq ?_
 refine seqR ?_
 refine oKD [] [] 3 [] 0 (fun φ3 => [(8, .int .i64 0), (7, .int .i64 L.length), (6, .slice a0 L.length c0)]) (fun φ3 => []) s (fun φ3 => by kernel_rfl) (by kernel_rfl) ?_
 intro φ3 w3 s
 refine wp_block ?_
 have hle4 := IM.Le.refl I
 refine loop_rule (fun (x : Nat × Value × List OB) => [(0, .slice a0 L.length c0), (2, .slice none 0 0), (6, .slice a0 L.length c0), (7, .int .i64 L.length), (8, .int .i64 x.1), (3, x.2.1)]) (fun (x : Nat × Value × List OB) => [] ++ x.2.2) (fun m (x : Nat × Value × List OB) J => IM.Le I J ∧ x.1 + m = L.length ∧ RowH 39 3 x.2.1 (List.length (fewF (L.take x.1))) (fcs (fewF (L.take x.1))) x.2.2) (L.length) (0, (.slice none 0 0), []) s (by kernel_rfl) (List.Sublist.refl _) ⟨IM.Le.refl _, Nat.zero_add _, (RowH.nil 39 3)⟩ ?_
 rintro m5 ⟨i5, v5, F5⟩ I5 w5 ev5 s ⟨le5, hi5_0, hi5_1⟩
 try dsimp only at s hi5_0 hi5_1 ⊢
 replace h0 := FSl.mono le5 h0
 replace hle4 := leMono le5 hle4
 refine seqR ?_
 refine oK [] F5 1 [] 0 (fun φ6 => [(9, .bool (decide (((i5 : Nat) : Int) < ((L.length : Nat) : Int))))]) (fun φ6 => []) s (fun φ6 => by kernel_rfl) ?_
 intro φ6 w6 s
 rw [nat_lss (a := i5) (b := L.length)]
 refine ops_done (by kernel_rfl) ?_
 refine wp_seq ?_
 rcases Bool.eq_false_or_eq_true (decide (i5 < L.length)) with hc7 | hc7
 ·
  rw [hc7]
  refine cond_true_rule (b := true) (by kernel_rfl) rfl ?_
  refine wp_skip ?_
  refine wp_seq ?_
  refine wp_block ?_
  refine seqR ?_
  refine oK [] F5 1 [] 0 (fun φ8 => [(10, .int .i64 i5)]) (fun φ8 => []) s (fun φ8 => by kernel_rfl) ?_
  intro φ8 w8 s
  refine sem_rule (Instr.indexAt 22 (.slice a0 L.length c0) (.int .i64 i5)) (some 11) (.pointer (pAt a0 (i5 * 3))) (by kernel_rfl) (fsl_idx22 h0 (by have e8 := hi5_0; have hq0 := dT9 hc7; omega)) ?_
  refine sem_rule (Instr.loadAt 39 (.pointer (pAt a0 (i5 * 3)))) (some 12) (.agg #[.int .i64 ((List.getD L i5 Fe.z).k), .string ⟨((List.getD L i5 Fe.z).a).toArray⟩, .string ⟨((List.getD L i5 Fe.z).v).toArray⟩]) (by kernel_rfl) (fsl_ld39 s.sub h0 (by have e8 := hi5_0; have hq0 := dT9 hc7; omega)) ?_
  refine oAD [] F5 3 [.o 0, .o 0, .o 0] 1 (fun φ9 => [(4, .int .i64 i5), (5, pB (φ9 0))]) (fun φ9 => [(φ9 0, .cells #[.int .i64 ((List.getD L i5 Fe.z).k), .string ⟨((List.getD L i5 Fe.z).a).toArray⟩, .string ⟨((List.getD L i5 Fe.z).v).toArray⟩] 39)]) (fun φ9 => [φ9 0, φ9 0, φ9 0]) s (fun φ9 => by kernel_rfl) (by kernel_rfl) ?_
  intro φ9 w9 s
  refine seqR ?_
  refine oK _ F5 2 [] 0 (fun φ10 => [(14, .bool (decide (((i5 : Nat) : Int) < ((14 : Nat) : Int)))), (13, .int .i64 i5)]) (fun φ10 => []) s (fun φ10 => by kernel_rfl) ?_
  intro φ10 w10 s
  rw [nat_lss (a := i5) (b := 14)]
  refine ops_done (by kernel_rfl) ?_
  rcases Bool.eq_false_or_eq_true (decide (i5 < 14)) with hc11 | hc11
  ·
   rw [hc11]
   refine cond_true_rule (b := true) (by kernel_rfl) rfl ?_
   refine wp_seq ?_
   refine drawK_rule (C := []) ⟨(fun φ12 xs12 => [.look 0 [] [], .look 0 [.o 0] [(φ9 0)], .look 0 [] [], .look 0 [.o 0] [(φ9 0)], .look 0 [] [], .sub 0 [] [] (.int .i64 (if ((60 : Nat) : Int) < ((((List.getD L i5 Fe.z).a).length : Nat) : Int) then ((60 : Nat) : Int) else ((((List.getD L i5 Fe.z).a).length : Nat) : Int))), .ran (Instr.sliceAt 9 (.string ⟨((List.getD L i5 Fe.z).a).toArray⟩) none (some (.int .i64 ((min (((List.getD L i5 Fe.z).a).length) 60 : Nat) : Int))) none), .look 0 [] [], .look 0 [.o 0] [(φ9 0)], .look 0 [] [], .look 0 [.o 0] [(φ9 0)], .look 0 [] [], .sub 0 [] [] (.int .i64 (if ((60 : Nat) : Int) < ((((List.getD L i5 Fe.z).v).length : Nat) : Int) then ((60 : Nat) : Int) else ((((List.getD L i5 Fe.z).v).length : Nat) : Int))), .ran (Instr.sliceAt 9 (.string ⟨((List.getD L i5 Fe.z).v).toArray⟩) none (some (.int .i64 ((min (((List.getD L i5 Fe.z).v).length) 60 : Nat) : Int))) none), .look 0 [] [], .store 0 [.o 0] [(φ9 0)], .look 1 [] [], .store 1 [.o 0] [(φ9 0)]]), (fun φ12 xs12 => [.pointer (some ⟨(φ9 0), 1, none⟩), .string ⟨((List.getD L i5 Fe.z).a).toArray⟩, .pointer (some ⟨(φ9 0), 1, none⟩), .string ⟨((List.getD L i5 Fe.z).a).toArray⟩, .int .i64 ((((List.getD L i5 Fe.z).a).length : Nat) : Int), .int .i64 ((min (((List.getD L i5 Fe.z).a).length) 60 : Nat) : Int), .string ⟨((((List.getD L i5 Fe.z).a).take (min (((List.getD L i5 Fe.z).a).length) 60))).toArray⟩, .pointer (some ⟨(φ9 0), 2, none⟩), .string ⟨((List.getD L i5 Fe.z).v).toArray⟩, .pointer (some ⟨(φ9 0), 2, none⟩), .string ⟨((List.getD L i5 Fe.z).v).toArray⟩, .int .i64 ((((List.getD L i5 Fe.z).v).length : Nat) : Int), .int .i64 ((min (((List.getD L i5 Fe.z).v).length) 60 : Nat) : Int), .string ⟨((((List.getD L i5 Fe.z).v).take (min (((List.getD L i5 Fe.z).v).length) 60))).toArray⟩, .pointer (some ⟨(φ9 0), 1, none⟩), undef, .pointer (some ⟨(φ9 0), 2, none⟩), undef]), (fun φ12 xs12 => [[(φ9 0, .cells #[.int .i64 ((List.getD L i5 Fe.z).k), .string ⟨((List.getD L i5 Fe.z).a).toArray⟩, .string ⟨((List.getD L i5 Fe.z).v).toArray⟩] 39)], [(φ9 0, .cells #[.int .i64 ((List.getD L i5 Fe.z).k), .string ⟨((((List.getD L i5 Fe.z).a).take (min (((List.getD L i5 Fe.z).a).length) 60))).toArray⟩, .string ⟨((List.getD L i5 Fe.z).v).toArray⟩] 39)], [(φ9 0, .cells #[.int .i64 ((List.getD L i5 Fe.z).k), .string ⟨((((List.getD L i5 Fe.z).a).take (min (((List.getD L i5 Fe.z).a).length) 60))).toArray⟩, .string ⟨((((List.getD L i5 Fe.z).v).take (min (((List.getD L i5 Fe.z).v).length) 60))).toArray⟩] 39)]]), (fun φ12 xs12 => [[default, default, default, default, default, default, default, default, default, default, default, default, default, default, default, default, default, default], [default, default, default, default, default, default, default, default, default, default, default, default, default, default, default, default, default, default], [default, default, default, default, default, default, default, default, default, default, default, default, default, default, default, default, default, default]]), [15, 17], [1, 1, 1, 1, 1, 5, 6, 1, 1, 1, 1, 1, 5, 6, 1, 4, 1, 4]⟩ (fun j => ([MP.any] : List MP).getD j MP.any) F5 [] [5, 12] [6, 13] (fun φ12 xs12 => [[none, none, none, none, none, none, none, none, none, none, none, none, none, none, none, none, none, none], [none, none, none, none, none, none, none, none, none, none, none, none, none, none, none, none, none, none]]) (fun φ12 xs12 => [(15, .pointer (some ⟨(φ9 0), 1, none⟩)), (16, .string ⟨((List.getD L i5 Fe.z).a).toArray⟩), (17, .pointer (some ⟨(φ9 0), 1, none⟩)), (18, .string ⟨((List.getD L i5 Fe.z).a).toArray⟩), (19, .int .i64 ((((List.getD L i5 Fe.z).a).length : Nat) : Int)), (20, .int .i64 ((min (((List.getD L i5 Fe.z).a).length) 60 : Nat) : Int)), (21, .string ⟨((((List.getD L i5 Fe.z).a).take (min (((List.getD L i5 Fe.z).a).length) 60))).toArray⟩), (22, .pointer (some ⟨(φ9 0), 2, none⟩)), (23, .string ⟨((List.getD L i5 Fe.z).v).toArray⟩), (24, .pointer (some ⟨(φ9 0), 2, none⟩)), (25, .string ⟨((List.getD L i5 Fe.z).v).toArray⟩), (26, .int .i64 ((((List.getD L i5 Fe.z).v).length : Nat) : Int)), (27, .int .i64 ((min (((List.getD L i5 Fe.z).v).length) 60 : Nat) : Int)), (28, .string ⟨((((List.getD L i5 Fe.z).v).take (min (((List.getD L i5 Fe.z).v).length) 60))).toArray⟩), (29, .pointer (some ⟨(φ9 0), 1, none⟩)), (30, .pointer (some ⟨(φ9 0), 2, none⟩))]) (fun φ12 xs12 => [(φ9 0, .cells #[.int .i64 ((List.getD L i5 Fe.z).k), .string ⟨((((List.getD L i5 Fe.z).a).take (min (((List.getD L i5 Fe.z).a).length) 60))).toArray⟩, .string ⟨((((List.getD L i5 Fe.z).v).take (min (((List.getD L i5 Fe.z).v).length) 60))).toArray⟩] 39)]) s trivial (by kernel_rfl) (by kernel_rfl) (fun _ _ => by kernel_rfl) (fun _ _ => by kernel_rfl) ⟨fun _ _ => by kernel_rfl, fun _ _ => by kernel_rfl, fun _ _ => by kernel_rfl, fun _ _ => by kernel_rfl⟩ (fun _ _ _ => by kernel_rfl) (fun _ _ => by kernel_rfl) (fun _ _ => by kernel_rfl) (fun _ _ => by kernel_rfl) (fun _ _ => by kernel_rfl) (fun _ _ => by kernel_rfl) ⟨kcast (A := ∀ (φ12 : Nat → Nat) (xs12 : Xs), (.int .i64 (if ((60 : Nat) : Int) < ((((List.getD L i5 Fe.z).a).length : Nat) : Int) then ((60 : Nat) : Int) else ((((List.getD L i5 Fe.z).a).length : Nat) : Int)) : Value) = .int .i64 ((min (((List.getD L i5 Fe.z).a).length) 60 : Nat) : Int)) (by kernel_rfl) (fun φ12 xs12 => congrArg (Value.int .i64) ((nat_min (a := (((List.getD L i5 Fe.z).a).length)) (b := 60)))), ⟨kcast (A := ∀ (φ12 : Nat → Nat) (xs12 : Xs), (.int .i64 (if ((60 : Nat) : Int) < ((((List.getD L i5 Fe.z).v).length : Nat) : Int) then ((60 : Nat) : Int) else ((((List.getD L i5 Fe.z).v).length : Nat) : Int)) : Value) = .int .i64 ((min (((List.getD L i5 Fe.z).v).length) 60 : Nat) : Int)) (by kernel_rfl) (fun φ12 xs12 => congrArg (Value.int .i64) ((nat_min (a := (((List.getD L i5 Fe.z).v).length)) (b := 60)))), trivial⟩⟩ ⟨kcast (A := ∀ (φ12 : Nat → Nat) (xs12 : Xs) (J : IM) (w : World), I5.Le J → J.Sub w → ((Instr.sliceAt 9 (.string ⟨((List.getD L i5 Fe.z).a).toArray⟩) none (some (.int .i64 ((min (((List.getD L i5 Fe.z).a).length) 60 : Nat) : Int))) none) : Sem Value).run Tryd.prog w = .ok (.string ⟨((((List.getD L i5 Fe.z).a).take (min (((List.getD L i5 Fe.z).a).length) 60))).toArray⟩) w) (by kernel_rfl) (fun φ12 xs12 J w hJ hS => Tx.run_takeS (s := (List.getD L i5 Fe.z).a) (hi := min (((List.getD L i5 Fe.z).a).length) 60) (by omega)), ⟨kcast (A := ∀ (φ12 : Nat → Nat) (xs12 : Xs) (J : IM) (w : World), I5.Le J → J.Sub w → ((Instr.sliceAt 9 (.string ⟨((List.getD L i5 Fe.z).v).toArray⟩) none (some (.int .i64 ((min (((List.getD L i5 Fe.z).v).length) 60 : Nat) : Int))) none) : Sem Value).run Tryd.prog w = .ok (.string ⟨((((List.getD L i5 Fe.z).v).take (min (((List.getD L i5 Fe.z).v).length) 60))).toArray⟩) w) (by kernel_rfl) (fun φ12 xs12 J w hJ hS => Tx.run_takeS (s := (List.getD L i5 Fe.z).v) (hi := min (((List.getD L i5 Fe.z).v).length) 60) (by omega)), trivial⟩⟩ (by kernel_rfl) trivial ?k12
   case k12 =>
    rintro φ12 xs12 I12 w12 le12 s 
    replace hle4 := leMono le12 hle4
    refine region_rule ?_
    refine oA _ F5 3 [.o 0, .o 0, .o 0] 1 (fun φ13 => [(33, .slice (some ⟨(φ13 0), 0, none⟩) 1 1), (32, .agg #[.int .i64 ((List.getD L i5 Fe.z).k), .string ⟨((((List.getD L i5 Fe.z).a).take (min (((List.getD L i5 Fe.z).a).length) 60))).toArray⟩, .string ⟨((((List.getD L i5 Fe.z).v).take (min (((List.getD L i5 Fe.z).v).length) 60))).toArray⟩]), (31, v5)]) (fun φ13 => [(φ9 0, .cells #[.int .i64 ((List.getD L i5 Fe.z).k), .string ⟨((((List.getD L i5 Fe.z).a).take (min (((List.getD L i5 Fe.z).a).length) 60))).toArray⟩, .string ⟨((((List.getD L i5 Fe.z).v).take (min (((List.getD L i5 Fe.z).v).length) 60))).toArray⟩] 39), (φ13 0, .cells #[.int .i64 ((List.getD L i5 Fe.z).k), .string ⟨((((List.getD L i5 Fe.z).a).take (min (((List.getD L i5 Fe.z).a).length) 60))).toArray⟩, .string ⟨((((List.getD L i5 Fe.z).v).take (min (((List.getD L i5 Fe.z).v).length) 60))).toArray⟩] 39)]) (fun φ13 => [φ9 0, φ9 0, φ9 0]) s (fun φ13 => by kernel_rfl) ?_
    intro φ13 w13 s
    have hb14 : (List.length (fewF (L.take i5))) ≤ 100000 := (Nat.le_trans few_len (by decide))
    refine append_rule (H := [(φ9 0, .cells #[.int .i64 ((List.getD L i5 Fe.z).k), .string ⟨((((List.getD L i5 Fe.z).a).take (min (((List.getD L i5 Fe.z).a).length) 60))).toArray⟩, .string ⟨((((List.getD L i5 Fe.z).v).take (min (((List.getD L i5 Fe.z).v).length) 60))).toArray⟩] 39), (φ13 0, .cells #[.int .i64 ((List.getD L i5 Fe.z).k), .string ⟨((((List.getD L i5 Fe.z).a).take (min (((List.getD L i5 Fe.z).a).length) 60))).toArray⟩, .string ⟨((((List.getD L i5 Fe.z).v).take (min (((List.getD L i5 Fe.z).v).length) 60))).toArray⟩] 39)]) (F := F5) 22 22 39 Tryd.t39 (.agg #[.int .i64 0, .string ⟨#[]⟩, .string ⟨#[]⟩]) 3 40 (some 34) s Tryd.underlying22 (by kernel_rfl) (by kernel_rfl) (by kernel_rfl) (by kernel_rfl) (by kernel_rfl) (by decide) hi5_1 (src_own s 1 (φ13 0) #[.int .i64 ((List.getD L i5 Fe.z).k), .string ⟨((((List.getD L i5 Fe.z).a).take (min (((List.getD L i5 Fe.z).a).length) 60))).toArray⟩, .string ⟨((((List.getD L i5 Fe.z).v).take (min (((List.getD L i5 Fe.z).v).length) 60))).toArray⟩] 39 22 39 1 1 3 [.int .i64 ((List.getD L i5 Fe.z).k), .string ⟨((((List.getD L i5 Fe.z).a).take (min (((List.getD L i5 Fe.z).a).length) 60))).toArray⟩, .string ⟨((((List.getD L i5 Fe.z).v).take (min (((List.getD L i5 Fe.z).v).length) 60))).toArray⟩] (by kernel_rfl) Tryd.underlying22 (by kernel_rfl) (by kernel_rfl) (by kernel_rfl)) (by simp only [maxLen]; omega) (by omega) (by kernel_rfl) ?_
    intro v14 w14 F14 s h14
    replace h14 : RowH 39 3 v14 (List.length ((fewF (L.take i5)) ++ [(⟨(List.getD L i5 Fe.z).k, (((List.getD L i5 Fe.z).a).take (min (((List.getD L i5 Fe.z).a).length) 60)), (((List.getD L i5 Fe.z).v).take (min (((List.getD L i5 Fe.z).v).length) 60))⟩ : Fe)])) (fcs ((fewF (L.take i5)) ++ [(⟨(List.getD L i5 Fe.z).k, (((List.getD L i5 Fe.z).a).take (min (((List.getD L i5 Fe.z).a).length) 60)), (((List.getD L i5 Fe.z).v).take (min (((List.getD L i5 Fe.z).v).length) 60))⟩ : Fe)])) F14 := row39_snoc (Fs := (fewF (L.take i5))) (x := (⟨(List.getD L i5 Fe.z).k, (((List.getD L i5 Fe.z).a).take (min (((List.getD L i5 Fe.z).a).length) 60)), (((List.getD L i5 Fe.z).v).take (min (((List.getD L i5 Fe.z).v).length) 60))⟩ : Fe)) h14 rfl
    refine oKD _ F14 1 [] 0 (fun φ15 => [(3, v14)]) (fun φ15 => []) s (fun φ15 => by kernel_rfl) (by kernel_rfl) ?_
    intro φ15 w15 s
    refine region_rule ?_
    refine oK _ F14 2 [] 0 (fun φ16 => [(8, .int .i64 (IntKind.wrap .i64 (((i5 : Nat) : Int) + ((1 : Nat) : Int)))), (35, .int .i64 (IntKind.wrap .i64 (((i5 : Nat) : Int) + ((1 : Nat) : Int))))]) (fun φ16 => []) s (fun φ16 => by kernel_rfl) ?_
    intro φ16 w16 s
    rw [nat_addI (a := i5) (b := 1) (by have e8 := hi5_0; have hq0 := dT9 hc7; have hq1 := dT9 hc11; omega)]
    refine ops_done (by kernel_rfl) ?_
    exact ⟨⟨m5 - 1, (i5 + 1, v14, F14), _, _, _, by have hq0 := dT9 hc7; have hq1 := dT9 hc11; have := hi5_0; omega, rfl, s, (List.Sublist.append (List.Sublist.cons _ (List.Sublist.cons _ List.Sublist.slnil)) (List.Sublist.refl _)), by kernel_rfl, hle4, by have hq0 := dT9 hc7; have hq1 := dT9 hc11; have := hi5_0; show i5 + 1 + (m5 - 1) = L.length; omega, (row_eq39 (few_next (by have hq0 := dT9 hc7; have hq1 := dT9 hc11; have := hi5_0; omega) (dT9 hc11)) h14)⟩⟩
  ·
   rw [hc11]
   refine cond_false_rule (b := false) (by kernel_rfl) rfl ?_
   refine wp_skip ?_
   refine region_rule ?_
   refine oK _ F5 2 [] 0 (fun φ17 => [(8, .int .i64 (IntKind.wrap .i64 (((i5 : Nat) : Int) + ((1 : Nat) : Int)))), (35, .int .i64 (IntKind.wrap .i64 (((i5 : Nat) : Int) + ((1 : Nat) : Int))))]) (fun φ17 => []) s (fun φ17 => by kernel_rfl) ?_
   intro φ17 w17 s
   rw [nat_addI (a := i5) (b := 1) (by have e8 := hi5_0; have hq0 := dT9 hc7; have hq1 := dF9 hc11; omega)]
   refine ops_done (by kernel_rfl) ?_
   exact ⟨⟨m5 - 1, (i5 + 1, v5, F5), _, _, _, by have hq0 := dT9 hc7; have hq1 := dF9 hc11; have := hi5_0; omega, rfl, s, (List.Sublist.append (List.Sublist.cons _ List.Sublist.slnil) (List.Sublist.refl _)), by kernel_rfl, hle4, by have hq0 := dT9 hc7; have hq1 := dF9 hc11; have := hi5_0; show i5 + 1 + (m5 - 1) = L.length; omega, (row_eq39 (few_past (by have hq0 := dT9 hc7; have hq1 := dF9 hc11; have := hi5_0; omega) (dF9 hc11)) hi5_1)⟩⟩
 ·
  rw [hc7]
  refine cond_false_rule (b := false) (by kernel_rfl) rfl ?_
  refine wp_exit ?_
  refine wp_seq ?_
  have hr18 := row_eq39 (by have ei : i5 = L.length := (by have hq0 := dF9 hc7; have := hi5_0; omega); rw [ei, List.take_length]) hi5_1
  obtain ⟨J18, le18, hk18, s⟩ := freeze_row39 (H := []) (F := F5) s hr18
  obtain ⟨a18, c18, hv18, -, hk18⟩ := hk18.open
  subst hv18
  refine region_rule ?_
  refine oKD [] [] 2 [] 0 (fun φ19 => [(2, .slice a18 (List.length (fewF L)) c18), (36, .slice a18 (List.length (fewF L)) c18)]) (fun φ19 => []) s (fun φ19 => by kernel_rfl) (by kernel_rfl) ?_
  intro φ19 w19 s
  refine wp_ret ?_
  refine ret_rule (C := []) [] [] (.slice a18 (List.length (fewF L)) c18) [] [] s trivial (by kernel_rfl) ?_
  exact ⟨_, _, _, rfl, s, ⟨_, _, rfl, hk18⟩⟩

end Go.Proofs.YtcpmjogeafhpnaaDoor
/- What is made of a few; fields compared, found. -/
set_option linter.all false
set_option maxRecDepth 100000
namespace Go.Proofs.YtcpmjogeafhpnaaDoor
open Go.RowKit Go.Sep
attribute [local irreducible] Go.wpList Go.Code.wp

def stepS (acc : List Fe) (x : Fe) : List Fe := if rtFe x = 0 ∧ acc.length < 8 then acc ++ [x] else acc
/-- up to as many as may be, of those that may be -/
def someF (M : List Fe) : List Fe := M.foldl stepS []
def madeF (L : List Fe) : List Fe := puts (someF (fewF L))
theorem some_take {M : List Fe} {i : Nat} (hi : i < M.length) : someF (M.take (i + 1)) = stepS (someF (M.take i)) (M.getD i Fe.z) := by
  unfold someF
  rw [fe_take hi, List.foldl_append]; rfl
theorem some_yes {M : List Fe} {i : Nat} (hi : i < M.length) (h1 : rtFe (M.getD i Fe.z) = 0) (h2 : (someF (M.take i)).length < 8) : someF (M.take i) ++ [M.getD i Fe.z] = someF (M.take (i + 1)) := by
  rw [some_take hi]; unfold stepS; rw [if_pos ⟨h1, h2⟩]
theorem some_no {M : List Fe} {i : Nat} (hi : i < M.length) (h : ¬ (rtFe (M.getD i Fe.z) = 0 ∧ (someF (M.take i)).length < 8)) : someF (M.take i) = someF (M.take (i + 1)) := by
  rw [some_take hi]; unfold stepS; rw [if_neg h]
theorem some_props : ∀ (M acc : List Fe), acc.length ≤ 8 → (∀ x ∈ acc, rtFe x = 0) → (M.foldl stepS acc).length ≤ 8 ∧ ∀ x ∈ M.foldl stepS acc, rtFe x = 0 ∧ (x ∈ M ∨ x ∈ acc)
  | [], acc, h1, h2 => ⟨h1, fun x hx => ⟨h2 x hx, .inr hx⟩⟩
  | y :: M, acc, h1, h2 => by
    have key : (stepS acc y).length ≤ 8 ∧ ∀ x ∈ stepS acc y, rtFe x = 0 ∧ (x = y ∨ x ∈ acc) := by
      unfold stepS; split
      · rename_i h
        refine ⟨by rw [List.length_append]; simp; omega, fun x hx => ?_⟩
        rcases List.mem_append.1 hx with q | q
        · exact ⟨h2 x q, .inr q⟩
        · simp at q; subst q; exact ⟨h.1, .inl rfl⟩
      · exact ⟨h1, fun x hx => ⟨h2 x hx, .inr hx⟩⟩
    obtain ⟨q1, q2⟩ := some_props M (stepS acc y) key.1 (fun x hx => (key.2 x hx).1)
    refine ⟨q1, fun x hx => ?_⟩
    obtain ⟨r1, r2⟩ := q2 x hx
    refine ⟨r1, ?_⟩
    rcases r2 with r2 | r2
    · exact .inl (List.mem_cons_of_mem _ r2)
    · rcases (key.2 x r2).2 with rfl | r3
      · exact .inl (by simp)
      · exact .inr r3
theorem some_len {M : List Fe} : (someF M).length ≤ 8 := (some_props M [] (Nat.zero_le _) (fun x h => by simp at h)).1
theorem some_rt {M : List Fe} {x : Fe} (h : x ∈ someF M) : rtFe x = 0 := ((some_props M [] (Nat.zero_le _) (fun x h => by simp at h)).2 x h).1
theorem some_mem {M : List Fe} {x : Fe} (h : x ∈ someF M) : x ∈ M := by
  have := ((some_props M [] (Nat.zero_le _) (fun x h => by simp at h)).2 x h).2
  simpa using this
theorem some_short {L : List Fe} : shortL (someF (fewF L)) := short_of fun x hx => by have := few_short x (some_mem hx); omega
theorem mkF_right {L : List Fe} (h1 : ∀ x ∈ L, rtFe x = 0) (h2 : (puts L).length ≤ 8) : mkF L = puts L ∧ mkE L = 0 := by
  have e := eRt_of h1
  exact ⟨(if_pos e).trans (if_pos h2), (if_pos e).trans (if_pos h2)⟩
theorem mk_some {L : List Fe} : mkF (someF (fewF L)) = madeF L ∧ mkE (someF (fewF L)) = 0 :=
  mkF_right (fun x hx => some_rt hx) (Nat.le_trans (puts_len _) some_len)
theorem made_len {L : List Fe} : (madeF L).length ≤ 8 := Nat.le_trans (puts_len _) some_len
theorem made_rt {L : List Fe} {x : Fe} (h : x ∈ madeF L) : rtFe x = 0 := some_rt (mem_puts.1 h)
theorem made_mem {L : List Fe} {x : Fe} (h : x ∈ madeF L) : x.a.length ≤ 60 ∧ x.v.length ≤ 60 := few_short x (some_mem (mem_puts.1 h))
theorem made_asc (L : List Fe) : asc (madeF L) := asc_puts _
theorem eq_lists : ∀ {L M : List Fe}, L.length = M.length → (∀ j, j < L.length → L.getD j Fe.z = M.getD j Fe.z) → L = M
  | [], [], _, _ => rfl
  | [], _ :: _, h, _ => by simp at h
  | _ :: _, [], h, _ => by simp at h
  | x :: L, y :: M, h, hj => by
    have h0 := hj 0 (by simp)
    simp only [List.getD_cons_zero] at h0
    have := eq_lists (L := L) (M := M) (by simpa using h) (fun j q => by have := hj (j + 1) (by simpa using q); simpa using this)
    rw [h0, this]
theorem eq_next {L M : List Fe} {i : Nat} (h : ∀ j, j < i → L.getD j Fe.z = M.getD j Fe.z) (hi : L.getD i Fe.z = M.getD i Fe.z) : ∀ j, j < i + 1 → L.getD j Fe.z = M.getD j Fe.z := fun j hj => by
  by_cases e : j = i
  · subst e; exact hi
  · exact h j (by omega)
theorem getD_mem {L : List Fe} {i : Nat} (hi : i < L.length) : L.getD i Fe.z ∈ L := by simp [hi]

theorem row_val {v : Value} {n : Nat} {xs : List Value} {F : List OB} {e sz : Nat} (h : RowH e sz v n xs F) : ∃ a c, v = .slice a n c := by
  rcases h.2 with ⟨h1, h2, _⟩ | ⟨g, cap, cur, h1, _⟩
  · exact ⟨none, 0, by rw [h1, h2]⟩
  · exact ⟨_, _, h1⟩
theorem makeS_c {I : IM} {L : List Fe} {a0 : Option Addr} {c0 : Nat} (h0 : FSl I (someF (fewF L)) (.slice a0 (someF (fewF L)).length c0)) (hN : Tx.NmT I) (hT : Tx.U8 I) : Fun Tryd.prog 15 #[.slice a0 (someF (fewF L)).length c0] I (fun v J => ∃ a c, v = .tuple #[.agg #[.slice a (madeF L).length c], .int .i64 0] ∧ FSl J (madeF L) (.slice a (madeF L).length c)) := by
  have q := make_c h0 (Nat.le_trans some_len (by decide)) hN hT some_short
  rw [mk_some.1, mk_some.2] at q; exact q
theorem refMakeS_c {I : IM} {L : List Fe} {a0 : Option Addr} {c0 : Nat} (h0 : FSl I (someF (fewF L)) (.slice a0 (someF (fewF L)).length c0)) : Fun Tryd.prog 16 #[.slice a0 (someF (fewF L)).length c0] I (fun v J => ∃ a c, v = .tuple #[.slice a (madeF L).length c, .int .i64 0] ∧ FSl J (madeF L) (.slice a (madeF L).length c)) := by
  have q := refMake_c h0 (Nat.le_trans some_len (by decide)) some_short
  rw [mk_some.1, mk_some.2] at q; exact q
set_option maxHeartbeats 4000000 in
theorem madeP_c {I : IM} {L : List Fe} {a0 : Option Addr} {c0 : Nat} (h0 : FSl I L (.slice a0 L.length c0)) (hl : L.length ≤ 9223372036854775807) (hN : Tx.NmT I) (hT : Tx.U8 I) : Fun Tryd.prog 49 #[.slice a0 L.length c0] I (fun v J => ∃ a c a' c', v = .tuple #[.agg #[.slice a (madeF L).length c], .slice a' (madeF L).length c'] ∧ FSl J (madeF L) (.slice a (madeF L).length c) ∧ FSl J (madeF L) (.slice a' (madeF L).length c')) := by
 refine enter_rule 44 [(0, .slice a0 L.length c0)] Tryd.func49 rfl (by kernel_rfl) ?_
 intro w s
 refine seqR ?_
 refine oAD [] [] 2 [] 1 (fun φ1 => [(3, .slice none 0 0), (2, pB (φ1 0))]) (fun φ1 => [(φ1 0, .cells #[.slice none 0 0] 26)]) (fun φ1 => []) s (fun φ1 => by kernel_rfl) (by kernel_rfl) ?_
 intro φ1 w1 s
 refine seqR ?_
 refine oKD _ [] 1 [] 0 (fun φ2 => [(4, .slice none 0 0)]) (fun φ2 => []) s (fun φ2 => by kernel_rfl) (by kernel_rfl) ?_
 intro φ2 w2 s
 refine wp_seq ?_
 refine seqR ?_
 refine oK _ [] 1 [] 0 (fun φ3 => [(11, .slice a0 L.length c0)]) (fun φ3 => []) s (fun φ3 => by kernel_rfl) ?_
 intro φ3 w3 s
 refine call_rule (some 12) s (fewP_c h0 hl) (by kernel_rfl) ?_
 intro v4 I4 w4 le4 h4 s
 replace hN := Tx.NmT.mono le4 hN
 replace hT := Tx.U8.mono le4 hT
 obtain ⟨a4, c4, rfl, h4_0⟩ := h4
 refine oKD _ [] 2 [] 0 (fun φ5 => [(14, .int .i64 0), (13, .int .i64 (((List.length (fewF L)) : Nat) : Int))]) (fun φ5 => []) s (fun φ5 => by kernel_rfl) (by kernel_rfl) ?_
 intro φ5 w5 s
 refine wp_block ?_
 have hle6 := IM.Le.refl I4
 refine loop_rule (fun (x : Nat × Value × List OB) => [(0, .slice a0 L.length c0), (2, pB (φ1 0)), (3, .slice none 0 0), (12, .slice a4 (List.length (fewF L)) c4), (13, .int .i64 (((List.length (fewF L)) : Nat) : Int)), (14, .int .i64 x.1), (4, x.2.1)]) (fun (x : Nat × Value × List OB) => [(φ1 0, .cells #[.slice none 0 0] 26)] ++ x.2.2) (fun m (x : Nat × Value × List OB) J => IM.Le I4 J ∧ x.1 + m = (fewF L).length ∧ RowH 39 3 x.2.1 (List.length (someF ((fewF L).take x.1))) (fcs (someF ((fewF L).take x.1))) x.2.2) ((fewF L).length) (0, (.slice none 0 0), []) s (by kernel_rfl) (List.Sublist.refl _) ⟨IM.Le.refl _, Nat.zero_add _, (RowH.nil 39 3)⟩ ?_
 rintro m7 ⟨i7, v7, F7⟩ I7 w7 ev7 s ⟨le7, hi7_0, hi7_1⟩
 try dsimp only at s hi7_0 hi7_1 ⊢
 replace hN := Tx.NmT.mono le7 hN
 replace hT := Tx.U8.mono le7 hT
 replace h4_0 := FSl.mono le7 h4_0
 replace hle6 := leMono le7 hle6
 obtain ⟨a8, c8, hv8⟩ := row_val hi7_1
 subst hv8
 refine seqR ?_
 refine oK _ F7 1 [] 0 (fun φ9 => [(15, .bool (decide (((i7 : Nat) : Int) < (((List.length (fewF L)) : Nat) : Int))))]) (fun φ9 => []) s (fun φ9 => by kernel_rfl) ?_
 intro φ9 w9 s
 rw [nat_lss (a := i7) (b := (List.length (fewF L)))]
 refine ops_done (by kernel_rfl) ?_
 refine wp_seq ?_
 rcases Bool.eq_false_or_eq_true (decide (i7 < (List.length (fewF L)))) with hc10 | hc10
 ·
  rw [hc10]
  refine cond_true_rule (b := true) (by kernel_rfl) rfl ?_
  refine wp_skip ?_
  refine wp_seq ?_
  refine wp_block ?_
  refine seqR ?_
  refine sem_rule (Instr.indexAt 22 (.slice a4 (List.length (fewF L)) c4) (.int .i64 i7)) (some 16) (.pointer (pAt a4 (i7 * 3))) (by kernel_rfl) (fsl_idx22 h4_0 (by have e8 := hi7_0; have e7 := few_len (L := L); have hq0 := dT9 hc10; omega)) ?_
  refine sem_rule (Instr.loadAt 39 (.pointer (pAt a4 (i7 * 3)))) (some 17) (.agg #[.int .i64 ((List.getD (fewF L) i7 Fe.z).k), .string ⟨((List.getD (fewF L) i7 Fe.z).a).toArray⟩, .string ⟨((List.getD (fewF L) i7 Fe.z).v).toArray⟩]) (by kernel_rfl) (fsl_ld39 s.sub h4_0 (by have e8 := hi7_0; have e7 := few_len (L := L); have hq0 := dT9 hc10; omega)) ?_
  refine oAD _ F7 2 [.o 1, .o 1, .o 1] 1 (fun φ11 => [(6, pB (φ11 0))]) (fun φ11 => [(φ1 0, .cells #[.slice none 0 0] 26), (φ11 0, .cells #[.int .i64 ((List.getD (fewF L) i7 Fe.z).k), .string ⟨((List.getD (fewF L) i7 Fe.z).a).toArray⟩, .string ⟨((List.getD (fewF L) i7 Fe.z).v).toArray⟩] 39)]) (fun φ11 => [φ11 0, φ11 0, φ11 0]) s (fun φ11 => by kernel_rfl) (by kernel_rfl) ?_
  intro φ11 w11 s
  refine seqR ?_
  refine oK _ F7 1 [.o 1, .o 1, .o 1] 0 (fun φ12 => [(18, .agg #[.int .i64 ((List.getD (fewF L) i7 Fe.z).k), .string ⟨((List.getD (fewF L) i7 Fe.z).a).toArray⟩, .string ⟨((List.getD (fewF L) i7 Fe.z).v).toArray⟩])]) (fun φ12 => [φ11 0, φ11 0, φ11 0]) s (fun φ12 => by kernel_rfl) ?_
  intro φ12 w12 s
  refine call_rule (some 19) s (rightX_c (x := (List.getD (fewF L) i7 Fe.z)) hN hT (few_shortL _ (by have hq0 := dT9 hc10; have e8 := hi7_0; have e7 := few_len (L := L); omega))) (by kernel_rfl) ?_
  intro v13 I13 w13 le13 h13 s
  replace hN := Tx.NmT.mono le13 hN
  replace hT := Tx.U8.mono le13 hT
  replace hle6 := leMono le13 hle6
  obtain rfl := h13
  refine oK _ F7 2 [] 0 (fun φ14 => [(21, .bool (((rtFe (List.getD (fewF L) i7 Fe.z) : Nat) : Int) == ((0 : Nat) : Int))), (20, .bool (((rtFe (List.getD (fewF L) i7 Fe.z) : Nat) : Int) == ((0 : Nat) : Int)))]) (fun φ14 => []) s (fun φ14 => by kernel_rfl) ?_
  intro φ14 w14 s
  rw [nat_eql (a := (rtFe (List.getD (fewF L) i7 Fe.z))) (b := 0)]
  rcases Bool.eq_false_or_eq_true (decide ((rtFe (List.getD (fewF L) i7 Fe.z)) = 0)) with hc15 | hc15
  ·
   rw [hc15]
   refine oK _ F7 4 [] 0 (fun φ16 => [(25, .bool (decide ((((List.length (someF ((fewF L).take i7))) : Nat) : Int) < ((8 : Nat) : Int)))), (24, .bool (decide ((((List.length (someF ((fewF L).take i7))) : Nat) : Int) < ((8 : Nat) : Int)))), (23, .int .i64 (((List.length (someF ((fewF L).take i7))) : Nat) : Int)), (22, .slice a8 (List.length (someF ((fewF L).take i7))) c8)]) (fun φ16 => []) s (fun φ16 => by kernel_rfl) ?_
   intro φ16 w16 s
   rw [nat_lss (a := (List.length (someF ((fewF L).take i7)))) (b := 8)]
   refine ops_done (by kernel_rfl) ?_
   rcases Bool.eq_false_or_eq_true (decide ((List.length (someF ((fewF L).take i7))) < 8)) with hc17 | hc17
   ·
    rw [hc17]
    refine cond_true_rule (b := true) (by kernel_rfl) rfl ?_
    refine region_rule ?_
    refine oA _ F7 3 [.o 1, .o 1, .o 1] 1 (fun φ18 => [(28, .slice (some ⟨(φ18 0), 0, none⟩) 1 1), (27, .agg #[.int .i64 ((List.getD (fewF L) i7 Fe.z).k), .string ⟨((List.getD (fewF L) i7 Fe.z).a).toArray⟩, .string ⟨((List.getD (fewF L) i7 Fe.z).v).toArray⟩]), (26, .slice a8 (List.length (someF ((fewF L).take i7))) c8)]) (fun φ18 => [(φ1 0, .cells #[.slice none 0 0] 26), (φ11 0, .cells #[.int .i64 ((List.getD (fewF L) i7 Fe.z).k), .string ⟨((List.getD (fewF L) i7 Fe.z).a).toArray⟩, .string ⟨((List.getD (fewF L) i7 Fe.z).v).toArray⟩] 39), (φ18 0, .cells #[.int .i64 ((List.getD (fewF L) i7 Fe.z).k), .string ⟨((List.getD (fewF L) i7 Fe.z).a).toArray⟩, .string ⟨((List.getD (fewF L) i7 Fe.z).v).toArray⟩] 39)]) (fun φ18 => [φ11 0, φ11 0, φ11 0]) s (fun φ18 => by kernel_rfl) ?_
    intro φ18 w18 s
    have hb19 : (List.length (someF ((fewF L).take i7))) ≤ 100000 := (Nat.le_trans some_len (by decide))
    refine append_rule (H := [(φ1 0, .cells #[.slice none 0 0] 26), (φ11 0, .cells #[.int .i64 ((List.getD (fewF L) i7 Fe.z).k), .string ⟨((List.getD (fewF L) i7 Fe.z).a).toArray⟩, .string ⟨((List.getD (fewF L) i7 Fe.z).v).toArray⟩] 39), (φ18 0, .cells #[.int .i64 ((List.getD (fewF L) i7 Fe.z).k), .string ⟨((List.getD (fewF L) i7 Fe.z).a).toArray⟩, .string ⟨((List.getD (fewF L) i7 Fe.z).v).toArray⟩] 39)]) (F := F7) 22 22 39 Tryd.t39 (.agg #[.int .i64 0, .string ⟨#[]⟩, .string ⟨#[]⟩]) 3 40 (some 29) s Tryd.underlying22 (by kernel_rfl) (by kernel_rfl) (by kernel_rfl) (by kernel_rfl) (by kernel_rfl) (by decide) hi7_1 (src_own s 2 (φ18 0) #[.int .i64 ((List.getD (fewF L) i7 Fe.z).k), .string ⟨((List.getD (fewF L) i7 Fe.z).a).toArray⟩, .string ⟨((List.getD (fewF L) i7 Fe.z).v).toArray⟩] 39 22 39 1 1 3 [.int .i64 ((List.getD (fewF L) i7 Fe.z).k), .string ⟨((List.getD (fewF L) i7 Fe.z).a).toArray⟩, .string ⟨((List.getD (fewF L) i7 Fe.z).v).toArray⟩] (by kernel_rfl) Tryd.underlying22 (by kernel_rfl) (by kernel_rfl) (by kernel_rfl)) (by simp only [maxLen]; omega) (by omega) (by kernel_rfl) ?_
    intro v19 w19 F19 s h19
    replace h19 : RowH 39 3 v19 (List.length ((someF ((fewF L).take i7)) ++ [(List.getD (fewF L) i7 Fe.z)])) (fcs ((someF ((fewF L).take i7)) ++ [(List.getD (fewF L) i7 Fe.z)])) F19 := row39_snoc (Fs := (someF ((fewF L).take i7))) (x := (List.getD (fewF L) i7 Fe.z)) h19 rfl
    refine oKD _ F19 1 [] 0 (fun φ20 => [(4, v19)]) (fun φ20 => []) s (fun φ20 => by kernel_rfl) (by kernel_rfl) ?_
    intro φ20 w20 s
    refine region_rule ?_
    refine oK _ F19 2 [] 0 (fun φ21 => [(14, .int .i64 (IntKind.wrap .i64 (((i7 : Nat) : Int) + ((1 : Nat) : Int)))), (30, .int .i64 (IntKind.wrap .i64 (((i7 : Nat) : Int) + ((1 : Nat) : Int))))]) (fun φ21 => []) s (fun φ21 => by kernel_rfl) ?_
    intro φ21 w21 s
    rw [nat_addI (a := i7) (b := 1) (by have e8 := hi7_0; have e7 := few_len (L := L); have hq0 := dT9 hc10; have hq1 := dT9 hc15; have hq2 := dT9 hc17; omega)]
    refine ops_done (by kernel_rfl) ?_
    exact ⟨⟨m7 - 1, (i7 + 1, v19, F19), _, _, _, by have hq0 := dT9 hc10; have hq1 := dT9 hc15; have hq2 := dT9 hc17; have := hi7_0; omega, rfl, s, (List.Sublist.append (List.Sublist.cons₂ _ (List.Sublist.cons _ (List.Sublist.cons _ List.Sublist.slnil))) (List.Sublist.refl _)), by kernel_rfl, hle6, by have hq0 := dT9 hc10; have hq1 := dT9 hc15; have hq2 := dT9 hc17; have := hi7_0; show i7 + 1 + (m7 - 1) = (fewF L).length; omega, (row_eq39 (some_yes (by have hq0 := dT9 hc10; have hq1 := dT9 hc15; have hq2 := dT9 hc17; have := hi7_0; omega) (dT9 hc15) (dT9 hc17)) h19)⟩⟩
   ·
    rw [hc17]
    refine cond_false_rule (b := false) (by kernel_rfl) rfl ?_
    refine wp_skip ?_
    refine region_rule ?_
    refine oK _ F7 2 [] 0 (fun φ22 => [(14, .int .i64 (IntKind.wrap .i64 (((i7 : Nat) : Int) + ((1 : Nat) : Int)))), (30, .int .i64 (IntKind.wrap .i64 (((i7 : Nat) : Int) + ((1 : Nat) : Int))))]) (fun φ22 => []) s (fun φ22 => by kernel_rfl) ?_
    intro φ22 w22 s
    rw [nat_addI (a := i7) (b := 1) (by have e8 := hi7_0; have e7 := few_len (L := L); have hq0 := dT9 hc10; have hq1 := dT9 hc15; have hq2 := dF9 hc17; omega)]
    refine ops_done (by kernel_rfl) ?_
    exact ⟨⟨m7 - 1, (i7 + 1, .slice a8 (List.length (someF ((fewF L).take i7))) c8, F7), _, _, _, by have hq0 := dT9 hc10; have hq1 := dT9 hc15; have hq2 := dF9 hc17; have := hi7_0; omega, rfl, s, (List.Sublist.append (List.Sublist.cons₂ _ (List.Sublist.cons _ List.Sublist.slnil)) (List.Sublist.refl _)), by kernel_rfl, hle6, by have hq0 := dT9 hc10; have hq1 := dT9 hc15; have hq2 := dF9 hc17; have := hi7_0; show i7 + 1 + (m7 - 1) = (fewF L).length; omega, (row_eq39 (some_no (by have hq0 := dT9 hc10; have hq1 := dT9 hc15; have hq2 := dF9 hc17; have := hi7_0; omega) (fun q => (dF9 hc17) q.2)) hi7_1)⟩⟩
  ·
   rw [hc15]
   refine oKD _ F7 4 [] 0 (fun φ23 => [(25, .bool false), (24, undef), (23, undef), (22, undef)]) (fun φ23 => []) s (fun φ23 => by kernel_rfl) (by kernel_rfl) ?_
   intro φ23 w23 s
   refine cond_false_rule (b := false) (by kernel_rfl) rfl ?_
   refine wp_skip ?_
   refine region_rule ?_
   refine oK _ F7 2 [] 0 (fun φ24 => [(14, .int .i64 (IntKind.wrap .i64 (((i7 : Nat) : Int) + ((1 : Nat) : Int)))), (30, .int .i64 (IntKind.wrap .i64 (((i7 : Nat) : Int) + ((1 : Nat) : Int))))]) (fun φ24 => []) s (fun φ24 => by kernel_rfl) ?_
   intro φ24 w24 s
   rw [nat_addI (a := i7) (b := 1) (by have e8 := hi7_0; have e7 := few_len (L := L); have hq0 := dT9 hc10; have hq1 := dF9 hc15; omega)]
   refine ops_done (by kernel_rfl) ?_
   exact ⟨⟨m7 - 1, (i7 + 1, .slice a8 (List.length (someF ((fewF L).take i7))) c8, F7), _, _, _, by have hq0 := dT9 hc10; have hq1 := dF9 hc15; have := hi7_0; omega, rfl, s, (List.Sublist.append (List.Sublist.cons₂ _ (List.Sublist.cons _ List.Sublist.slnil)) (List.Sublist.refl _)), by kernel_rfl, hle6, by have hq0 := dT9 hc10; have hq1 := dF9 hc15; have := hi7_0; show i7 + 1 + (m7 - 1) = (fewF L).length; omega, (row_eq39 (some_no (by have hq0 := dT9 hc10; have hq1 := dF9 hc15; have := hi7_0; omega) (fun q => (dF9 hc15) q.1)) hi7_1)⟩⟩
 ·
  rw [hc10]
  refine cond_false_rule (b := false) (by kernel_rfl) rfl ?_
  refine wp_exit ?_
  refine wp_seq ?_
  have eA25 : (someF ((fewF L).take i7)) = (someF (fewF L)) := (by have ei : i7 = (fewF L).length := (by have hq0 := dF9 hc10; have := hi7_0; omega); rw [ei, List.take_length])
  have hr25 := hi7_1
  rw [eA25] at hr25
  rw [eA25]
  obtain ⟨J25, le25, hk25, s⟩ := freeze_row39 (H := [((φ1 0), .cells #[.slice none 0 0] 26)]) (F := F7) s hr25
  replace hN := Tx.NmT.mono le25 hN
  replace hT := Tx.U8.mono le25 hT
  refine region_rule ?_
  refine oK [(φ1 0, .cells #[.slice none 0 0] 26)] [] 1 [] 0 (fun φ26 => [(32, .slice a8 (List.length (someF (fewF L))) c8)]) (fun φ26 => []) s (fun φ26 => by kernel_rfl) ?_
  intro φ26 w26 s
  refine call_rule (some 33) s (makeS_c hk25 hN hT) (by kernel_rfl) ?_
  intro v27 I27 w27 le27 h27 s
  replace hk25 := FSl.mono le27 hk25
  obtain ⟨a27, c27, rfl, h27_0⟩ := h27
  refine oAD _ [] 6 [.o 1] 1 (fun φ28 => [(8, .int .i64 0), (7, pB (φ28 0)), (35, .int .i64 0), (34, .agg #[.slice a27 (List.length (madeF L)) c27]), (31, .tuple #[.agg #[.slice a27 (List.length (madeF L)) c27], .int .i64 0])]) (fun φ28 => [(φ1 0, .cells #[.slice none 0 0] 26), (φ28 0, .cells #[.slice a27 (List.length (madeF L)) c27] 26)]) (fun φ28 => [(φ28 0)]) s (fun φ28 => by kernel_rfl) (by kernel_rfl) ?_
  intro φ28 w28 s
  refine seqR ?_
  refine oK _ [] 1 [] 0 (fun φ29 => [(37, .slice a8 (List.length (someF (fewF L))) c8)]) (fun φ29 => []) s (fun φ29 => by kernel_rfl) ?_
  intro φ29 w29 s
  refine call_rule (some 38) s (ownF_c hk25 (Nat.le_trans some_len (by decide))) (by kernel_rfl) ?_
  intro v30 I30 w30 le30 h30 s
  replace h27_0 := FSl.mono le30 h27_0
  obtain ⟨a30, c30, rfl, h30_0⟩ := h30
  refine call_rule (some 39) s (refMakeS_c h30_0) (by kernel_rfl) ?_
  intro v31 I31 w31 le31 h31 s
  replace h27_0 := FSl.mono le31 h27_0
  obtain ⟨a31, c31, rfl, h31_0⟩ := h31
  refine oKD _ [] 5 [] 0 (fun φ32 => [(10, .int .i64 0), (9, .slice a31 (List.length (madeF L)) c31), (41, .int .i64 0), (40, .slice a31 (List.length (madeF L)) c31), (36, .tuple #[.slice a31 (List.length (madeF L)) c31, .int .i64 0])]) (fun φ32 => []) s (fun φ32 => by kernel_rfl) (by kernel_rfl) ?_
  intro φ32 w32 s
  refine seqR ?_
  refine oAD _ [] 4 [.o 1, .o 0] 0 (fun φ33 => [(3, .slice a31 (List.length (madeF L)) c31), (43, .slice a31 (List.length (madeF L)) c31), (42, .agg #[.slice a27 (List.length (madeF L)) c27])]) (fun φ33 => [(φ1 0, .cells #[.slice a27 (List.length (madeF L)) c27] 26), (φ28 0, .cells #[.slice a27 (List.length (madeF L)) c27] 26)]) (fun φ33 => [φ28 0, φ1 0]) s (fun φ33 => by kernel_rfl) (by kernel_rfl) ?_
  intro φ33 w33 s
  refine wp_ret ?_
  refine ret_rule (C := []) _ [] (.tuple #[.agg #[.slice a27 (List.length (madeF L)) c27], .slice a31 (List.length (madeF L)) c31]) [.o 0] [(φ1 0)] s trivial (by kernel_rfl) ?_
  exact ⟨_, _, _, rfl, s, ⟨_, _, _, _, rfl, h27_0, h31_0⟩⟩

set_option maxHeartbeats 2000000 in
theorem equalG_c {I : IM} {L M : List Fe} {a0 a1 : Option Addr} {c0 c1 : Nat} (h0 : FSl I L (.slice a0 L.length c0)) (h1 : FSl I M (.slice a1 M.length c1)) (hl : L.length ≤ 1000) : Fun Tryd.prog 21 #[.slice a0 L.length c0, .slice a1 M.length c1] I (fun v J => v = .bool (decide (L = M))) := by
 refine enter_rule 26 [(0, .slice a0 L.length c0), (1, .slice a1 M.length c1)] Tryd.func21 rfl (by kernel_rfl) ?_
 intro w s
 refine seqR ?_
 refine oKD [] [] 1 [] 0 (fun φ1 => [(4, .bool false)]) (fun φ1 => []) s (fun φ1 => by kernel_rfl) (by kernel_rfl) ?_
 intro φ1 w1 s
 refine wp_seq ?_
 refine seqR ?_
 refine oK [] [] 5 [] 0 (fun φ2 => [(10, .bool (((L.length : Nat) : Int) != ((M.length : Nat) : Int))), (9, .int .i64 M.length), (8, .slice a1 M.length c1), (7, .int .i64 L.length), (6, .slice a0 L.length c0)]) (fun φ2 => []) s (fun φ2 => by kernel_rfl) ?_
 intro φ2 w2 s
 rw [nat_neq (a := L.length) (b := M.length)]
 refine ops_done (by kernel_rfl) ?_
 rcases Bool.eq_false_or_eq_true (decide (L.length ≠ M.length)) with hc3 | hc3
 ·
  rw [hc3]
  refine cond_true_rule (b := true) (by kernel_rfl) rfl ?_
  refine seqR ?_
  refine oKD [] [] 1 [] 0 (fun φ4 => [(4, .bool false)]) (fun φ4 => []) s (fun φ4 => by kernel_rfl) (by kernel_rfl) ?_
  intro φ4 w4 s
  refine wp_ret ?_
  refine ret_rule (C := []) [] [] (.bool false) [] [] s trivial (by kernel_rfl) ?_
  exact ⟨_, _, _, rfl, s, (congrArg Value.bool (decide_eq_false (fun q => (dT9 hc3) (by rw [q]))).symm)⟩
 ·
  rw [hc3]
  refine cond_false_rule (b := false) (by kernel_rfl) rfl ?_
  refine wp_skip ?_
  refine wp_seq ?_
  refine seqR ?_
  refine oKD [] [] 3 [] 0 (fun φ5 => [(13, .int .i64 0), (12, .int .i64 L.length), (11, .slice a0 L.length c0)]) (fun φ5 => []) s (fun φ5 => by kernel_rfl) (by kernel_rfl) ?_
  intro φ5 w5 s
  refine wp_block ?_
  have hlm : L.length = M.length := Decidable.not_not.1 (dF9 hc3)
  have hle6 := IM.Le.refl I
  refine loop_rule (fun (x : Nat) => [(0, .slice a0 L.length c0), (1, .slice a1 M.length c1), (4, .bool false), (11, .slice a0 L.length c0), (12, .int .i64 L.length), (13, .int .i64 x)]) (fun (x : Nat) => []) (fun m (x : Nat) J => IM.Le I J ∧ x + m = L.length ∧ (∀ j, j < x → L.getD j Fe.z = M.getD j Fe.z)) (L.length) 0 s (by kernel_rfl) List.Sublist.slnil ⟨IM.Le.refl _, Nat.zero_add _, fun j h => by omega⟩ ?_
  rintro m7 i7 I7 w7 ev7 s ⟨le7, hi7_0, hi7_1⟩
  try dsimp only at s hi7_0 hi7_1 ⊢
  replace h0 := FSl.mono le7 h0
  replace h1 := FSl.mono le7 h1
  replace hle6 := leMono le7 hle6
  refine seqR ?_
  refine oK [] [] 1 [] 0 (fun φ8 => [(14, .bool (decide (((i7 : Nat) : Int) < ((L.length : Nat) : Int))))]) (fun φ8 => []) s (fun φ8 => by kernel_rfl) ?_
  intro φ8 w8 s
  rw [nat_lss (a := i7) (b := L.length)]
  refine ops_done (by kernel_rfl) ?_
  refine wp_seq ?_
  rcases Bool.eq_false_or_eq_true (decide (i7 < L.length)) with hc9 | hc9
  ·
   rw [hc9]
   refine cond_true_rule (b := true) (by kernel_rfl) rfl ?_
   refine wp_skip ?_
   refine wp_seq ?_
   refine wp_block ?_
   refine seqR ?_
   refine oKD [] [] 2 [] 0 (fun φ10 => [(5, .int .i64 i7), (15, .int .i64 i7)]) (fun φ10 => []) s (fun φ10 => by kernel_rfl) (by kernel_rfl) ?_
   intro φ10 w10 s
   refine wp_seq ?_
   refine draw_rule (C := []) ⟨(fun φ11 xs11 => [.look 0 [] [], .look 0 [] [], .ran (Instr.indexAt 22 (.slice a0 L.length c0) (.int .i64 i7)), .ran (Instr.loadAt 39 (.pointer (pAt a0 (i7 * 3)))), .look 0 [] [], .look 0 [] [], .ran (Instr.indexAt 22 (.slice a1 M.length c1) (.int .i64 i7)), .ran (Instr.loadAt 39 (.pointer (pAt a1 (i7 * 3)))), .ran (do eqGuard .neq 39 (.tmp 19) (.tmp 23) (.agg #[.int .i64 ((List.getD L i7 Fe.z).k), .string ⟨((List.getD L i7 Fe.z).a).toArray⟩, .string ⟨((List.getD L i7 Fe.z).v).toArray⟩]) (.agg #[.int .i64 ((List.getD M i7 Fe.z).k), .string ⟨((List.getD M i7 Fe.z).a).toArray⟩, .string ⟨((List.getD M i7 Fe.z).v).toArray⟩]); binOp .neq 39 (.agg #[.int .i64 ((List.getD L i7 Fe.z).k), .string ⟨((List.getD L i7 Fe.z).a).toArray⟩, .string ⟨((List.getD L i7 Fe.z).v).toArray⟩]) (.agg #[.int .i64 ((List.getD M i7 Fe.z).k), .string ⟨((List.getD M i7 Fe.z).a).toArray⟩, .string ⟨((List.getD M i7 Fe.z).v).toArray⟩]))]), (fun φ11 xs11 => [.slice a0 L.length c0, .int .i64 i7, .pointer (pAt a0 (i7 * 3)), .agg #[.int .i64 ((List.getD L i7 Fe.z).k), .string ⟨((List.getD L i7 Fe.z).a).toArray⟩, .string ⟨((List.getD L i7 Fe.z).v).toArray⟩], .slice a1 M.length c1, .int .i64 i7, .pointer (pAt a1 (i7 * 3)), .agg #[.int .i64 ((List.getD M i7 Fe.z).k), .string ⟨((List.getD M i7 Fe.z).a).toArray⟩, .string ⟨((List.getD M i7 Fe.z).v).toArray⟩], .bool (!(decide ((List.getD L i7 Fe.z) = (List.getD M i7 Fe.z))))]), (fun φ11 xs11 => [[]]), (fun φ11 xs11 => [[default, default, default, default, default, default, default, default, default]]), [], [1, 1, 6, 6, 1, 1, 6, 6, 6]⟩ (fun j => ([MP.any] : List MP).getD j MP.any) [] [] [2, 3, 6, 7, 8] (fun φ11 xs11 => []) (fun φ11 xs11 => [(16, .slice a0 L.length c0), (17, .int .i64 i7), (18, .pointer (pAt a0 (i7 * 3))), (19, .agg #[.int .i64 ((List.getD L i7 Fe.z).k), .string ⟨((List.getD L i7 Fe.z).a).toArray⟩, .string ⟨((List.getD L i7 Fe.z).v).toArray⟩]), (20, .slice a1 M.length c1), (21, .int .i64 i7), (22, .pointer (pAt a1 (i7 * 3))), (23, .agg #[.int .i64 ((List.getD M i7 Fe.z).k), .string ⟨((List.getD M i7 Fe.z).a).toArray⟩, .string ⟨((List.getD M i7 Fe.z).v).toArray⟩]), (24, .bool (!(decide ((List.getD L i7 Fe.z) = (List.getD M i7 Fe.z)))))]) (fun φ11 xs11 => []) s trivial (by kernel_rfl) (by kernel_rfl) (fun _ _ => by kernel_rfl) (fun _ _ => by kernel_rfl) ⟨fun _ _ => by kernel_rfl, fun _ _ => by kernel_rfl, fun _ _ => by kernel_rfl, fun _ _ => by kernel_rfl⟩ (fun _ _ _ => by kernel_rfl) (fun _ _ => by kernel_rfl) (fun _ _ => by kernel_rfl) (fun _ _ => by kernel_rfl) (fun _ _ => by kernel_rfl) (fun _ _ => by kernel_rfl) trivial ⟨kcast (A := ∀ (φ11 : Nat → Nat) (xs11 : Xs) (J : IM) (w : World), I7.Le J → J.Sub w → ((Instr.indexAt 22 (.slice a0 L.length c0) (.int .i64 i7)) : Sem Value).run Tryd.prog w = .ok (.pointer (pAt a0 (i7 * 3))) w) (by kernel_rfl) (fun φ11 xs11 J w hJ hS => fsl_idx22 (FSl.mono hJ h0) (by have e8 := hi7_0; have e7 := hlm; have hq0 := dF9 hc3; have hq1 := dT9 hc9; omega)), ⟨kcast (A := ∀ (φ11 : Nat → Nat) (xs11 : Xs) (J : IM) (w : World), I7.Le J → J.Sub w → ((Instr.loadAt 39 (.pointer (pAt a0 (i7 * 3)))) : Sem Value).run Tryd.prog w = .ok (.agg #[.int .i64 ((List.getD L i7 Fe.z).k), .string ⟨((List.getD L i7 Fe.z).a).toArray⟩, .string ⟨((List.getD L i7 Fe.z).v).toArray⟩]) w) (by kernel_rfl) (fun φ11 xs11 J w hJ hS => fsl_ld39 hS (FSl.mono hJ h0) (by have e8 := hi7_0; have e7 := hlm; have hq0 := dF9 hc3; have hq1 := dT9 hc9; omega)), ⟨kcast (A := ∀ (φ11 : Nat → Nat) (xs11 : Xs) (J : IM) (w : World), I7.Le J → J.Sub w → ((Instr.indexAt 22 (.slice a1 M.length c1) (.int .i64 i7)) : Sem Value).run Tryd.prog w = .ok (.pointer (pAt a1 (i7 * 3))) w) (by kernel_rfl) (fun φ11 xs11 J w hJ hS => fsl_idx22 (FSl.mono hJ h1) (by have e8 := hi7_0; have e7 := hlm; have hq0 := dF9 hc3; have hq1 := dT9 hc9; omega)), ⟨kcast (A := ∀ (φ11 : Nat → Nat) (xs11 : Xs) (J : IM) (w : World), I7.Le J → J.Sub w → ((Instr.loadAt 39 (.pointer (pAt a1 (i7 * 3)))) : Sem Value).run Tryd.prog w = .ok (.agg #[.int .i64 ((List.getD M i7 Fe.z).k), .string ⟨((List.getD M i7 Fe.z).a).toArray⟩, .string ⟨((List.getD M i7 Fe.z).v).toArray⟩]) w) (by kernel_rfl) (fun φ11 xs11 J w hJ hS => fsl_ld39 hS (FSl.mono hJ h1) (by have e8 := hi7_0; have e7 := hlm; have hq0 := dF9 hc3; have hq1 := dT9 hc9; omega)), ⟨kcast (A := ∀ (φ11 : Nat → Nat) (xs11 : Xs) (J : IM) (w : World), I7.Le J → J.Sub w → ((do eqGuard .neq 39 (.tmp 19) (.tmp 23) (.agg #[.int .i64 ((List.getD L i7 Fe.z).k), .string ⟨((List.getD L i7 Fe.z).a).toArray⟩, .string ⟨((List.getD L i7 Fe.z).v).toArray⟩]) (.agg #[.int .i64 ((List.getD M i7 Fe.z).k), .string ⟨((List.getD M i7 Fe.z).a).toArray⟩, .string ⟨((List.getD M i7 Fe.z).v).toArray⟩]); binOp .neq 39 (.agg #[.int .i64 ((List.getD L i7 Fe.z).k), .string ⟨((List.getD L i7 Fe.z).a).toArray⟩, .string ⟨((List.getD L i7 Fe.z).v).toArray⟩]) (.agg #[.int .i64 ((List.getD M i7 Fe.z).k), .string ⟨((List.getD M i7 Fe.z).a).toArray⟩, .string ⟨((List.getD M i7 Fe.z).v).toArray⟩])) : Sem Value).run Tryd.prog w = .ok (.bool (!(decide ((List.getD L i7 Fe.z) = (List.getD M i7 Fe.z))))) w) (by kernel_rfl) (fun φ11 xs11 J w hJ hS => run_neqG39 (X := (List.getD L i7 Fe.z)) (Y := (List.getD M i7 Fe.z))), trivial⟩⟩⟩⟩⟩ (by kernel_rfl) trivial ?k11
   case k11 =>
    rintro φ11 xs11 I11 w11 le11 s 
    replace hle6 := leMono le11 hle6
    rcases Bool.eq_false_or_eq_true (decide ((List.getD L i7 Fe.z) = (List.getD M i7 Fe.z))) with hc12 | hc12
    ·
     rw [hc12]
     refine cond_false_rule (b := false) (by kernel_rfl) rfl ?_
     refine wp_skip ?_
     refine region_rule ?_
     refine oK [] [] 2 [] 0 (fun φ13 => [(13, .int .i64 (IntKind.wrap .i64 (((i7 : Nat) : Int) + ((1 : Nat) : Int)))), (25, .int .i64 (IntKind.wrap .i64 (((i7 : Nat) : Int) + ((1 : Nat) : Int))))]) (fun φ13 => []) s (fun φ13 => by kernel_rfl) ?_
     intro φ13 w13 s
     rw [nat_addI (a := i7) (b := 1) (by have e8 := hi7_0; have e7 := hlm; have hq0 := dF9 hc3; have hq1 := dT9 hc9; have hq2 := dT9 hc12; omega)]
     refine ops_done (by kernel_rfl) ?_
     exact ⟨⟨m7 - 1, i7 + 1, _, _, _, by have hq0 := dF9 hc3; have hq1 := dT9 hc9; have hq2 := dT9 hc12; have := hi7_0; omega, rfl, s, List.Sublist.slnil, by kernel_rfl, hle6, by have hq0 := dF9 hc3; have hq1 := dT9 hc9; have hq2 := dT9 hc12; have := hi7_0; show i7 + 1 + (m7 - 1) = L.length; omega, eq_next hi7_1 (dT9 hc12)⟩⟩
    ·
     rw [hc12]
     refine cond_true_rule (b := true) (by kernel_rfl) rfl ?_
     refine seqR ?_
     refine oKD [] [] 1 [] 0 (fun φ14 => [(4, .bool false)]) (fun φ14 => []) s (fun φ14 => by kernel_rfl) (by kernel_rfl) ?_
     intro φ14 w14 s
     refine wp_ret ?_
     refine ret_rule (C := []) [] [] (.bool false) [] [] s trivial (by kernel_rfl) ?_
     exact ⟨_, _, _, rfl, s, (congrArg Value.bool (decide_eq_false (fun q => (dF9 hc12) (by rw [q]))).symm)⟩
  ·
   rw [hc9]
   refine cond_false_rule (b := false) (by kernel_rfl) rfl ?_
   refine wp_exit ?_
   refine seqR ?_
   refine oKD [] [] 1 [] 0 (fun φ15 => [(4, .bool true)]) (fun φ15 => []) s (fun φ15 => by kernel_rfl) (by kernel_rfl) ?_
   intro φ15 w15 s
   refine wp_ret ?_
   refine ret_rule (C := []) [] [] (.bool true) [] [] s trivial (by kernel_rfl) ?_
   exact ⟨_, _, _, rfl, s, (congrArg Value.bool (decide_eq_true (eq_lists hlm (by have ei : i7 = L.length := (by have hq0 := dF9 hc3; have hq1 := dF9 hc9; have := hi7_0; omega); have h9 := hi7_1; rw [ei] at h9; exact h9))).symm)⟩

end Go.Proofs.YtcpmjogeafhpnaaDoor
/- Fields left out; of a kind. -/
set_option linter.all false
set_option maxRecDepth 100000
namespace Go.Proofs.YtcpmjogeafhpnaaDoor
open Go.RowKit Go.Sep
attribute [local irreducible] Go.wpList Go.Code.wp

/-- v is a slice of these ints, never written -/
def ISl (I : IM) (K : List Int) (v : Value) : Prop := ∃ a cap, v = .slice a K.length cap ∧ K.length ≤ cap ∧ ∀ (j : Nat) (x : Int), K[j]? = some x → ∃ (b o : Nat) (cs : Array Value) (T : TypeId) (fr : Nat × Nat), a = some ⟨b, o, none⟩ ∧ I b = some (.cells cs T fr) ∧ cs[o + j]? = some (.int .i64 x)
theorem ISl.mono {I J : IM} (le : I.Le J) {L : List Int} {v : Value} (h : ISl I L v) : ISl J L v := by
  obtain ⟨a, cap, hv, hc, hr⟩ := h
  refine ⟨a, cap, hv, hc, fun j x hj => ?_⟩
  obtain ⟨b, o, cs, T, fr, h1, h2, h3⟩ := hr j x hj
  exact ⟨b, o, cs, T, fr, h1, le _ _ h2, h3⟩
theorem ISl.open {I : IM} {L : List Int} {v : Value} (h : ISl I L v) : ∃ a c, v = .slice a L.length c ∧ L.length ≤ c ∧ ISl I L (.slice a L.length c) := by
  obtain ⟨a, c, rfl, hc, hr⟩ := h
  exact ⟨a, c, rfl, hc, a, c, rfl, hc, hr⟩
theorem ISl.cap {I : IM} {L : List Int} {a : Option Addr} {n c : Nat} (h : ISl I L (.slice a n c)) : n = L.length ∧ L.length ≤ c := by
  obtain ⟨a', c', hv, hc, _⟩ := h
  cases hv; exact ⟨rfl, hc⟩
end Go.Proofs.YtcpmjogeafhpnaaDoor
/- What differs makes the one card the other. -/
set_option linter.all false
set_option maxRecDepth 100000
namespace Go.Proofs.YtcpmjogeafhpnaaDoor
open Go.RowKit Go.Sep
attribute [local irreducible] Go.wpList Go.Code.wp

set_option maxHeartbeats 1000000 in
theorem sameCd_c {I : IM} {L M : List Fe} {a0 a1 : Option Addr} {c0 c1 : Nat} (h0 : FSl I L (.slice a0 L.length c0)) (h1 : FSl I M (.slice a1 M.length c1)) (hl : L.length ≤ 1000) : Fun Tryd.prog 28 #[.agg #[.slice a0 L.length c0], .agg #[.slice a1 M.length c1]] I (fun v J => v = .bool (decide (L = M))) := by
 refine enter_rule 10 [(0, .agg #[.slice a0 L.length c0]), (1, .agg #[.slice a1 M.length c1])] Tryd.func28 rfl (by kernel_rfl) ?_
 intro w s
 refine seqR ?_
 refine oAD [] [] 3 [] 2 (fun φ1 => [(4, .bool false), (3, pB (φ1 1)), (2, pB (φ1 0))]) (fun φ1 => [(φ1 0, .cells #[.slice a0 L.length c0] 26), (φ1 1, .cells #[.slice a1 M.length c1] 26)]) (fun φ1 => []) s (fun φ1 => by kernel_rfl) (by kernel_rfl) ?_
 intro φ1 w1 s
 refine seqR ?_
 refine oK _ [] 4 [.o 0, .o 1] 0 (fun φ2 => [(8, .slice a1 M.length c1), (7, pB (φ1 1)), (6, .slice a0 L.length c0), (5, pB (φ1 0))]) (fun φ2 => [φ1 0, φ1 1]) s (fun φ2 => by kernel_rfl) ?_
 intro φ2 w2 s
 refine call_rule (some 9) s (equalG_c h0 h1 hl) (by kernel_rfl) ?_
 intro v3 I3 w3 le3 h3 s
 obtain rfl := h3
 refine oKD _ [] 1 [] 0 (fun φ4 => [(4, .bool (decide (L = M)))]) (fun φ4 => []) s (fun φ4 => by kernel_rfl) (by kernel_rfl) ?_
 intro φ4 w4 s
 refine wp_ret ?_
 refine ret_rule (C := []) _ [] (.bool (decide (L = M))) [] [] s trivial (by kernel_rfl) ?_
 exact ⟨_, _, _, rfl, s, rfl⟩

theorem sameS_c {I : IM} {L : List Fe} {a0 a1 : Option Addr} {c0 c1 : Nat} (h0 : FSl I L (.slice a0 L.length c0)) (h1 : FSl I L (.slice a1 L.length c1)) (hl : L.length ≤ 1000) : Fun Tryd.prog 28 #[.agg #[.slice a0 L.length c0], .agg #[.slice a1 L.length c1]] I (fun v J => v = .bool true) :=
  (sameCd_c h0 h1 hl).mono fun v J _ q => q.trans (congrArg Value.bool (decide_eq_true rfl))
end Go.Proofs.YtcpmjogeafhpnaaDoor
/- What the laid variables give. -/
set_option linter.all false
set_option maxRecDepth 100000
namespace Go.Proofs.YtcpmjogeafhpnaaDoor
open Go.RowKit Go.Sep Go.Lib
theorem ownKnob_none : ownKnob Tryd.prog.godebug = none := by kernel_rfl
abbrev laidT : List (String × DataW Unit) := Rows.cardMakesRow.laid
theorem tabs_of_laid {W : World} (h : laidMetH Tryd.prog laidT W) : Lib.Utf8Tabs 1 2 W := by
  rw [MakeChecks.laidMetH_plain _ _ _ (by kernel_rfl)] at h
  have h4 := Lib.laidMet.reads h (.head _)
  have h3 := Lib.laidMet.reads h (.tail _ (.tail _ (.head _)))
  exact utf8Tabs_of_readsT (ρ := Tryd.lays196_ren) (U8Types.of196 Tryd.lays196) ⟨by kernel_rfl, by kernel_rfl, by kernel_rfl, by kernel_rfl, by kernel_rfl, by kernel_rfl, by kernel_rfl⟩ (kcast (by kernel_rfl) h3) (kcast (by kernel_rfl) h4)
theorem block_of {W : World} {b o : Nat} {v : Value} (h : W.cell? ⟨b, o, none⟩ = some v) : ∃ cs T fr, W.heap[b]? = some (.cells cs T fr) ∧ cs[o]? = some v := by
  unfold World.cell? at h
  cases hb : W.heap[b]? with
  | none => simp [hb] at h
  | some ob =>
    cases ob <;> simp [hb] at h
    exact ⟨_, _, _, rfl, h⟩
theorem nm_of_laid {W : World} (h : laidMetH Tryd.prog laidT W) : Tx.NmT (fun k => W.heap[k]?) := by
  rw [MakeChecks.laidMetH_plain _ _ _ (by kernel_rfl)] at h
  obtain ⟨g, t, cs, fuel, p, hg, hty, hvar, hd⟩ := Lib.laidMet.reads h (.tail _ (.head _))
  obtain rfl := Option.some.inj ((show Tryd.prog.globalNamed "kinfolk/card.names" = some 0 by kernel_rfl).symm.trans hg)
  obtain rfl := Option.some.inj ((show (Tryd.prog.globals[0]?).map (·.type) = some 98 by kernel_rfl).symm.trans hty)
  have one : ∀ i, i < 7 → W.cell? ⟨0, i, none⟩ = some (.string ⟨(Tx.nmL.getD i []).toArray⟩) := fun i hi => by
    obtain ⟨fuel', d, q, hdi, he⟩ := array_elem (show Tryd.prog.underlying 98 = some (.array 7 9) by kernel_rfl) hd i hi
    have hdl : d = DataW.lit (.string (Tx.nmL.getD i [])) := by
      have : i = 0 ∨ i = 1 ∨ i = 2 ∨ i = 3 ∨ i = 4 ∨ i = 5 ∨ i = 6 := by omega
      rcases this with rfl | rfl | rfl | rfl | rfl | rfl | rfl <;> exact (Option.some.inj hdi).symm
    subst hdl
    obtain ⟨s, hc, hx, -⟩ := DataW.trod_string Tryd.underlying9 he
    have hs : s = ⟨(Tx.nmL.getD i []).toArray⟩ := by
      have h1 := congrArg Prod.fst hx
      simp only [DataW.lit.injEq, Lit.string.injEq] at h1
      obtain ⟨⟨l⟩⟩ := s
      simp only at h1
      exact congrArg ByteArray.mk (congrArg Array.mk h1.symm)
    rw [show Tryd.prog.cellsOf 9 = 1 by kernel_rfl] at hc
    have e0 := congrArg (·[0]?) hc
    simp only [List.getElem?_take, List.getElem?_drop] at e0
    have h2 := World.var?_cell hg hvar i
    rw [← Array.getElem?_toList] at h2
    rw [← hs]
    exact h2.trans (by simpa using e0)
  obtain ⟨cs', T, fr, e1, -⟩ := block_of (one 0 (by decide))
  refine ⟨cs', T, fr, e1, fun i hi => ?_⟩
  obtain ⟨cs2, T2, fr2, f1, f2⟩ := block_of (one i hi)
  rw [e1] at f1
  cases f1
  exact f2
theorem cell_up {W w : World} (hw : IM.Sub (fun k => W.heap[k]?) w) {a : Addr} {v : Value} (h : W.cell? a = some v) : w.cell? a = some v := by
  unfold World.cell? at h ⊢
  cases e : W.heap[a.block]? with
  | none => rw [e] at h; cases h
  | some o => rw [hw _ _ e]; rw [e] at h; exact h
theorem u8_of_laid {W : World} (h : laidMetH Tryd.prog laidT W) : Tx.U8 (fun k => W.heap[k]?) := fun w hw =>
  have t := tabs_of_laid h
  ⟨fun c hc => cell_up hw (t.1 c hc), fun i hi => ⟨cell_up hw (t.2 i hi).1, cell_up hw (t.2 i hi).2⟩⟩
theorem met_wit (os : Os) (args : Array Value) : laidMetH Tryd.prog laidT ((World.laidAll Tryd.prog os laidT).forCall (fun _ _ => 0) ⟨#[], args, []⟩).memory := by
  rw [MakeChecks.laidMetH_plain _ _ _ (by kernel_rfl)]; exact laidMet_laidAll _ (by kernel_rfl) (by kernel_rfl)
end Go.Proofs.YtcpmjogeafhpnaaDoor
/- A slice of bytes that came in, as the contracts want it. -/
set_option linter.all false
namespace Go.Proofs.YtcpmjogeafhpnaaDoor
open Go.RowKit Go.Sep

theorem cell_block {w : World} {b o : Nat} {v : Value} (h : w.cell? ⟨b, o, none⟩ = some v) : ∃ cs T fr, w.heap[b]? = some (.cells cs T fr) ∧ cs[o]? = some v := by
  unfold World.cell? at h
  cases hb : w.heap[b]? with
  | none => simp [hb] at h
  | some ob =>
    cases ob <;> simp [hb] at h
    exact ⟨_, _, _, rfl, h⟩
end Go.Proofs.YtcpmjogeafhpnaaDoor
/- Slices of fields that came in. -/
set_option linter.all false
set_option maxRecDepth 100000
namespace Go.Proofs.YtcpmjogeafhpnaaDoor
open Go.Sep
open Go.ChangeShapes Go.WideShapes Go.ChangeAt Go.RowKit
structure FX where
  k : Int
  a : List UInt8
  v : List UInt8
def FX.d : FX := ⟨0, [], []⟩
instance : Inhabited FX := ⟨FX.d⟩
def FXl (I : IM) (L : List FX) (v : Value) : Prop := ∃ a cap, v = .slice a L.length cap ∧ L.length ≤ cap ∧ ∀ (j : Nat) (x : FX), L[j]? = some x → (-9223372036854775808 ≤ x.k ∧ x.k < 9223372036854775808 ∧ x.a.length ≤ maxLen ∧ x.v.length ≤ maxLen) ∧ ∃ (b o : Nat) (cs : Array Value) (T : TypeId) (fr : Nat × Nat), a = some ⟨b, o, none⟩ ∧ I b = some (.cells cs T fr) ∧ cs[o + j * 3]? = some (.int .i64 x.k) ∧ cs[o + j * 3 + 1]? = some (.string ⟨x.a.toArray⟩) ∧ cs[o + j * 3 + 2]? = some (.string ⟨x.v.toArray⟩)
theorem FXl.mono {I J : IM} (le : I.Le J) {L : List FX} {v : Value} (h : FXl I L v) : FXl J L v := by
  obtain ⟨a, cap, hv, hc, hr⟩ := h
  refine ⟨a, cap, hv, hc, fun j x hj => ?_⟩
  obtain ⟨hx, b, o, cs, T, fr, h1, h2, h3, h4, h5⟩ := hr j x hj
  exact ⟨hx, b, o, cs, T, fr, h1, le _ _ h2, h3, h4, h5⟩
theorem FXl.cap {I : IM} {L : List FX} {a : Option Addr} {n c : Nat} (h : FXl I L (.slice a n c)) : n = L.length ∧ L.length ≤ c := by
  obtain ⟨a', c', hv, hc, _⟩ := h
  cases hv; exact ⟨rfl, hc⟩
theorem fXl_nil (I : IM) : FXl I [] (.slice none 0 0) := ⟨none, 0, rfl, Nat.le_refl _, fun j x h => by simp at h⟩
theorem fXl_cells {cs : List Value} (h : cs.length = 3) : ∃ v0 v1 v2, cs = [v0, v1, v2] := by
  match cs, h with
  | [v0, v1, v2], _ => exact ⟨v0, v1, v2, rfl⟩
theorem fXl_open {H : Type} {enc : TypeId × Value → H} {w : World} {fuel : Nat} {a0 : Option Addr} {len0 cap0 : Nat} {x : DataW H × List MemPlace} (hf : DataW.trod enc Tryd.prog w 0 (fun _ => true) true fuel 22 [.slice a0 len0 cap0] = some x) :
    ∃ L, FXl (fun k => w.heap[k]?) L (.slice a0 len0 cap0) ∧ L.length ≤ maxLen := by
  rcases Go.Deep.open_slice Tryd.underlying22 hf with ⟨hcs, _⟩ | ⟨a, len, cap, m, n, D, Pl, hcs, _, hl, hml, hm, _, hx⟩
  · simp at hcs
    obtain ⟨rfl, rfl, rfl⟩ := hcs
    exact ⟨[], fXl_nil _, Nat.zero_le _⟩
  · simp at hcs
    obtain ⟨rfl, rfl, rfl⟩ := hcs
    have hm' : m = cap0 := by simpa using hm
    subst hm'
    have ce : Tryd.prog.cellsOf 39 = 3 := by kernel_rfl
    have c3 : Tryd.prog.cellsOf 3 = 1 := by kernel_rfl
    have c9 : Tryd.prog.cellsOf 9 = 1 := by kernel_rfl
    have one : ∀ i, i < len0 → ∃ y : FX, (-9223372036854775808 ≤ y.k ∧ y.k < 9223372036854775808 ∧ y.a.length ≤ maxLen ∧ y.v.length ≤ maxLen) ∧ w.cell? (a.add (i * 3)) = some (.int .i64 y.k) ∧ w.cell? (a.add (i * 3 + 1)) = some (.string ⟨y.a.toArray⟩) ∧ w.cell? (a.add (i * 3 + 2)) = some (.string ⟨y.v.toArray⟩) := by
      intro i hi
      obtain ⟨cs', h1, h2⟩ := hx i (by omega)
      rw [ce] at h1
      obtain ⟨_, hlen, hcell⟩ := World.cells?_some h1
      obtain ⟨xs, n', _, _, _, hxl, hfs⟩ := DataW.trod_struct Tryd.underlying39 h2
      obtain ⟨v0, v1, v2, rfl⟩ := fXl_cells hlen
      have hxl' : xs.length = 3 := hxl
      have hx0 : 0 < xs.length := by omega
      have t0 := hfs 0 _ rfl
      rw [List.getElem?_eq_getElem hx0] at t0
      simp [c3] at t0
      obtain ⟨y0, e0, _, b0⟩ := DataW.trod_int Tryd.underlying3 t0
      simp at e0
      subst e0
      have hx1 : 1 < xs.length := by omega
      have t1 := hfs 1 _ rfl
      rw [List.getElem?_eq_getElem hx1] at t1
      simp [c9] at t1
      obtain ⟨y1, e1, _, b1⟩ := DataW.trod_string Tryd.underlying9 t1
      simp at e1
      subst e1
      have hx2 : 2 < xs.length := by omega
      have t2 := hfs 2 _ rfl
      rw [List.getElem?_eq_getElem hx2] at t2
      simp [c9] at t2
      obtain ⟨y2, e2, _, b2⟩ := DataW.trod_string Tryd.underlying9 t2
      simp at e2
      subst e2
      have d0 : -9223372036854775808 ≤ y0 ∧ y0 < 9223372036854775808 := by
        have := b0; simp [Lit.wf, IntKind.min, IntKind.max, IntKind.signed, IntKind.bits] at this; omega
      have g0 := hcell 0 (by omega)
      have g1 := hcell 1 (by omega)
      have g2 := hcell 2 (by omega)
      rw [Go.Deep.add_add] at g0 g1 g2
      exact ⟨⟨y0, y1.data.toList, y2.data.toList⟩, ⟨d0.1, d0.2, b1, b2⟩, (by simpa using g0), (by simpa using g1), (by simpa using g2)⟩
    obtain ⟨f, hfn⟩ := Go.Deep.choose_lt one
    refine ⟨(List.range len0).map f, ⟨some a, m, by simp, by simpa using hl, fun j y hj => ?_⟩, by simp; omega⟩
    have hj' : j < len0 := by
      have := (List.getElem?_eq_some_iff.1 hj).1
      simpa using this
    have hy : y = f j := by simpa [hj'] using hj.symm
    subst hy
    obtain ⟨hb, h0, h1, h2⟩ := hfn j hj'
    obtain ⟨b, o, sp⟩ := a
    cases sp with
    | none =>
      rw [addr_addO b o (j * 3)] at h0
      obtain ⟨cs0, T0, fr0, e0, k0⟩ := cell_block h0
      rw [addr_addO b o (j * 3 + 1)] at h1
      obtain ⟨cs1, T1, fr1, e1, k1⟩ := cell_block h1
      rw [addr_addO b o (j * 3 + 2)] at h2
      obtain ⟨cs2, T2, fr2, e2, k2⟩ := cell_block h2
      rw [e0] at e1
      cases e1
      rw [e0] at e2
      cases e2
      exact ⟨hb, b, o, cs0, T0, fr0, rfl, e0, k0, (by rw [Nat.add_assoc]; exact k1), (by rw [Nat.add_assoc]; exact k2)⟩
    | some sp =>
      exfalso
      obtain ⟨_, h0, _⟩ := hfn 0 (by omega)
      unfold World.cell? Addr.add at h0
      rw [if_pos (by rfl)] at h0
      revert h0
      split <;> simp
def toFe (x : FX) : Fe := ⟨x.k, x.a, x.v⟩
theorem fxl_fsl {I : IM} {L : List FX} {v : Value} (h : FXl I L v) : FSl I (L.map toFe) v := by
  obtain ⟨a, cap, hv, hc, hr⟩ := h
  refine ⟨a, cap, by rw [List.length_map]; exact hv, by rw [List.length_map]; exact hc, fun j x hj => ?_⟩
  rw [List.getElem?_map] at hj
  cases hq : L[j]? with
  | none => rw [hq] at hj; cases hj
  | some y =>
    rw [hq] at hj
    simp only [Option.map_some, Option.some.injEq] at hj
    subst hj
    obtain ⟨_, b, o, cs, T, fr, h1, h2, h3, h4, h5⟩ := hr j y hq
    exact ⟨b, o, cs, T, fr, h1, h2, h3, h4, h5⟩
/-- fields that came in -/
def FIn (I : IM) (L : List Fe) (v : Value) : Prop := FSl I L v ∧ L.length ≤ maxLen
theorem fin_open {H : Type} {enc : TypeId × Value → H} {w : World} {fuel : Nat} {a0 : Option Addr} {len0 cap0 : Nat} {x : DataW H × List MemPlace} (hf : DataW.trod enc Tryd.prog w 0 (fun _ => true) true fuel 22 [.slice a0 len0 cap0] = some x) :
    ∃ L, FIn (fun k => w.heap[k]?) L (.slice a0 len0 cap0) := by
  obtain ⟨L, h, hl⟩ := fXl_open hf
  exact ⟨L.map toFe, fxl_fsl h, by rw [List.length_map]; exact hl⟩
end Go.Proofs.YtcpmjogeafhpnaaDoor
/- Slices of slices of fields: cards, and what cards are made of. -/
set_option linter.all false
set_option maxRecDepth 100000
namespace Go.Proofs.YtcpmjogeafhpnaaDoor
open Go.RowKit Go.Sep
def SFl (I : IM) (L : List (List Fe)) (v : Value) : Prop := ∃ a cap, v = .slice a L.length cap ∧ L.length ≤ cap ∧ ∀ (j : Nat) (x : List Fe), L[j]? = some x → ∃ (b o : Nat) (cs : Array Value) (T : TypeId) (fr : Nat × Nat) (u : Value), a = some ⟨b, o, none⟩ ∧ I b = some (.cells cs T fr) ∧ cs[o + j]? = some u ∧ FSl I x u
theorem SFl.mono {I J : IM} (le : I.Le J) {L : List (List Fe)} {v : Value} (h : SFl I L v) : SFl J L v := by
  obtain ⟨a, cap, hv, hc, hr⟩ := h
  refine ⟨a, cap, hv, hc, fun j x hj => ?_⟩
  obtain ⟨b, o, cs, T, fr, u, h1, h2, h3, h4⟩ := hr j x hj
  exact ⟨b, o, cs, T, fr, u, h1, le _ _ h2, h3, h4.mono le⟩
theorem SFl.cap {I : IM} {L : List (List Fe)} {a : Option Addr} {n c : Nat} (h : SFl I L (.slice a n c)) : n = L.length ∧ L.length ≤ c := by
  obtain ⟨a', c', hv, hc, _⟩ := h
  cases hv; exact ⟨rfl, hc⟩
theorem SFl.open {I : IM} {L : List (List Fe)} {v : Value} (h : SFl I L v) : ∃ a c, v = .slice a L.length c ∧ L.length ≤ c ∧ SFl I L (.slice a L.length c) := by
  obtain ⟨a, c, rfl, hc, hr⟩ := h
  exact ⟨a, c, rfl, hc, a, c, rfl, hc, hr⟩
theorem under83s : Tryd.prog.underlying 83 = some (.slice 22) := by kernel_rfl
theorem under84s : Tryd.prog.underlying 84 = some (.slice 26) := by kernel_rfl
theorem size22s (w : World) : (sizeOf 22).run Tryd.prog w = .ok 1 w := by kernel_rfl
theorem size26s (w : World) : (sizeOf 26).run Tryd.prog w = .ok 1 w := by kernel_rfl
theorem getD_someF {L : List (List Fe)} {i : Nat} (h : i < L.length) : L[i]? = some (L.getD i []) := by simp [h]
theorem sfl_idx83 {I : IM} {w : World} {L : List (List Fe)} {a : Option Addr} {n c i : Nat} (h : SFl I L (.slice a n c)) (hi : i < L.length) :
    (Instr.indexAt 83 (.slice a n c) (.int .i64 ((i : Nat) : Int))).run Tryd.prog w = .ok (.pointer (pAt a i)) w := by
  obtain ⟨a', c', hv, hc, hr⟩ := h
  cases hv
  obtain ⟨b, o, cs, T, fr, u, rfl, h2, h3, h4⟩ := hr i _ (getD_someF hi)
  have h2 : (i : Int) < (L.length : Int) := by omega
  simp [Instr.indexAt, asIntOf, run_underlying under83s, size22s, h2, pAt]
  intro h3; omega
theorem sfl_idx84 {I : IM} {w : World} {L : List (List Fe)} {a : Option Addr} {n c i : Nat} (h : SFl I L (.slice a n c)) (hi : i < L.length) :
    (Instr.indexAt 84 (.slice a n c) (.int .i64 ((i : Nat) : Int))).run Tryd.prog w = .ok (.pointer (pAt a i)) w := by
  obtain ⟨a', c', hv, hc, hr⟩ := h
  cases hv
  obtain ⟨b, o, cs, T, fr, u, rfl, h2, h3, h4⟩ := hr i _ (getD_someF hi)
  have h2 : (i : Int) < (L.length : Int) := by omega
  simp [Instr.indexAt, asIntOf, run_underlying under84s, size26s, h2, pAt]
  intro h3; omega
theorem sfl_ld22 {I : IM} {w : World} (hS : I.Sub w) {L : List (List Fe)} {a : Option Addr} {n c i : Nat} (h : SFl I L (.slice a n c)) (hi : i < L.length) :
    ∃ a' c', (Instr.loadAt 22 (.pointer (pAt a i))).run Tryd.prog w = .ok (.slice a' (List.length (L.getD i [])) c') w ∧ FSl I (L.getD i []) (.slice a' (List.length (L.getD i [])) c') := by
  obtain ⟨a', c', hv, hc, hr⟩ := h
  cases hv
  obtain ⟨b, o, cs, T, fr, u, rfl, h2, h3, h4⟩ := hr i _ (getD_someF hi)
  obtain ⟨a2, c2, rfl, _, h5⟩ := h4.open
  refine ⟨a2, c2, ?_, h5⟩
  have e : (Instr.loadAt 22 (.pointer (pAt (some ⟨b, o, none⟩) i))).run Tryd.prog w = (load ⟨b, o + i, none⟩).run Tryd.prog w := by
    rw [show pAt (some ⟨b, o, none⟩) i = some ⟨b, o + i, none⟩ from congrArg some (addr_addO b o i)]
    kernel_rfl
  have hc := run_cell (a := ⟨b, o + i, none⟩) (hS _ _ h2) rfl rfl
  rw [h3] at hc
  rw [e]; simp only [load, Sem.run, hc]
theorem sfl_ld26 {I : IM} {w : World} (hS : I.Sub w) {L : List (List Fe)} {a : Option Addr} {n c i : Nat} (h : SFl I L (.slice a n c)) (hi : i < L.length) :
    ∃ a' c', (Instr.loadAt 26 (.pointer (pAt a i))).run Tryd.prog w = .ok (.agg #[.slice a' (List.length (L.getD i [])) c']) w ∧ FSl I (L.getD i []) (.slice a' (List.length (L.getD i [])) c') := by
  obtain ⟨a', c', hv, hc, hr⟩ := h
  cases hv
  obtain ⟨b, o, cs, T, fr, u, rfl, h2, h3, h4⟩ := hr i _ (getD_someF hi)
  obtain ⟨a2, c2, rfl, _, h5⟩ := h4.open
  refine ⟨a2, c2, ?_, h5⟩
  have e : (Instr.loadAt 26 (.pointer (pAt (some ⟨b, o, none⟩) i))).run Tryd.prog w = ((do pure (.agg (← loadCells ⟨b, o + i, none⟩ 1))) : Sem Value).run Tryd.prog w := by
    rw [show pAt (some ⟨b, o, none⟩) i = some ⟨b, o + i, none⟩ from congrArg some (addr_addO b o i)]
    kernel_rfl
  have hc := run_cell (a := ⟨b, o + i, none⟩) (hS _ _ h2) rfl rfl
  rw [h3] at hc
  have l1 : (load ⟨b, o + i, none⟩).run Tryd.prog w = .ok (.slice a2 (List.length (L.getD i [])) c2) w := by simp only [load, Sem.run, hc]
  have a1 : (⟨b, o + i, none⟩ : Addr).add 0 = ⟨b, o + i, none⟩ := rfl
  rw [e]
  simp only [loadCells, loadCellsFrom, Sem.run_bind, Sem.run_pure, a1, Nat.zero_add, l1, Result.andThen_ok]
  rfl
theorem run_to83 {w : World} {a : Option Addr} {n h cap : Nat} (h1 : h ≤ cap) : (Instr.sliceAt 83 (.slice a n cap) none (some (.int .i64 ((h : Nat) : Int))) none).run Tryd.prog w = .ok (.slice a h cap) w := by
  have hb : (Instr.sliceBound (.int .i64 ((h : Nat) : Int)) cap .sliceAcap).run Tryd.prog w = .ok h w := run_bound h1
  simp [Instr.sliceAt, Instr.slice, run_underlying under83s, Instr.sliceBounds, hb, size22s]
  intro _
  exact map_add_zero a
theorem sfl_to {I : IM} {L : List (List Fe)} {a : Option Addr} {n c hi : Nat} (h : SFl I L (.slice a n c)) (h2 : hi ≤ L.length) : SFl I (L.take hi) (.slice a hi c) := by
  obtain ⟨a', c', hv, hc, hr⟩ := h
  cases hv
  refine ⟨_, _, by rw [List.length_take, Nat.min_eq_left h2], by rw [List.length_take]; omega, fun j x hj => ?_⟩
  rw [List.getElem?_take] at hj
  split at hj
  · exact hr _ _ hj
  · cases hj
/-- cells of a row of cards -/
def CSm (I : IM) (Ms : List (List Fe)) (T : List Value) : Prop := T.length = Ms.length ∧ ∀ (j : Nat) (M : List Fe) (u : Value), Ms[j]? = some M → T[j]? = some u → FSl I M u
theorem CSm.mono {I J : IM} (le : I.Le J) {Ms : List (List Fe)} {T : List Value} (h : CSm I Ms T) : CSm J Ms T := ⟨h.1, fun j M u h1 h2 => (h.2 j M u h1 h2).mono le⟩
theorem csm_nil (I : IM) : CSm I [] [] := ⟨rfl, fun j M u h => by simp at h⟩
theorem csm_snoc {I : IM} {Ms : List (List Fe)} {T : List Value} {M : List Fe} {u : Value} (h : CSm I Ms T) (hu : FSl I M u) : CSm I (Ms ++ [M]) (T ++ [u]) := by
  refine ⟨by simp [h.1], fun j M' u' h1 h2 => ?_⟩
  rcases Nat.lt_trichotomy j Ms.length with q | q | q
  · rw [List.getElem?_append_left q] at h1
    rw [List.getElem?_append_left (by rw [h.1]; exact q)] at h2
    exact h.2 j M' u' h1 h2
  · subst q
    rw [List.getElem?_append_right (Nat.le_refl _), Nat.sub_self] at h1
    rw [← h.1, List.getElem?_append_right (Nat.le_refl _), Nat.sub_self] at h2
    simp at h1 h2
    subst h1; subst h2; exact hu
  · have := (List.getElem?_eq_some_iff.1 h1).1
    simp at this; omega
theorem freeze_row26 {w0 : World} {I0 : IM} {m : List Nat} {I : IM} {w : World} {H F : List OB} {Ms : List (List Fe)} {T : List Value} {v : Value} {n : Nat} (s : St w0 I0 m I w (H ++ F)) (h : RowH 26 1 v n T F) (hT : CSm I Ms T) :
    ∃ I', I.Le I' ∧ SFl I' Ms v ∧ St w0 I0 m I' w H := by
  have hl : Ms.length = n := by have h1 := h.1; have h2 := hT.1; omega
  rcases h.2 with ⟨rfl, rfl, rfl⟩ | ⟨g, cap, cur, rfl, rfl, hnc, hcm, hcs, ht⟩
  · have : Ms = [] := List.eq_nil_of_length_eq_zero hl
    subst this
    exact ⟨I, IM.Le.refl I, ⟨none, 0, rfl, Nat.le_refl _, fun j x h => by simp at h⟩, by simpa using s⟩
  · have s2 := (s.perm (H' := (g, .cells cur 26) :: H) (by exact List.perm_append_comm))
    have le := IM.le_add (s2.free (g, .cells cur 26) (by simp)) (.cells cur 26)
    refine ⟨_, le, ?_, s2.freeze⟩
    refine ⟨some ⟨g, 0, none⟩, cap, congrArg (fun q => Value.slice (some ⟨g, 0, none⟩) q cap) hl.symm, by omega, fun j x hj => ?_⟩
    have hj2 := (List.getElem?_eq_some_iff.1 hj).1
    have hu : T[j]? = some (T.getD j (.bool false)) := by have := hT.1; have q : j < T.length := by omega
                                                          simp [q]
    have hx := hT.2 j x _ hj hu
    rw [← ht, List.getElem?_take] at hu
    rw [if_pos (by omega)] at hu
    refine ⟨g, 0, cur, 26, (0, 0), _, rfl, IM.add_self _ _ _, ?_, hx.mono le⟩
    rw [Nat.zero_add]
    rw [← ht] at *
    simpa using hu
/-- what the cards stand on, one behind the other -/
def allC (Ms : List (List Fe)) : List UInt8 := Ms.flatMap encL
theorem allC_snoc {Ms : List (List Fe)} {M : List Fe} : allC Ms ++ encL M = allC (Ms ++ [M]) := by unfold allC; rw [List.flatMap_append]; simp
theorem allC_cons {Ms : List (List Fe)} {i : Nat} (h : i < Ms.length) : allC (Ms.drop i) = encL (Ms.getD i []) ++ allC (Ms.drop (i + 1)) := by
  have e : Ms.drop i = Ms.getD i [] :: Ms.drop (i + 1) := by rw [List.drop_eq_getElem_cons h]; simp [h]
  unfold allC
  rw [e, List.flatMap_cons]
theorem mad_snoc {L : List (List Fe)} {i : Nat} (h : i < L.length) : (L.take i).map madeF ++ [madeF (L.getD i [])] = (L.take (i + 1)).map madeF := by
  have e : L.take (i + 1) = L.take i ++ [L.getD i []] := by rw [List.take_succ, getD_someF h]; rfl
  rw [e, List.map_append]; rfl
theorem mad_getD {L : List (List Fe)} {i : Nat} (h : i < L.length) : (L.map madeF).getD i [] = madeF (L.getD i []) := by simp [h]
theorem made_encl {L : List Fe} : (encL (madeF L)).length ≤ 1000 := by
  have h1 := encL_lenX (X := madeF L) (fun x hx => made_mem hx)
  have h2 := made_len (L := L)
  have h3 : (madeF L).length * 123 ≤ 8 * 123 := Nat.mul_le_mul_right _ h2
  omega
theorem allC_len : ∀ {Ls : List (List Fe)}, (allC (Ls.map madeF)).length ≤ Ls.length * 1000
  | [] => Nat.zero_le _
  | L :: Ls => by
    have h1 := made_encl (L := L)
    have h2 := allC_len (Ls := Ls)
    have e : allC ((L :: Ls).map madeF) = encL (madeF L) ++ allC (Ls.map madeF) := rfl
    rw [e, List.length_append, List.length_cons]; omega
/-- the next card is read from what stands there -/
theorem next_card {Ls : List (List Fe)} {i : Nat} {t : List UInt8} (h : i < Ls.length) : gcP (allC ((Ls.map madeF).drop i) ++ t) = (madeF (Ls.getD i []), allC ((Ls.map madeF).drop (i + 1)) ++ t, 0) := by
  rw [allC_cons (by simpa using h), List.append_assoc, mad_getD h]
  exact gcP_fwd (made_asc _) (fun x hx => made_rt hx) made_len
end Go.Proofs.YtcpmjogeafhpnaaDoor
/- A card is written behind what stands there: a row of one's own. -/
set_option linter.all false
set_option maxRecDepth 100000
namespace Go.Proofs.YtcpmjogeafhpnaaDoor
open Go.RowKit Go.Sep
attribute [local irreducible] Go.wpList Go.Code.wp

set_option maxHeartbeats 4000000 in
theorem putFieldsM_c {I : IM} {l : List UInt8} {a : Option Addr} {c : Nat} (hb : BSl I l (.slice a l.length c)) (hlb : l.length ≤ 500000) {L : List Fe} {a0 : Option Addr} {c0 : Nat} (h0 : FSl I L (.slice a0 L.length c0)) (hl : L.length ≤ 255) (hok : okL L) : FunM Tryd.prog 82 #[.slice a l.length c, .slice a0 L.length c0] I [] (fun v J F => RowH 5 1 v (l ++ encL L).length ((l ++ encL L).map bV) F) := by
 refine enterM_rule 36 [(0, .slice a l.length c), (1, .slice a0 L.length c0)] Tryd.func82 rfl (by kernel_rfl) ?_
 intro w s
 refine seqR ?_
 refine oKD [] [] 1 [] 0 (fun φ1 => [(4, .slice none 0 0)]) (fun φ1 => []) s (fun φ1 => by kernel_rfl) (by kernel_rfl) ?_
 intro φ1 w1 s
 refine seqR ?_
 refine oK [] [] 4 [] 0 (fun φ2 => [(10, .int .u64 (IntKind.wrap .u64 ((L.length : Nat) : Int))), (9, .int .i64 L.length), (8, .slice a0 L.length c0), (7, .slice a l.length c)]) (fun φ2 => []) s (fun φ2 => by kernel_rfl) ?_
 intro φ2 w2 s
 rw [nat_wrapU (a := L.length) (by   (try simp only [List.length_drop, List.length_take, List.length_append, List.length_cons, List.length_nil]); omega)]
 refine callF_rule (F := []) (some 11) s (numB_r (n := L.length) hb (by omega) (by omega)) (by kernel_rfl) ?_
 intro v3 I3 w3 F3 le3 h3 s
 replace h0 := FSl.mono le3 h0
 refine oKD [] F3 1 [] 0 (fun φ4 => [(0, v3)]) (fun φ4 => []) s (fun φ4 => by kernel_rfl) (by kernel_rfl) ?_
 intro φ4 w4 s
 refine wp_seq ?_
 refine seqR ?_
 refine oKD [] F3 3 [] 0 (fun φ5 => [(14, .int .i64 0), (13, .int .i64 L.length), (12, .slice a0 L.length c0)]) (fun φ5 => []) s (fun φ5 => by kernel_rfl) (by kernel_rfl) ?_
 intro φ5 w5 s
 refine wp_block ?_
 have hle6 := IM.Le.refl I3
 refine loop_rule (fun (x : Nat × Value × List OB) => [(1, .slice a0 L.length c0), (4, .slice none 0 0), (12, .slice a0 L.length c0), (13, .int .i64 L.length), (14, .int .i64 x.1), (0, x.2.1)]) (fun (x : Nat × Value × List OB) => [] ++ x.2.2) (fun m (x : Nat × Value × List OB) J => IM.Le I3 J ∧ x.1 + m = L.length ∧ RowH 5 1 x.2.1 (l ++ encF 9 L.length ++ (L.take x.1).flatMap encFe).length ((l ++ encF 9 L.length ++ (L.take x.1).flatMap encFe).map bV) x.2.2) (L.length) (0, v3, F3) s (by kernel_rfl) (List.Sublist.refl _) ⟨IM.Le.refl _, Nat.zero_add _, row_eqB h3 (by simp)⟩ ?_
 rintro m7 ⟨i7, v7, F7⟩ I7 w7 ev7 s ⟨le7, hi7_0, hi7_1⟩
 try dsimp only at s hi7_0 hi7_1 ⊢
 replace h0 := FSl.mono le7 h0
 replace hle6 := leMono le7 hle6
 have hs9 := encs_len hok i7 (by have := hi7_0; omega)
 have hn9 := (encF_len 9 L.length).2
 have ha9 := (encF_len 9 (L.getD i7 Fe.z).a.length).2
 have hv9 := (encF_len 9 (L.getD i7 Fe.z).v.length).2
 have hx9 : i7 < L.length → okFe (L.getD i7 Fe.z) := hok i7
 refine seqR ?_
 refine oK [] F7 1 [] 0 (fun φ8 => [(15, .bool (decide (((i7 : Nat) : Int) < ((L.length : Nat) : Int))))]) (fun φ8 => []) s (fun φ8 => by kernel_rfl) ?_
 intro φ8 w8 s
 rw [nat_lss (a := i7) (b := L.length)]
 refine ops_done (by kernel_rfl) ?_
 refine wp_seq ?_
 rcases Bool.eq_false_or_eq_true (decide (i7 < L.length)) with hc9 | hc9
 ·
  rw [hc9]
  refine cond_true_rule (b := true) (by kernel_rfl) rfl ?_
  refine wp_skip ?_
  refine wp_seq ?_
  refine wp_block ?_
  refine seqR ?_
  refine sem_rule (Instr.indexAt 22 (.slice a0 L.length c0) (.int .i64 i7)) (some 16) (.pointer (pAt a0 (i7 * 3))) (by kernel_rfl) (fsl_idx22 h0 (by have e8 := hi7_0; have hq0 := dT9 hc9; omega)) ?_
  refine sem_rule (Instr.loadAt 39 (.pointer (pAt a0 (i7 * 3)))) (some 17) (.agg #[.int .i64 ((List.getD L i7 Fe.z).k), .string ⟨((List.getD L i7 Fe.z).a).toArray⟩, .string ⟨((List.getD L i7 Fe.z).v).toArray⟩]) (by kernel_rfl) (fsl_ld39 s.sub h0 (by have e8 := hi7_0; have hq0 := dT9 hc9; omega)) ?_
  refine oAD [] F7 2 [.o 0, .o 0, .o 0] 1 (fun φ10 => [(6, pB (φ10 0))]) (fun φ10 => [(φ10 0, .cells #[.int .i64 ((List.getD L i7 Fe.z).k), .string ⟨((List.getD L i7 Fe.z).a).toArray⟩, .string ⟨((List.getD L i7 Fe.z).v).toArray⟩] 39)]) (fun φ10 => [φ10 0, φ10 0, φ10 0]) s (fun φ10 => by kernel_rfl) (by kernel_rfl) ?_
  intro φ10 w10 s
  refine seqR ?_
  refine oK _ F7 3 [.o 0] 0 (fun φ11 => [(20, .int .i64 ((List.getD L i7 Fe.z).k)), (19, pB (φ10 0)), (18, v7)]) (fun φ11 => [(φ10 0)]) s (fun φ11 => by kernel_rfl) ?_
  intro φ11 w11 s
  refine sem_rule (convert 3 5 (.int .i64 ((List.getD L i7 Fe.z).k))) (some 21) (.int .u8 ((((List.getD L i7 Fe.z).k).toNat : Nat) : Int)) (by kernel_rfl) (run_conv35 (hok i7 (by have hq0 := dT9 hc9; omega)).1 (hok i7 (by have hq0 := dT9 hc9; omega)).2.1) ?_
  refine oA _ F7 1 [] 1 (fun φ12 => [(22, .slice (some ⟨(φ12 0), 0, none⟩) 1 1)]) (fun φ12 => [(φ10 0, .cells #[.int .i64 ((List.getD L i7 Fe.z).k), .string ⟨((List.getD L i7 Fe.z).a).toArray⟩, .string ⟨((List.getD L i7 Fe.z).v).toArray⟩] 39), (φ12 0, .cells #[.int .u8 ((((List.getD L i7 Fe.z).k).toNat : Nat) : Int)] 5)]) (fun φ12 => []) s (fun φ12 => by kernel_rfl) ?_
  intro φ12 w12 s
  refine append_rule (H := [(φ10 0, .cells #[.int .i64 ((List.getD L i7 Fe.z).k), .string ⟨((List.getD L i7 Fe.z).a).toArray⟩, .string ⟨((List.getD L i7 Fe.z).v).toArray⟩] 39), (φ12 0, .cells #[.int .u8 ((((List.getD L i7 Fe.z).k).toNat : Nat) : Int)] 5)]) (F := F7) 61 61 5 Tryd.t5 (.int .u8 0) 1 1 (some 23) s Tryd.underlying61 (by kernel_rfl) (by kernel_rfl) (by kernel_rfl) (by kernel_rfl) (by kernel_rfl) (by decide) hi7_1 (src_own (H := [(φ10 0, .cells #[.int .i64 ((List.getD L i7 Fe.z).k), .string ⟨((List.getD L i7 Fe.z).a).toArray⟩, .string ⟨((List.getD L i7 Fe.z).v).toArray⟩] 39), (φ12 0, .cells #[.int .u8 ((((List.getD L i7 Fe.z).k).toNat : Nat) : Int)] 5)]) s 1 (φ12 0) #[.int .u8 ((((List.getD L i7 Fe.z).k).toNat : Nat) : Int)] 5 61 5 1 1 1 [.int .u8 ((((List.getD L i7 Fe.z).k).toNat : Nat) : Int)] (by kernel_rfl) under34 (by kernel_rfl) (by kernel_rfl) (by kernel_rfl)) (by have hq0 := dT9 hc9; have h9 := hx9 (by omega); obtain ⟨h1, h2, h3, h4⟩ := h9; (try simp only [maxLen, List.length_append, List.length_cons, List.length_nil] at *); omega) (by have hq0 := dT9 hc9; have h9 := hx9 (by omega); obtain ⟨h1, h2, h3, h4⟩ := h9; (try simp only [maxLen, List.length_append, List.length_cons, List.length_nil] at *); omega) (by kernel_rfl) ?_
  intro v13 w13 F13 s h13
  replace h13 : RowH 5 1 v13 ((l ++ encF 9 L.length ++ (L.take i7).flatMap encFe ++ ([UInt8.ofNat (((List.getD L i7 Fe.z).k).toNat)] : List UInt8)).length) ((l ++ encF 9 L.length ++ (L.take i7).flatMap encFe ++ ([UInt8.ofNat (((List.getD L i7 Fe.z).k).toNat)] : List UInt8)).map bV) F13 := row_snoc (x := (l ++ encF 9 L.length ++ (L.take i7).flatMap encFe)) (y := ([UInt8.ofNat (((List.getD L i7 Fe.z).k).toNat)] : List UInt8)) h13 (by simp only [List.map_cons, List.map_nil]; exact cells_bytes1 (by have hq0 := dT9 hc9; have h9 := hx9 (by omega); obtain ⟨h1, h2, h3, h4⟩ := h9; omega))
  refine oKD _ F13 1 [] 0 (fun φ14 => [(0, v13)]) (fun φ14 => []) s (fun φ14 => by kernel_rfl) (by kernel_rfl) ?_
  intro φ14 w14 s
  refine seqR ?_
  refine oK _ F13 3 [.o 0] 0 (fun φ15 => [(26, .string ⟨((List.getD L i7 Fe.z).a).toArray⟩), (25, .pointer (some ⟨(φ10 0), 1, none⟩)), (24, v13)]) (fun φ15 => [(φ10 0)]) s (fun φ15 => by kernel_rfl) ?_
  intro φ15 w15 s
  refine call_rule (some 27) s (wtext_c (ss := (List.getD L i7 Fe.z).a) (by have h9 := hok i7 (by have hq0 := dT9 hc9; omega); obtain ⟨-, -, h3, h4⟩ := h9; omega)) (by kernel_rfl) ?_
  intro v16 I16 w16 le16 h16 s
  replace hle6 := leMono le16 hle6
  obtain ⟨a16, c16, rfl, h16_0⟩ := h16
  refine append_rule (H := [(φ10 0, .cells #[.int .i64 ((List.getD L i7 Fe.z).k), .string ⟨((List.getD L i7 Fe.z).a).toArray⟩, .string ⟨((List.getD L i7 Fe.z).v).toArray⟩] 39), (φ12 0, .cells #[.int .u8 ((((List.getD L i7 Fe.z).k).toNat : Nat) : Int)] 5)]) (F := F13) 61 61 5 Tryd.t5 (.int .u8 0) 1 1 (some 28) s Tryd.underlying61 (by kernel_rfl) (by kernel_rfl) (by kernel_rfl) (by kernel_rfl) (by kernel_rfl) (by decide) h13 (src_bsl s.sub h16_0) (by have hq0 := dT9 hc9; have h9 := hx9 (by omega); obtain ⟨h1, h2, h3, h4⟩ := h9; (try simp only [maxLen, List.length_append, List.length_cons, List.length_nil] at *); omega) (by have hq0 := dT9 hc9; have h9 := hx9 (by omega); obtain ⟨h1, h2, h3, h4⟩ := h9; (try simp only [maxLen, List.length_append, List.length_cons, List.length_nil] at *); omega) (by kernel_rfl) ?_
  intro v17 w17 F17 s h17
  replace h17 : RowH 5 1 v17 ((l ++ encF 9 L.length ++ (L.take i7).flatMap encFe ++ ([UInt8.ofNat (((List.getD L i7 Fe.z).k).toNat)] : List UInt8) ++ (encF 9 (List.length ((List.getD L i7 Fe.z).a)) ++ (List.getD L i7 Fe.z).a)).length) ((l ++ encF 9 L.length ++ (L.take i7).flatMap encFe ++ ([UInt8.ofNat (((List.getD L i7 Fe.z).k).toNat)] : List UInt8) ++ (encF 9 (List.length ((List.getD L i7 Fe.z).a)) ++ (List.getD L i7 Fe.z).a)).map bV) F17 := row_app (x := (l ++ encF 9 L.length ++ (L.take i7).flatMap encFe ++ ([UInt8.ofNat (((List.getD L i7 Fe.z).k).toNat)] : List UInt8))) (y := (encF 9 (List.length ((List.getD L i7 Fe.z).a)) ++ (List.getD L i7 Fe.z).a)) h17
  refine oKD _ F17 1 [] 0 (fun φ18 => [(0, v17)]) (fun φ18 => []) s (fun φ18 => by kernel_rfl) (by kernel_rfl) ?_
  intro φ18 w18 s
  refine region_rule ?_
  refine oK _ F17 3 [.o 0] 0 (fun φ19 => [(31, .string ⟨((List.getD L i7 Fe.z).v).toArray⟩), (30, .pointer (some ⟨(φ10 0), 2, none⟩)), (29, v17)]) (fun φ19 => [(φ10 0)]) s (fun φ19 => by kernel_rfl) ?_
  intro φ19 w19 s
  refine call_rule (some 32) s (wtext_c (ss := (List.getD L i7 Fe.z).v) (by have h9 := hok i7 (by have hq0 := dT9 hc9; omega); obtain ⟨-, -, h3, h4⟩ := h9; omega)) (by kernel_rfl) ?_
  intro v20 I20 w20 le20 h20 s
  replace hle6 := leMono le20 hle6
  obtain ⟨a20, c20, rfl, h20_0⟩ := h20
  refine append_rule (H := [(φ10 0, .cells #[.int .i64 ((List.getD L i7 Fe.z).k), .string ⟨((List.getD L i7 Fe.z).a).toArray⟩, .string ⟨((List.getD L i7 Fe.z).v).toArray⟩] 39), (φ12 0, .cells #[.int .u8 ((((List.getD L i7 Fe.z).k).toNat : Nat) : Int)] 5)]) (F := F17) 61 61 5 Tryd.t5 (.int .u8 0) 1 1 (some 33) s Tryd.underlying61 (by kernel_rfl) (by kernel_rfl) (by kernel_rfl) (by kernel_rfl) (by kernel_rfl) (by decide) h17 (src_bsl s.sub h20_0) (by have hq0 := dT9 hc9; have h9 := hx9 (by omega); obtain ⟨h1, h2, h3, h4⟩ := h9; (try simp only [maxLen, List.length_append, List.length_cons, List.length_nil] at *); omega) (by have hq0 := dT9 hc9; have h9 := hx9 (by omega); obtain ⟨h1, h2, h3, h4⟩ := h9; (try simp only [maxLen, List.length_append, List.length_cons, List.length_nil] at *); omega) (by kernel_rfl) ?_
  intro v21 w21 F21 s h21
  replace h21 : RowH 5 1 v21 ((l ++ encF 9 L.length ++ (L.take i7).flatMap encFe ++ ([UInt8.ofNat (((List.getD L i7 Fe.z).k).toNat)] : List UInt8) ++ (encF 9 (List.length ((List.getD L i7 Fe.z).a)) ++ (List.getD L i7 Fe.z).a) ++ (encF 9 (List.length ((List.getD L i7 Fe.z).v)) ++ (List.getD L i7 Fe.z).v)).length) ((l ++ encF 9 L.length ++ (L.take i7).flatMap encFe ++ ([UInt8.ofNat (((List.getD L i7 Fe.z).k).toNat)] : List UInt8) ++ (encF 9 (List.length ((List.getD L i7 Fe.z).a)) ++ (List.getD L i7 Fe.z).a) ++ (encF 9 (List.length ((List.getD L i7 Fe.z).v)) ++ (List.getD L i7 Fe.z).v)).map bV) F21 := row_app (x := (l ++ encF 9 L.length ++ (L.take i7).flatMap encFe ++ ([UInt8.ofNat (((List.getD L i7 Fe.z).k).toNat)] : List UInt8) ++ (encF 9 (List.length ((List.getD L i7 Fe.z).a)) ++ (List.getD L i7 Fe.z).a))) (y := (encF 9 (List.length ((List.getD L i7 Fe.z).v)) ++ (List.getD L i7 Fe.z).v)) h21
  refine oKD _ F21 1 [] 0 (fun φ22 => [(0, v21)]) (fun φ22 => []) s (fun φ22 => by kernel_rfl) (by kernel_rfl) ?_
  intro φ22 w22 s
  refine region_rule ?_
  refine oK _ F21 2 [] 0 (fun φ23 => [(14, .int .i64 (IntKind.wrap .i64 (((i7 : Nat) : Int) + ((1 : Nat) : Int)))), (34, .int .i64 (IntKind.wrap .i64 (((i7 : Nat) : Int) + ((1 : Nat) : Int))))]) (fun φ23 => []) s (fun φ23 => by kernel_rfl) ?_
  intro φ23 w23 s
  rw [nat_addI (a := i7) (b := 1) (by have e8 := hi7_0; have hq0 := dT9 hc9; omega)]
  refine ops_done (by kernel_rfl) ?_
  exact ⟨⟨m7 - 1, (i7 + 1, v21, F21), _, _, _, by have hq0 := dT9 hc9; have := hi7_0; omega, rfl, s, (List.Sublist.append (List.Sublist.cons _ (List.Sublist.cons _ List.Sublist.slnil)) (List.Sublist.refl _)), by kernel_rfl, hle6, by have hq0 := dT9 hc9; have := hi7_0; show i7 + 1 + (m7 - 1) = L.length; omega, row_eqB h21 (put_next (by have hq0 := dT9 hc9; have := hi7_0; omega))⟩⟩
 ·
  rw [hc9]
  refine cond_false_rule (b := false) (by kernel_rfl) rfl ?_
  refine wp_exit ?_
  refine seqR ?_
  refine oKD [] F7 2 [] 0 (fun φ24 => [(4, v7), (35, v7)]) (fun φ24 => []) s (fun φ24 => by kernel_rfl) (by kernel_rfl) ?_
  intro φ24 w24 s
  refine wp_ret ?_
  refine ret_rule (C := []) [] F7 (v7) [] [] s trivial (by kernel_rfl) ?_
  replace s := s.drop (List.sublist_append_right [] F7)
  have ei : i7 = L.length := by have hq0 := dF9 hc9; have := hi7_0; omega
  have hr9 := row_eqB (l2 := l ++ encL L) hi7_1 (by rw [ei]; exact put_end)
  exact ⟨_, _, _, rfl, s, hr9⟩

set_option maxHeartbeats 1000000 in
theorem putCardM_c {I : IM} {l : List UInt8} {a : Option Addr} {c : Nat} (hb : BSl I l (.slice a l.length c)) (hlb : l.length ≤ 500000) {L : List Fe} {a0 : Option Addr} {c0 : Nat} (h0 : FSl I L (.slice a0 L.length c0)) (hl : L.length ≤ 255) (hok : okL L) : FunM Tryd.prog 50 #[.slice a l.length c, .agg #[.slice a0 L.length c0]] I [] (fun v J F => RowH 5 1 v (l ++ encL L).length ((l ++ encL L).map bV) F) := by
 refine enterM_rule 9 [(0, .slice a l.length c), (1, .agg #[.slice a0 L.length c0])] Tryd.func50 rfl (by kernel_rfl) ?_
 intro w s
 refine seqR ?_
 refine oAD [] [] 2 [] 1 (fun φ1 => [(4, .slice none 0 0), (3, pB (φ1 0))]) (fun φ1 => [(φ1 0, .cells #[.slice a0 L.length c0] 26)]) (fun φ1 => []) s (fun φ1 => by kernel_rfl) (by kernel_rfl) ?_
 intro φ1 w1 s
 refine seqR ?_
 refine oK _ [] 2 [.o 0] 0 (fun φ2 => [(6, .agg #[.slice a0 L.length c0]), (5, .slice a l.length c)]) (fun φ2 => [(φ1 0)]) s (fun φ2 => by kernel_rfl) ?_
 intro φ2 w2 s
 refine call_rule (some 7) s (fieldsL_c h0 hl) (by kernel_rfl) ?_
 intro v3 I3 w3 le3 h3 s
 replace hb := BSl.mono le3 hb
 obtain ⟨a3, c3, rfl, h3_0⟩ := h3
 refine callF_rule (F := []) (some 8) s (putFieldsM_c (l := l) hb hlb h3_0 hl hok) (by kernel_rfl) ?_
 intro v4 I4 w4 F4 le4 h4 s
 refine oKD _ F4 1 [] 0 (fun φ5 => [(4, v4)]) (fun φ5 => []) s (fun φ5 => by kernel_rfl) (by kernel_rfl) ?_
 intro φ5 w5 s
 refine wp_ret ?_
 refine ret_rule (C := []) _ F4 (v4) [] [] s trivial (by kernel_rfl) ?_
 replace s := s.drop (List.sublist_append_right [((φ1 0), .cells #[.slice a0 L.length c0] 26)] F4)
 exact ⟨_, _, _, rfl, s, h4⟩

end Go.Proofs.YtcpmjogeafhpnaaDoor
