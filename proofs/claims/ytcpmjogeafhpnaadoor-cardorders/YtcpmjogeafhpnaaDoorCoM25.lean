/- A field is put in: the document. -/
import Derived.Test.YtcpmjogeafhpnaaDoorCoM24
set_option linter.all false
set_option maxRecDepth 100000
namespace Go.Proofs.YtcpmjogeafhpnaaDoor
open Go.RowKit Go.Sep
attribute [local irreducible] Go.wpList Go.Code.wp

theorem has_next {M : List Fe} {x : Fe} {i : Nat} (h : ∀ j, j < i → M.getD j Fe.z ≠ x) (hi : M.getD i Fe.z ≠ x) : ∀ j, j < i + 1 → M.getD j Fe.z ≠ x := fun j hj => by
  by_cases e : j = i
  · subst e; exact hi
  · exact h j (by omega)
theorem mem_at {M : List Fe} {x : Fe} {i : Nat} (hi : i < M.length) (h : M.getD i Fe.z = x) : x ∈ M := by rw [← h]; simp [hi]
theorem mem_not {M : List Fe} {x : Fe} (h : ∀ j, j < M.length → M.getD j Fe.z ≠ x) : x ∉ M := fun hm => by
  obtain ⟨i, hi, he⟩ := List.getElem_of_mem hm
  exact h i hi (by simp [hi, he])
/-- what was copied, behind i of them -/
def outP (M : List Fe) (x : Fe) (i : Nat) : List Fe := if i ≤ rk M x then M.take i else M.take (rk M x) ++ x :: (M.take i).drop (rk M x)
theorem outP_miss {M : List Fe} {x : Fe} {i : Nat} (hx : x ∉ M) (hr : i ≤ rk M x) (hi : i < M.length) (h : lesFe x (M.getD i Fe.z) = false) : outP M x i ++ [M.getD i Fe.z] = outP M x (i + 1) ∧ i + 1 ≤ rk M x := by
  have h1 : i + 1 ≤ rk M x := by
    by_cases e : i = rk M x
    · have h2 := rk_not (M := M) (x := x) (by omega)
      rw [← e] at h2
      rcases les_totFe x (M.getD i Fe.z) with q | q | q
      · rw [q] at h; cases h
      · exact absurd (mem_at hi q.symm) hx
      · rw [q] at h2; cases h2
    · omega
  refine ⟨?_, h1⟩
  unfold outP
  rw [if_pos hr, if_pos h1, fe_take hi]
theorem outP_hit {M : List Fe} {x : Fe} {i : Nat} (hx : x ∉ M) (hr : i ≤ rk M x) (hi : i < M.length) (h : lesFe x (M.getD i Fe.z) = true) : outP M x i ++ [x] ++ [M.getD i Fe.z] = outP M x (i + 1) ∧ rk M x < i + 1 := by
  have h1 : i = rk M x := by
    by_cases e : i < rk M x
    · have := les_asym h; rw [rk_les e] at this; cases this
    · omega
  refine ⟨?_, by omega⟩
  unfold outP
  rw [if_pos hr, if_neg (by omega), fe_take hi, ← h1, List.drop_left' (by rw [List.length_take]; omega)]
  simp
theorem outP_past {M : List Fe} {x : Fe} {i : Nat} (hr : rk M x < i) (hi : i < M.length) : outP M x i ++ [M.getD i Fe.z] = outP M x (i + 1) := by
  unfold outP
  rw [if_neg (by omega), if_neg (by omega), fe_take hi, List.drop_append_of_le_length (by rw [List.length_take]; omega)]
  simp
theorem outP_end {M : List Fe} {x : Fe} {i : Nat} (hx : x ∉ M) (hi : i = M.length) (hr : rk M x < i) : outP M x i = ins M x := by
  subst hi
  unfold outP
  rw [if_neg (by omega), List.take_length, ins_not hx]
theorem outP_last {M : List Fe} {x : Fe} {i : Nat} (hx : x ∉ M) (hi : i = M.length) (hr : i ≤ rk M x) : outP M x i ++ [x] = ins M x := by
  have := rk_le (x := x) M
  have e : rk M x = M.length := by omega
  subst hi
  unfold outP
  rw [if_pos hr, ins_not hx, e, List.take_length, List.drop_length]
theorem outP_len {M : List Fe} {x : Fe} {i : Nat} : (outP M x i).length ≤ M.length + 1 := by
  unfold outP; split
  · rw [List.length_take]; omega
  · have := rk_le (x := x) M
    simp only [List.length_append, List.length_cons, List.length_take, List.length_drop]; omega
theorem row_eq42 {v : Value} {L M : List Fe} {F : List OB} (e : L = M) (h : RowH 42 3 v L.length (fcs L) F) : RowH 42 3 v M.length (fcs M) F := e ▸ h
theorem row_eq39 {v : Value} {L M : List Fe} {F : List OB} (e : L = M) (h : RowH 39 3 v L.length (fcs L) F) : RowH 39 3 v M.length (fcs M) F := e ▸ h
theorem outP_nil42 {M : List Fe} {x : Fe} : RowH 42 3 (.slice none 0 0) (List.length (outP M x 0)) (fcs (outP M x 0)) [] := by
  have e : outP M x 0 = [] := by unfold outP; rw [if_pos (Nat.zero_le _)]; rfl
  rw [e]; exact RowH.nil 42 3

set_option maxHeartbeats 2000000 in
theorem has_c {I : IM} {M : List Fe} {a0 : Option Addr} {c0 : Nat} (h0 : FSl I M (.slice a0 M.length c0)) (hl : M.length ≤ 10000) {xf : Fe} : Fun Tryd.prog 70 #[.slice a0 M.length c0, .agg #[.int .i64 xf.k, .string ⟨(xf.a).toArray⟩, .string ⟨(xf.v).toArray⟩]] I (fun v J => v = .bool (decide (xf ∈ M))) := by
  refine enter_rule 17 [(0, .slice a0 M.length c0), (1, .agg #[.int .i64 xf.k, .string ⟨(xf.a).toArray⟩, .string ⟨(xf.v).toArray⟩])] Tryd.func70 rfl (by kernel_rfl) ?_
  intro w s
  refine wp_seq ?_
  refine region_rule ?_
  refine ops_rule (C := []) [] [] 2 [] 1 (fun φ1 => [(4, .bool false), (3, .pointer (some ⟨(φ1 0), 0, none⟩))]) (fun φ1 => [((φ1 0), .cells #[.int .i64 xf.k, .string ⟨(xf.a).toArray⟩, .string ⟨(xf.v).toArray⟩] 42)]) (fun φ1 => []) s trivial (fun φ1 => by kernel_rfl) ?_
  intro φ1 w1 s
  refine ops_done (by kernel_rfl) ?_
  refine wp_seq ?_
  refine wp_seq ?_
  refine region_rule ?_
  refine ops_rule (C := []) [((φ1 0), .cells #[.int .i64 xf.k, .string ⟨(xf.a).toArray⟩, .string ⟨(xf.v).toArray⟩] 42)] [] 3 [] 0 (fun φ2 => [(9, .int .i64 0), (8, .int .i64 ((M.length : Nat) : Int)), (7, .slice a0 M.length c0)]) (fun φ2 => [((φ1 0), .cells #[.int .i64 xf.k, .string ⟨(xf.a).toArray⟩, .string ⟨(xf.v).toArray⟩] 42)]) (fun φ2 => []) s trivial (fun φ2 => by kernel_rfl) ?_
  intro φ2 w2 s
  refine ops_done (by kernel_rfl) ?_
  refine wp_block ?_
  have hle3 := IM.Le.refl I
  refine loop_rule (fun (x : Nat) => [(0, .slice a0 M.length c0), (3, .pointer (some ⟨(φ1 0), 0, none⟩)), (7, .slice a0 M.length c0), (8, .int .i64 ((M.length : Nat) : Int)), (9, .int .i64 ((x : Nat) : Int))]) (fun (x : Nat) => [((φ1 0), .cells #[.int .i64 xf.k, .string ⟨(xf.a).toArray⟩, .string ⟨(xf.v).toArray⟩] 42)]) (fun m (x : Nat) J => IM.Le I J ∧ x + m = M.length ∧ (∀ j, j < x → M.getD j Fe.z ≠ xf)) (M.length) 0 s (by kernel_rfl) (List.Sublist.cons₂ _ List.Sublist.slnil) ⟨IM.Le.refl _, Nat.zero_add _, fun j h => by omega⟩ ?_
  rintro m4 i4 I4 w4 ev4 s ⟨le4, hi4_0, hi4_1⟩
  try dsimp only at s hi4_0 hi4_1 ⊢
  replace h0 := FSl.mono le4 h0
  replace hle3 := leMono le4 hle3
  refine wp_seq ?_
  refine region_rule ?_
  refine ops_rule (C := []) [((φ1 0), .cells #[.int .i64 xf.k, .string ⟨(xf.a).toArray⟩, .string ⟨(xf.v).toArray⟩] 42)] [] 1 [] 0 (fun φ5 => [(10, .bool (decide (((i4 : Nat) : Int) < ((M.length : Nat) : Int))))]) (fun φ5 => [((φ1 0), .cells #[.int .i64 xf.k, .string ⟨(xf.a).toArray⟩, .string ⟨(xf.v).toArray⟩] 42)]) (fun φ5 => []) s trivial (fun φ5 => by kernel_rfl) ?_
  intro φ5 w5 s
  rw [nat_lss (a := i4) (b := M.length)]
  refine ops_done (by kernel_rfl) ?_
  refine wp_seq ?_
  rcases Bool.eq_false_or_eq_true (decide (i4 < M.length)) with hc6 | hc6
  ·
    rw [hc6]
    refine cond_true_rule (b := true) (by kernel_rfl) rfl ?_
    refine wp_skip ?_
    refine wp_seq ?_
    refine wp_block ?_
    refine wp_seq ?_
    refine region_rule ?_
    refine sem_rule (Instr.indexAt 30 (.slice a0 M.length c0) (.int .i64 ((i4 : Nat) : Int))) (some 11) (.pointer (pAt a0 (i4 * 3))) (by kernel_rfl) (fsl_idx30 h0 (by have e8 := hi4_0; have hq0 := of_decide_eq_true hc6; omega)) ?_
    refine sem_rule (Instr.loadAt 42 (.pointer (pAt a0 (i4 * 3)))) (some 12) (.agg #[.int .i64 ((List.getD M i4 Fe.z).k), .string ⟨((List.getD M i4 Fe.z).a).toArray⟩, .string ⟨((List.getD M i4 Fe.z).v).toArray⟩]) (by kernel_rfl) (fsl_ld42 s.sub h0 (by have e8 := hi4_0; have hq0 := of_decide_eq_true hc6; omega)) ?_
    refine ops_rule (C := []) [((φ1 0), .cells #[.int .i64 xf.k, .string ⟨(xf.a).toArray⟩, .string ⟨(xf.v).toArray⟩] 42)] [] 2 [.o 1, .o 1, .o 1] 1 (fun φ7 => [(6, .pointer (some ⟨(φ7 0), 0, none⟩))]) (fun φ7 => [((φ1 0), .cells #[.int .i64 xf.k, .string ⟨(xf.a).toArray⟩, .string ⟨(xf.v).toArray⟩] 42), ((φ7 0), .cells #[.int .i64 ((List.getD M i4 Fe.z).k), .string ⟨((List.getD M i4 Fe.z).a).toArray⟩, .string ⟨((List.getD M i4 Fe.z).v).toArray⟩] 42)]) (fun φ7 => [(φ7 0), (φ7 0), (φ7 0)]) s trivial (fun φ7 => by kernel_rfl) ?_
    intro φ7 w7 s
    refine ops_done (by kernel_rfl) ?_
    refine wp_seq ?_
    refine region_rule ?_
    refine ops_rule (C := []) [((φ1 0), .cells #[.int .i64 xf.k, .string ⟨(xf.a).toArray⟩, .string ⟨(xf.v).toArray⟩] 42), ((φ7 0), .cells #[.int .i64 ((List.getD M i4 Fe.z).k), .string ⟨((List.getD M i4 Fe.z).a).toArray⟩, .string ⟨((List.getD M i4 Fe.z).v).toArray⟩] 42)] [] 2 [.o 1, .o 1, .o 1, .o 0, .o 0, .o 0] 0 (fun φ8 => [(14, .agg #[.int .i64 xf.k, .string ⟨(xf.a).toArray⟩, .string ⟨(xf.v).toArray⟩]), (13, .agg #[.int .i64 ((List.getD M i4 Fe.z).k), .string ⟨((List.getD M i4 Fe.z).a).toArray⟩, .string ⟨((List.getD M i4 Fe.z).v).toArray⟩])]) (fun φ8 => [((φ1 0), .cells #[.int .i64 xf.k, .string ⟨(xf.a).toArray⟩, .string ⟨(xf.v).toArray⟩] 42), ((φ7 0), .cells #[.int .i64 ((List.getD M i4 Fe.z).k), .string ⟨((List.getD M i4 Fe.z).a).toArray⟩, .string ⟨((List.getD M i4 Fe.z).v).toArray⟩] 42)]) (fun φ8 => [(φ7 0), (φ7 0), (φ7 0), (φ1 0), (φ1 0), (φ1 0)]) s trivial (fun φ8 => by kernel_rfl) ?_
    intro φ8 w8 s
    refine sem_rule (do eqGuard .eql 42 (.tmp 13) (.tmp 14) (.agg #[.int .i64 ((List.getD M i4 Fe.z).k), .string ⟨((List.getD M i4 Fe.z).a).toArray⟩, .string ⟨((List.getD M i4 Fe.z).v).toArray⟩]) (.agg #[.int .i64 xf.k, .string ⟨(xf.a).toArray⟩, .string ⟨(xf.v).toArray⟩]); binOp .eql 42 (.agg #[.int .i64 ((List.getD M i4 Fe.z).k), .string ⟨((List.getD M i4 Fe.z).a).toArray⟩, .string ⟨((List.getD M i4 Fe.z).v).toArray⟩]) (.agg #[.int .i64 xf.k, .string ⟨(xf.a).toArray⟩, .string ⟨(xf.v).toArray⟩])) (some 15) (.bool (decide ((List.getD M i4 Fe.z) = xf))) (by kernel_rfl) (run_eqlG42 (X := (List.getD M i4 Fe.z)) (Y := xf)) ?_
    refine ops_done (by kernel_rfl) ?_
    rcases Bool.eq_false_or_eq_true (decide ((List.getD M i4 Fe.z) = xf)) with hc9 | hc9
    ·
      rw [hc9]
      refine cond_true_rule (b := true) (by kernel_rfl) rfl ?_
      refine wp_seq ?_
      refine region_rule ?_
      refine ops_rule (C := []) [((φ1 0), .cells #[.int .i64 xf.k, .string ⟨(xf.a).toArray⟩, .string ⟨(xf.v).toArray⟩] 42), ((φ7 0), .cells #[.int .i64 ((List.getD M i4 Fe.z).k), .string ⟨((List.getD M i4 Fe.z).a).toArray⟩, .string ⟨((List.getD M i4 Fe.z).v).toArray⟩] 42)] [] 1 [] 0 (fun φ10 => [(4, .bool true)]) (fun φ10 => [((φ1 0), .cells #[.int .i64 xf.k, .string ⟨(xf.a).toArray⟩, .string ⟨(xf.v).toArray⟩] 42), ((φ7 0), .cells #[.int .i64 ((List.getD M i4 Fe.z).k), .string ⟨((List.getD M i4 Fe.z).a).toArray⟩, .string ⟨((List.getD M i4 Fe.z).v).toArray⟩] 42)]) (fun φ10 => []) s trivial (fun φ10 => by kernel_rfl) ?_
      intro φ10 w10 s
      refine ops_done (by kernel_rfl) ?_
      refine wp_ret ?_
      refine ret_rule (C := []) [((φ1 0), .cells #[.int .i64 xf.k, .string ⟨(xf.a).toArray⟩, .string ⟨(xf.v).toArray⟩] 42), ((φ7 0), .cells #[.int .i64 ((List.getD M i4 Fe.z).k), .string ⟨((List.getD M i4 Fe.z).a).toArray⟩, .string ⟨((List.getD M i4 Fe.z).v).toArray⟩] 42)] [] (.bool true) [] [] s trivial (by kernel_rfl) ?_
      exact ⟨_, _, _, rfl, s, (congrArg Value.bool (decide_eq_true (mem_at (by have hq0 := of_decide_eq_true hc6; have hq1 := of_decide_eq_true hc9; have := hi4_0; omega) (of_decide_eq_true hc9))).symm)⟩
    ·
      rw [hc9]
      refine cond_false_rule (b := false) (by kernel_rfl) rfl ?_
      refine wp_skip ?_
      refine region_rule ?_
      refine ops_rule (C := []) [((φ1 0), .cells #[.int .i64 xf.k, .string ⟨(xf.a).toArray⟩, .string ⟨(xf.v).toArray⟩] 42), ((φ7 0), .cells #[.int .i64 ((List.getD M i4 Fe.z).k), .string ⟨((List.getD M i4 Fe.z).a).toArray⟩, .string ⟨((List.getD M i4 Fe.z).v).toArray⟩] 42)] [] 2 [] 0 (fun φ11 => [(9, .int .i64 (IntKind.wrap .i64 (((i4 : Nat) : Int) + ((1 : Nat) : Int)))), (16, .int .i64 (IntKind.wrap .i64 (((i4 : Nat) : Int) + ((1 : Nat) : Int))))]) (fun φ11 => [((φ1 0), .cells #[.int .i64 xf.k, .string ⟨(xf.a).toArray⟩, .string ⟨(xf.v).toArray⟩] 42), ((φ7 0), .cells #[.int .i64 ((List.getD M i4 Fe.z).k), .string ⟨((List.getD M i4 Fe.z).a).toArray⟩, .string ⟨((List.getD M i4 Fe.z).v).toArray⟩] 42)]) (fun φ11 => []) s trivial (fun φ11 => by kernel_rfl) ?_
      intro φ11 w11 s
      rw [nat_addI (a := i4) (b := 1) (by have e8 := hi4_0; have hq0 := of_decide_eq_true hc6; have hq1 := of_decide_eq_false hc9; omega)]
      refine ops_done (by kernel_rfl) ?_
      exact ⟨⟨m4 - 1, i4 + 1, _, _, _, by have hq0 := of_decide_eq_true hc6; have hq1 := of_decide_eq_false hc9; have := hi4_0; omega, rfl, s, (List.Sublist.cons₂ _ (List.Sublist.cons _ List.Sublist.slnil)), by kernel_rfl, hle3, by have hq0 := of_decide_eq_true hc6; have hq1 := of_decide_eq_false hc9; have := hi4_0; show i4 + 1 + (m4 - 1) = M.length; omega, (has_next hi4_1 (of_decide_eq_false hc9))⟩⟩
  ·
    rw [hc6]
    refine cond_false_rule (b := false) (by kernel_rfl) rfl ?_
    refine wp_exit ?_
    refine wp_seq ?_
    refine region_rule ?_
    refine ops_rule (C := []) [((φ1 0), .cells #[.int .i64 xf.k, .string ⟨(xf.a).toArray⟩, .string ⟨(xf.v).toArray⟩] 42)] [] 1 [] 0 (fun φ12 => [(4, .bool false)]) (fun φ12 => [((φ1 0), .cells #[.int .i64 xf.k, .string ⟨(xf.a).toArray⟩, .string ⟨(xf.v).toArray⟩] 42)]) (fun φ12 => []) s trivial (fun φ12 => by kernel_rfl) ?_
    intro φ12 w12 s
    refine ops_done (by kernel_rfl) ?_
    refine wp_ret ?_
    refine ret_rule (C := []) [((φ1 0), .cells #[.int .i64 xf.k, .string ⟨(xf.a).toArray⟩, .string ⟨(xf.v).toArray⟩] 42)] [] (.bool false) [] [] s trivial (by kernel_rfl) ?_
    exact ⟨_, _, _, rfl, s, (congrArg Value.bool (decide_eq_false (mem_not (by have ei : i4 = M.length := (by have hq0 := of_decide_eq_false hc6; have := hi4_0; omega); have h9 := hi4_1; rw [ei] at h9; exact h9))).symm)⟩

theorem refLessX_c {I : IM} {x y : Fe} (hx : x.a.length ≤ 1000 ∧ x.v.length ≤ 1000) (hy : y.a.length ≤ 1000 ∧ y.v.length ≤ 1000) : Fun Tryd.prog 35 #[.agg #[.int .i64 x.k, .string ⟨(x.a).toArray⟩, .string ⟨(x.v).toArray⟩], .agg #[.int .i64 y.k, .string ⟨(y.a).toArray⟩, .string ⟨(y.v).toArray⟩]] I (fun v J => v = .bool (lesFe x y)) :=
  Tx.refLess_c (k := x.k) (A := x.a) (B := x.v) (k' := y.k) (A' := y.a) (B' := y.v) (by omega) (by omega) (by omega) (by omega)

set_option maxHeartbeats 4000000 in
theorem put_c {I : IM} {M : List Fe} {a0 : Option Addr} {c0 : Nat} (h0 : FSl I M (.slice a0 M.length c0)) (hl : M.length ≤ 1000) (hsM : shortL M) {xf : Fe} (hsx : xf.a.length ≤ 1000 ∧ xf.v.length ≤ 1000) : Fun Tryd.prog 58 #[.slice a0 M.length c0, .agg #[.int .i64 xf.k, .string ⟨(xf.a).toArray⟩, .string ⟨(xf.v).toArray⟩]] I (fun v J => ∃ a c, v = .slice a (ins M xf).length c ∧ FSl J (ins M xf) (.slice a (ins M xf).length c)) := by
  refine enter_rule 42 [(0, .slice a0 M.length c0), (1, .agg #[.int .i64 xf.k, .string ⟨(xf.a).toArray⟩, .string ⟨(xf.v).toArray⟩])] Tryd.func58 rfl (by kernel_rfl) ?_
  intro w s
  refine wp_seq ?_
  refine region_rule ?_
  refine ops_rule (C := []) [] [] 2 [] 1 (fun φ1 => [(4, .slice none 0 0), (3, .pointer (some ⟨(φ1 0), 0, none⟩))]) (fun φ1 => [((φ1 0), .cells #[.int .i64 xf.k, .string ⟨(xf.a).toArray⟩, .string ⟨(xf.v).toArray⟩] 42)]) (fun φ1 => []) s trivial (fun φ1 => by kernel_rfl) ?_
  intro φ1 w1 s
  refine ops_done (by kernel_rfl) ?_
  refine wp_seq ?_
  refine wp_seq ?_
  refine region_rule ?_
  refine ops_rule (C := []) [((φ1 0), .cells #[.int .i64 xf.k, .string ⟨(xf.a).toArray⟩, .string ⟨(xf.v).toArray⟩] 42)] [] 2 [.o 0, .o 0, .o 0] 0 (fun φ2 => [(10, .agg #[.int .i64 xf.k, .string ⟨(xf.a).toArray⟩, .string ⟨(xf.v).toArray⟩]), (9, .slice a0 M.length c0)]) (fun φ2 => [((φ1 0), .cells #[.int .i64 xf.k, .string ⟨(xf.a).toArray⟩, .string ⟨(xf.v).toArray⟩] 42)]) (fun φ2 => [(φ1 0), (φ1 0), (φ1 0)]) s trivial (fun φ2 => by kernel_rfl) ?_
  intro φ2 w2 s
  refine call_rule (some 11) s (has_c (xf := xf) h0 (by   omega)) (by kernel_rfl) ?_
  intro v3 I3 w3 le3 h3 s
  replace h0 := FSl.mono le3 h0
  obtain rfl := h3
  refine ops_done (by kernel_rfl) ?_
  rcases Bool.eq_false_or_eq_true (decide (xf ∈ M)) with hc4 | hc4
  ·
    rw [hc4]
    refine cond_true_rule (b := true) (by kernel_rfl) rfl ?_
    refine wp_seq ?_
    refine region_rule ?_
    refine ops_rule (C := []) [((φ1 0), .cells #[.int .i64 xf.k, .string ⟨(xf.a).toArray⟩, .string ⟨(xf.v).toArray⟩] 42)] [] 2 [] 0 (fun φ5 => [(4, .slice a0 M.length c0), (12, .slice a0 M.length c0)]) (fun φ5 => [((φ1 0), .cells #[.int .i64 xf.k, .string ⟨(xf.a).toArray⟩, .string ⟨(xf.v).toArray⟩] 42)]) (fun φ5 => []) s trivial (fun φ5 => by kernel_rfl) ?_
    intro φ5 w5 s
    refine ops_done (by kernel_rfl) ?_
    refine wp_ret ?_
    refine ret_rule (C := []) [((φ1 0), .cells #[.int .i64 xf.k, .string ⟨(xf.a).toArray⟩, .string ⟨(xf.v).toArray⟩] 42)] [] (.slice a0 M.length c0) [] [] s trivial (by kernel_rfl) ?_
    exact ⟨_, _, _, rfl, s, (by rw [ins_mem (of_decide_eq_true hc4)]; exact ⟨_, _, rfl, h0⟩)⟩
  ·
    rw [hc4]
    refine cond_false_rule (b := false) (by kernel_rfl) rfl ?_
    refine wp_skip ?_
    refine wp_seq ?_
    refine region_rule ?_
    refine ops_rule (C := []) [((φ1 0), .cells #[.int .i64 xf.k, .string ⟨(xf.a).toArray⟩, .string ⟨(xf.v).toArray⟩] 42)] [] 1 [] 0 (fun φ6 => [(5, .slice none 0 0)]) (fun φ6 => [((φ1 0), .cells #[.int .i64 xf.k, .string ⟨(xf.a).toArray⟩, .string ⟨(xf.v).toArray⟩] 42)]) (fun φ6 => []) s trivial (fun φ6 => by kernel_rfl) ?_
    intro φ6 w6 s
    refine ops_done (by kernel_rfl) ?_
    refine wp_seq ?_
    refine region_rule ?_
    refine ops_rule (C := []) [((φ1 0), .cells #[.int .i64 xf.k, .string ⟨(xf.a).toArray⟩, .string ⟨(xf.v).toArray⟩] 42)] [] 1 [] 0 (fun φ7 => [(6, .bool false)]) (fun φ7 => [((φ1 0), .cells #[.int .i64 xf.k, .string ⟨(xf.a).toArray⟩, .string ⟨(xf.v).toArray⟩] 42)]) (fun φ7 => []) s trivial (fun φ7 => by kernel_rfl) ?_
    intro φ7 w7 s
    refine ops_done (by kernel_rfl) ?_
    refine wp_seq ?_
    refine wp_seq ?_
    refine region_rule ?_
    refine ops_rule (C := []) [((φ1 0), .cells #[.int .i64 xf.k, .string ⟨(xf.a).toArray⟩, .string ⟨(xf.v).toArray⟩] 42)] [] 3 [] 0 (fun φ8 => [(15, .int .i64 0), (14, .int .i64 ((M.length : Nat) : Int)), (13, .slice a0 M.length c0)]) (fun φ8 => [((φ1 0), .cells #[.int .i64 xf.k, .string ⟨(xf.a).toArray⟩, .string ⟨(xf.v).toArray⟩] 42)]) (fun φ8 => []) s trivial (fun φ8 => by kernel_rfl) ?_
    intro φ8 w8 s
    refine ops_done (by kernel_rfl) ?_
    refine wp_block ?_
    have hle9 := IM.Le.refl I3
    refine loop_rule (fun (x : Nat × Bool × Value × List OB) => [(0, .slice a0 M.length c0), (3, .pointer (some ⟨(φ1 0), 0, none⟩)), (4, .slice none 0 0), (13, .slice a0 M.length c0), (14, .int .i64 ((M.length : Nat) : Int)), (15, .int .i64 ((x.1 : Nat) : Int)), (6, .bool x.2.1), (5, x.2.2.1)]) (fun (x : Nat × Bool × Value × List OB) => [((φ1 0), .cells #[.int .i64 xf.k, .string ⟨(xf.a).toArray⟩, .string ⟨(xf.v).toArray⟩] 42)] ++ x.2.2.2) (fun m (x : Nat × Bool × Value × List OB) J => IM.Le I3 J ∧ x.1 + m = M.length ∧ RowH 42 3 x.2.2.1 (List.length (outP M xf x.1)) (fcs (outP M xf x.1)) x.2.2.2 ∧ x.2.1 = decide (rk M xf < x.1)) (M.length) (0, false, (.slice none 0 0), []) s (by kernel_rfl) (List.Sublist.refl _) ⟨IM.Le.refl _, Nat.zero_add _, (outP_nil42), (decide_eq_false (by omega)).symm⟩ ?_
    rintro m10 ⟨i10, b10, v10, F10⟩ I10 w10 ev10 s ⟨le10, hi10_0, hi10_1, hi10_2⟩
    try dsimp only at s hi10_0 hi10_1 hi10_2 ⊢
    replace h0 := FSl.mono le10 h0
    replace hle9 := leMono le10 hle9
    refine wp_seq ?_
    refine region_rule ?_
    refine ops_rule (C := []) [((φ1 0), .cells #[.int .i64 xf.k, .string ⟨(xf.a).toArray⟩, .string ⟨(xf.v).toArray⟩] 42)] F10 1 [] 0 (fun φ11 => [(16, .bool (decide (((i10 : Nat) : Int) < ((M.length : Nat) : Int))))]) (fun φ11 => [((φ1 0), .cells #[.int .i64 xf.k, .string ⟨(xf.a).toArray⟩, .string ⟨(xf.v).toArray⟩] 42)]) (fun φ11 => []) s trivial (fun φ11 => by kernel_rfl) ?_
    intro φ11 w11 s
    rw [nat_lss (a := i10) (b := M.length)]
    refine ops_done (by kernel_rfl) ?_
    refine wp_seq ?_
    rcases Bool.eq_false_or_eq_true (decide (i10 < M.length)) with hc12 | hc12
    ·
      rw [hc12]
      refine cond_true_rule (b := true) (by kernel_rfl) rfl ?_
      refine wp_skip ?_
      refine wp_seq ?_
      refine wp_block ?_
      refine wp_seq ?_
      refine region_rule ?_
      refine sem_rule (Instr.indexAt 30 (.slice a0 M.length c0) (.int .i64 ((i10 : Nat) : Int))) (some 17) (.pointer (pAt a0 (i10 * 3))) (by kernel_rfl) (fsl_idx30 h0 (by have e8 := hi10_0; have hq0 := of_decide_eq_false hc4; have hq1 := of_decide_eq_true hc12; omega)) ?_
      refine sem_rule (Instr.loadAt 42 (.pointer (pAt a0 (i10 * 3)))) (some 18) (.agg #[.int .i64 ((List.getD M i10 Fe.z).k), .string ⟨((List.getD M i10 Fe.z).a).toArray⟩, .string ⟨((List.getD M i10 Fe.z).v).toArray⟩]) (by kernel_rfl) (fsl_ld42 s.sub h0 (by have e8 := hi10_0; have hq0 := of_decide_eq_false hc4; have hq1 := of_decide_eq_true hc12; omega)) ?_
      refine ops_rule (C := []) [((φ1 0), .cells #[.int .i64 xf.k, .string ⟨(xf.a).toArray⟩, .string ⟨(xf.v).toArray⟩] 42)] F10 2 [.o 1, .o 1, .o 1] 1 (fun φ13 => [(8, .pointer (some ⟨(φ13 0), 0, none⟩))]) (fun φ13 => [((φ1 0), .cells #[.int .i64 xf.k, .string ⟨(xf.a).toArray⟩, .string ⟨(xf.v).toArray⟩] 42), ((φ13 0), .cells #[.int .i64 ((List.getD M i10 Fe.z).k), .string ⟨((List.getD M i10 Fe.z).a).toArray⟩, .string ⟨((List.getD M i10 Fe.z).v).toArray⟩] 42)]) (fun φ13 => [(φ13 0), (φ13 0), (φ13 0)]) s trivial (fun φ13 => by kernel_rfl) ?_
      intro φ13 w13 s
      refine ops_done (by kernel_rfl) ?_
      refine wp_seq ?_
      refine wp_seq ?_
      refine region_rule ?_
      refine ops_rule (C := []) [((φ1 0), .cells #[.int .i64 xf.k, .string ⟨(xf.a).toArray⟩, .string ⟨(xf.v).toArray⟩] 42), ((φ13 0), .cells #[.int .i64 ((List.getD M i10 Fe.z).k), .string ⟨((List.getD M i10 Fe.z).a).toArray⟩, .string ⟨((List.getD M i10 Fe.z).v).toArray⟩] 42)] F10 3 [] 0 (fun φ14 => [(21, .bool (!(b10))), (20, .bool (!(b10))), (19, .bool b10)]) (fun φ14 => [((φ1 0), .cells #[.int .i64 xf.k, .string ⟨(xf.a).toArray⟩, .string ⟨(xf.v).toArray⟩] 42), ((φ13 0), .cells #[.int .i64 ((List.getD M i10 Fe.z).k), .string ⟨((List.getD M i10 Fe.z).a).toArray⟩, .string ⟨((List.getD M i10 Fe.z).v).toArray⟩] 42)]) (fun φ14 => []) s trivial (fun φ14 => by kernel_rfl) ?_
      intro φ14 w14 s
      rcases Bool.eq_false_or_eq_true (b10) with hc15 | hc15
      ·
        rw [hc15]
        refine ops_rule (C := []) [((φ1 0), .cells #[.int .i64 xf.k, .string ⟨(xf.a).toArray⟩, .string ⟨(xf.v).toArray⟩] 42), ((φ13 0), .cells #[.int .i64 ((List.getD M i10 Fe.z).k), .string ⟨((List.getD M i10 Fe.z).a).toArray⟩, .string ⟨((List.getD M i10 Fe.z).v).toArray⟩] 42)] F10 4 [] 0 (fun φ16 => [(25, .bool false), (24, undef), (23, undef), (22, undef)]) (fun φ16 => [((φ1 0), .cells #[.int .i64 xf.k, .string ⟨(xf.a).toArray⟩, .string ⟨(xf.v).toArray⟩] 42), ((φ13 0), .cells #[.int .i64 ((List.getD M i10 Fe.z).k), .string ⟨((List.getD M i10 Fe.z).a).toArray⟩, .string ⟨((List.getD M i10 Fe.z).v).toArray⟩] 42)]) (fun φ16 => []) s trivial (fun φ16 => by kernel_rfl) ?_
        intro φ16 w16 s
        refine ops_done (by kernel_rfl) ?_
        refine cond_false_rule (b := false) (by kernel_rfl) rfl ?_
        refine wp_skip ?_
        refine region_rule ?_
        refine ops_rule (C := []) [((φ1 0), .cells #[.int .i64 xf.k, .string ⟨(xf.a).toArray⟩, .string ⟨(xf.v).toArray⟩] 42), ((φ13 0), .cells #[.int .i64 ((List.getD M i10 Fe.z).k), .string ⟨((List.getD M i10 Fe.z).a).toArray⟩, .string ⟨((List.getD M i10 Fe.z).v).toArray⟩] 42)] F10 3 [.o 1, .o 1, .o 1] 1 (fun φ17 => [(32, .slice (some ⟨(φ17 0), 0, none⟩) 1 1), (31, .agg #[.int .i64 ((List.getD M i10 Fe.z).k), .string ⟨((List.getD M i10 Fe.z).a).toArray⟩, .string ⟨((List.getD M i10 Fe.z).v).toArray⟩]), (30, v10)]) (fun φ17 => [((φ1 0), .cells #[.int .i64 xf.k, .string ⟨(xf.a).toArray⟩, .string ⟨(xf.v).toArray⟩] 42), ((φ13 0), .cells #[.int .i64 ((List.getD M i10 Fe.z).k), .string ⟨((List.getD M i10 Fe.z).a).toArray⟩, .string ⟨((List.getD M i10 Fe.z).v).toArray⟩] 42), ((φ17 0), .cells #[.int .i64 ((List.getD M i10 Fe.z).k), .string ⟨((List.getD M i10 Fe.z).a).toArray⟩, .string ⟨((List.getD M i10 Fe.z).v).toArray⟩] 42)]) (fun φ17 => [(φ13 0), (φ13 0), (φ13 0)]) s trivial (fun φ17 => by kernel_rfl) ?_
        intro φ17 w17 s
        have hb18 : (List.length (outP M xf i10)) ≤ 100000 := (by have := outP_len (M := M) (x := xf) (i := i10); (try simp only [List.length_append, List.length_cons, List.length_nil]); omega)
        refine append_rule (H := [((φ1 0), .cells #[.int .i64 xf.k, .string ⟨(xf.a).toArray⟩, .string ⟨(xf.v).toArray⟩] 42), ((φ13 0), .cells #[.int .i64 ((List.getD M i10 Fe.z).k), .string ⟨((List.getD M i10 Fe.z).a).toArray⟩, .string ⟨((List.getD M i10 Fe.z).v).toArray⟩] 42), ((φ17 0), .cells #[.int .i64 ((List.getD M i10 Fe.z).k), .string ⟨((List.getD M i10 Fe.z).a).toArray⟩, .string ⟨((List.getD M i10 Fe.z).v).toArray⟩] 42)]) (F := F10) 30 30 42 Tryd.t42 (.agg #[.int .i64 0, .string ⟨#[]⟩, .string ⟨#[]⟩]) 3 40 (some 33) s Tryd.underlying30 (by kernel_rfl) (by kernel_rfl) (by kernel_rfl) (by kernel_rfl) (by kernel_rfl) (by decide) hi10_1 (src_own s 2 (φ17 0) #[.int .i64 ((List.getD M i10 Fe.z).k), .string ⟨((List.getD M i10 Fe.z).a).toArray⟩, .string ⟨((List.getD M i10 Fe.z).v).toArray⟩] 42 30 42 1 1 3 [.int .i64 ((List.getD M i10 Fe.z).k), .string ⟨((List.getD M i10 Fe.z).a).toArray⟩, .string ⟨((List.getD M i10 Fe.z).v).toArray⟩] (by kernel_rfl) Tryd.underlying30 (by kernel_rfl) (by kernel_rfl) (by kernel_rfl)) (by simp only [maxLen]; omega) (by omega) (by kernel_rfl) ?_
        intro v18 w18 F18 s h18
        replace h18 : RowH 42 3 v18 (List.length ((outP M xf i10) ++ [(List.getD M i10 Fe.z)])) (fcs ((outP M xf i10) ++ [(List.getD M i10 Fe.z)])) F18 := row42_snoc (Fs := (outP M xf i10)) (x := (List.getD M i10 Fe.z)) h18 rfl
        refine ops_rule (C := []) [((φ1 0), .cells #[.int .i64 xf.k, .string ⟨(xf.a).toArray⟩, .string ⟨(xf.v).toArray⟩] 42), ((φ13 0), .cells #[.int .i64 ((List.getD M i10 Fe.z).k), .string ⟨((List.getD M i10 Fe.z).a).toArray⟩, .string ⟨((List.getD M i10 Fe.z).v).toArray⟩] 42), ((φ17 0), .cells #[.int .i64 ((List.getD M i10 Fe.z).k), .string ⟨((List.getD M i10 Fe.z).a).toArray⟩, .string ⟨((List.getD M i10 Fe.z).v).toArray⟩] 42)] F18 1 [] 0 (fun φ19 => [(5, v18)]) (fun φ19 => [((φ1 0), .cells #[.int .i64 xf.k, .string ⟨(xf.a).toArray⟩, .string ⟨(xf.v).toArray⟩] 42), ((φ13 0), .cells #[.int .i64 ((List.getD M i10 Fe.z).k), .string ⟨((List.getD M i10 Fe.z).a).toArray⟩, .string ⟨((List.getD M i10 Fe.z).v).toArray⟩] 42), ((φ17 0), .cells #[.int .i64 ((List.getD M i10 Fe.z).k), .string ⟨((List.getD M i10 Fe.z).a).toArray⟩, .string ⟨((List.getD M i10 Fe.z).v).toArray⟩] 42)]) (fun φ19 => []) s trivial (fun φ19 => by kernel_rfl) ?_
        intro φ19 w19 s
        refine ops_done (by kernel_rfl) ?_
        refine region_rule ?_
        refine ops_rule (C := []) [((φ1 0), .cells #[.int .i64 xf.k, .string ⟨(xf.a).toArray⟩, .string ⟨(xf.v).toArray⟩] 42), ((φ13 0), .cells #[.int .i64 ((List.getD M i10 Fe.z).k), .string ⟨((List.getD M i10 Fe.z).a).toArray⟩, .string ⟨((List.getD M i10 Fe.z).v).toArray⟩] 42), ((φ17 0), .cells #[.int .i64 ((List.getD M i10 Fe.z).k), .string ⟨((List.getD M i10 Fe.z).a).toArray⟩, .string ⟨((List.getD M i10 Fe.z).v).toArray⟩] 42)] F18 2 [] 0 (fun φ20 => [(15, .int .i64 (IntKind.wrap .i64 (((i10 : Nat) : Int) + ((1 : Nat) : Int)))), (34, .int .i64 (IntKind.wrap .i64 (((i10 : Nat) : Int) + ((1 : Nat) : Int))))]) (fun φ20 => [((φ1 0), .cells #[.int .i64 xf.k, .string ⟨(xf.a).toArray⟩, .string ⟨(xf.v).toArray⟩] 42), ((φ13 0), .cells #[.int .i64 ((List.getD M i10 Fe.z).k), .string ⟨((List.getD M i10 Fe.z).a).toArray⟩, .string ⟨((List.getD M i10 Fe.z).v).toArray⟩] 42), ((φ17 0), .cells #[.int .i64 ((List.getD M i10 Fe.z).k), .string ⟨((List.getD M i10 Fe.z).a).toArray⟩, .string ⟨((List.getD M i10 Fe.z).v).toArray⟩] 42)]) (fun φ20 => []) s trivial (fun φ20 => by kernel_rfl) ?_
        intro φ20 w20 s
        rw [nat_addI (a := i10) (b := 1) (by have e8 := hi10_0; have hq0 := of_decide_eq_false hc4; have hq1 := of_decide_eq_true hc12; omega)]
        refine ops_done (by kernel_rfl) ?_
        exact ⟨⟨m10 - 1, (i10 + 1, true, v18, F18), _, _, _, by have hq0 := of_decide_eq_false hc4; have hq1 := of_decide_eq_true hc12; have := hi10_0; omega, rfl, s, (List.Sublist.append (List.Sublist.cons₂ _ (List.Sublist.cons _ (List.Sublist.cons _ List.Sublist.slnil))) (List.Sublist.refl _)), by kernel_rfl, hle9, by have hq0 := of_decide_eq_false hc4; have hq1 := of_decide_eq_true hc12; have := hi10_0; show i10 + 1 + (m10 - 1) = M.length; omega, (row_eq42 (outP_past (of_decide_eq_true (hi10_2.symm.trans hc15)) (by have hq0 := of_decide_eq_false hc4; have hq1 := of_decide_eq_true hc12; have := hi10_0; omega)) h18), (decide_eq_true (by have := of_decide_eq_true (hi10_2.symm.trans hc15); omega)).symm⟩⟩
      ·
        rw [hc15]
        refine ops_rule (C := []) [((φ1 0), .cells #[.int .i64 xf.k, .string ⟨(xf.a).toArray⟩, .string ⟨(xf.v).toArray⟩] 42), ((φ13 0), .cells #[.int .i64 ((List.getD M i10 Fe.z).k), .string ⟨((List.getD M i10 Fe.z).a).toArray⟩, .string ⟨((List.getD M i10 Fe.z).v).toArray⟩] 42)] F10 2 [.o 0, .o 0, .o 0, .o 1, .o 1, .o 1] 0 (fun φ21 => [(23, .agg #[.int .i64 ((List.getD M i10 Fe.z).k), .string ⟨((List.getD M i10 Fe.z).a).toArray⟩, .string ⟨((List.getD M i10 Fe.z).v).toArray⟩]), (22, .agg #[.int .i64 xf.k, .string ⟨(xf.a).toArray⟩, .string ⟨(xf.v).toArray⟩])]) (fun φ21 => [((φ1 0), .cells #[.int .i64 xf.k, .string ⟨(xf.a).toArray⟩, .string ⟨(xf.v).toArray⟩] 42), ((φ13 0), .cells #[.int .i64 ((List.getD M i10 Fe.z).k), .string ⟨((List.getD M i10 Fe.z).a).toArray⟩, .string ⟨((List.getD M i10 Fe.z).v).toArray⟩] 42)]) (fun φ21 => [(φ1 0), (φ1 0), (φ1 0), (φ13 0), (φ13 0), (φ13 0)]) s trivial (fun φ21 => by kernel_rfl) ?_
        intro φ21 w21 s
        refine call_rule (some 24) s (refLessX_c (x := xf) (y := (List.getD M i10 Fe.z)) hsx (hsM _ (by have hq0 := of_decide_eq_false hc4; have hq1 := of_decide_eq_true hc12; have e8 := hi10_0; omega))) (by kernel_rfl) ?_
        intro v22 I22 w22 le22 h22 s
        replace h0 := FSl.mono le22 h0
        replace hle9 := leMono le22 hle9
        obtain rfl := h22
        refine ops_rule (C := []) [((φ1 0), .cells #[.int .i64 xf.k, .string ⟨(xf.a).toArray⟩, .string ⟨(xf.v).toArray⟩] 42), ((φ13 0), .cells #[.int .i64 ((List.getD M i10 Fe.z).k), .string ⟨((List.getD M i10 Fe.z).a).toArray⟩, .string ⟨((List.getD M i10 Fe.z).v).toArray⟩] 42)] F10 1 [] 0 (fun φ23 => [(25, .bool (lesFe xf (List.getD M i10 Fe.z)))]) (fun φ23 => [((φ1 0), .cells #[.int .i64 xf.k, .string ⟨(xf.a).toArray⟩, .string ⟨(xf.v).toArray⟩] 42), ((φ13 0), .cells #[.int .i64 ((List.getD M i10 Fe.z).k), .string ⟨((List.getD M i10 Fe.z).a).toArray⟩, .string ⟨((List.getD M i10 Fe.z).v).toArray⟩] 42)]) (fun φ23 => []) s trivial (fun φ23 => by kernel_rfl) ?_
        intro φ23 w23 s
        refine ops_done (by kernel_rfl) ?_
        rcases Bool.eq_false_or_eq_true (lesFe xf (List.getD M i10 Fe.z)) with hc24 | hc24
        ·
          rw [hc24]
          refine cond_true_rule (b := true) (by kernel_rfl) rfl ?_
          refine region_rule ?_
          refine ops_rule (C := []) [((φ1 0), .cells #[.int .i64 xf.k, .string ⟨(xf.a).toArray⟩, .string ⟨(xf.v).toArray⟩] 42), ((φ13 0), .cells #[.int .i64 ((List.getD M i10 Fe.z).k), .string ⟨((List.getD M i10 Fe.z).a).toArray⟩, .string ⟨((List.getD M i10 Fe.z).v).toArray⟩] 42)] F10 3 [.o 0, .o 0, .o 0] 1 (fun φ25 => [(28, .slice (some ⟨(φ25 0), 0, none⟩) 1 1), (27, .agg #[.int .i64 xf.k, .string ⟨(xf.a).toArray⟩, .string ⟨(xf.v).toArray⟩]), (26, v10)]) (fun φ25 => [((φ1 0), .cells #[.int .i64 xf.k, .string ⟨(xf.a).toArray⟩, .string ⟨(xf.v).toArray⟩] 42), ((φ13 0), .cells #[.int .i64 ((List.getD M i10 Fe.z).k), .string ⟨((List.getD M i10 Fe.z).a).toArray⟩, .string ⟨((List.getD M i10 Fe.z).v).toArray⟩] 42), ((φ25 0), .cells #[.int .i64 xf.k, .string ⟨(xf.a).toArray⟩, .string ⟨(xf.v).toArray⟩] 42)]) (fun φ25 => [(φ1 0), (φ1 0), (φ1 0)]) s trivial (fun φ25 => by kernel_rfl) ?_
          intro φ25 w25 s
          have hb26 : (List.length (outP M xf i10)) ≤ 100000 := (by have := outP_len (M := M) (x := xf) (i := i10); (try simp only [List.length_append, List.length_cons, List.length_nil]); omega)
          refine append_rule (H := [((φ1 0), .cells #[.int .i64 xf.k, .string ⟨(xf.a).toArray⟩, .string ⟨(xf.v).toArray⟩] 42), ((φ13 0), .cells #[.int .i64 ((List.getD M i10 Fe.z).k), .string ⟨((List.getD M i10 Fe.z).a).toArray⟩, .string ⟨((List.getD M i10 Fe.z).v).toArray⟩] 42), ((φ25 0), .cells #[.int .i64 xf.k, .string ⟨(xf.a).toArray⟩, .string ⟨(xf.v).toArray⟩] 42)]) (F := F10) 30 30 42 Tryd.t42 (.agg #[.int .i64 0, .string ⟨#[]⟩, .string ⟨#[]⟩]) 3 40 (some 29) s Tryd.underlying30 (by kernel_rfl) (by kernel_rfl) (by kernel_rfl) (by kernel_rfl) (by kernel_rfl) (by decide) hi10_1 (src_own s 2 (φ25 0) #[.int .i64 xf.k, .string ⟨(xf.a).toArray⟩, .string ⟨(xf.v).toArray⟩] 42 30 42 1 1 3 [.int .i64 xf.k, .string ⟨(xf.a).toArray⟩, .string ⟨(xf.v).toArray⟩] (by kernel_rfl) Tryd.underlying30 (by kernel_rfl) (by kernel_rfl) (by kernel_rfl)) (by simp only [maxLen]; omega) (by omega) (by kernel_rfl) ?_
          intro v26 w26 F26 s h26
          replace h26 : RowH 42 3 v26 (List.length ((outP M xf i10) ++ [xf])) (fcs ((outP M xf i10) ++ [xf])) F26 := row42_snoc (Fs := (outP M xf i10)) (x := xf) h26 rfl
          refine ops_rule (C := []) [((φ1 0), .cells #[.int .i64 xf.k, .string ⟨(xf.a).toArray⟩, .string ⟨(xf.v).toArray⟩] 42), ((φ13 0), .cells #[.int .i64 ((List.getD M i10 Fe.z).k), .string ⟨((List.getD M i10 Fe.z).a).toArray⟩, .string ⟨((List.getD M i10 Fe.z).v).toArray⟩] 42), ((φ25 0), .cells #[.int .i64 xf.k, .string ⟨(xf.a).toArray⟩, .string ⟨(xf.v).toArray⟩] 42)] F26 2 [] 0 (fun φ27 => [(6, .bool true), (5, v26)]) (fun φ27 => [((φ1 0), .cells #[.int .i64 xf.k, .string ⟨(xf.a).toArray⟩, .string ⟨(xf.v).toArray⟩] 42), ((φ13 0), .cells #[.int .i64 ((List.getD M i10 Fe.z).k), .string ⟨((List.getD M i10 Fe.z).a).toArray⟩, .string ⟨((List.getD M i10 Fe.z).v).toArray⟩] 42), ((φ25 0), .cells #[.int .i64 xf.k, .string ⟨(xf.a).toArray⟩, .string ⟨(xf.v).toArray⟩] 42)]) (fun φ27 => []) s trivial (fun φ27 => by kernel_rfl) ?_
          intro φ27 w27 s
          refine ops_done (by kernel_rfl) ?_
          refine region_rule ?_
          refine ops_rule (C := []) [((φ1 0), .cells #[.int .i64 xf.k, .string ⟨(xf.a).toArray⟩, .string ⟨(xf.v).toArray⟩] 42), ((φ13 0), .cells #[.int .i64 ((List.getD M i10 Fe.z).k), .string ⟨((List.getD M i10 Fe.z).a).toArray⟩, .string ⟨((List.getD M i10 Fe.z).v).toArray⟩] 42), ((φ25 0), .cells #[.int .i64 xf.k, .string ⟨(xf.a).toArray⟩, .string ⟨(xf.v).toArray⟩] 42)] F26 3 [.o 1, .o 1, .o 1] 1 (fun φ28 => [(32, .slice (some ⟨(φ28 0), 0, none⟩) 1 1), (31, .agg #[.int .i64 ((List.getD M i10 Fe.z).k), .string ⟨((List.getD M i10 Fe.z).a).toArray⟩, .string ⟨((List.getD M i10 Fe.z).v).toArray⟩]), (30, v26)]) (fun φ28 => [((φ1 0), .cells #[.int .i64 xf.k, .string ⟨(xf.a).toArray⟩, .string ⟨(xf.v).toArray⟩] 42), ((φ13 0), .cells #[.int .i64 ((List.getD M i10 Fe.z).k), .string ⟨((List.getD M i10 Fe.z).a).toArray⟩, .string ⟨((List.getD M i10 Fe.z).v).toArray⟩] 42), ((φ25 0), .cells #[.int .i64 xf.k, .string ⟨(xf.a).toArray⟩, .string ⟨(xf.v).toArray⟩] 42), ((φ28 0), .cells #[.int .i64 ((List.getD M i10 Fe.z).k), .string ⟨((List.getD M i10 Fe.z).a).toArray⟩, .string ⟨((List.getD M i10 Fe.z).v).toArray⟩] 42)]) (fun φ28 => [(φ13 0), (φ13 0), (φ13 0)]) s trivial (fun φ28 => by kernel_rfl) ?_
          intro φ28 w28 s
          have hb29 : (List.length ((outP M xf i10) ++ [xf])) ≤ 100000 := (by have := outP_len (M := M) (x := xf) (i := i10); (try simp only [List.length_append, List.length_cons, List.length_nil]); omega)
          refine append_rule (H := [((φ1 0), .cells #[.int .i64 xf.k, .string ⟨(xf.a).toArray⟩, .string ⟨(xf.v).toArray⟩] 42), ((φ13 0), .cells #[.int .i64 ((List.getD M i10 Fe.z).k), .string ⟨((List.getD M i10 Fe.z).a).toArray⟩, .string ⟨((List.getD M i10 Fe.z).v).toArray⟩] 42), ((φ25 0), .cells #[.int .i64 xf.k, .string ⟨(xf.a).toArray⟩, .string ⟨(xf.v).toArray⟩] 42), ((φ28 0), .cells #[.int .i64 ((List.getD M i10 Fe.z).k), .string ⟨((List.getD M i10 Fe.z).a).toArray⟩, .string ⟨((List.getD M i10 Fe.z).v).toArray⟩] 42)]) (F := F26) 30 30 42 Tryd.t42 (.agg #[.int .i64 0, .string ⟨#[]⟩, .string ⟨#[]⟩]) 3 40 (some 33) s Tryd.underlying30 (by kernel_rfl) (by kernel_rfl) (by kernel_rfl) (by kernel_rfl) (by kernel_rfl) (by decide) h26 (src_own s 3 (φ28 0) #[.int .i64 ((List.getD M i10 Fe.z).k), .string ⟨((List.getD M i10 Fe.z).a).toArray⟩, .string ⟨((List.getD M i10 Fe.z).v).toArray⟩] 42 30 42 1 1 3 [.int .i64 ((List.getD M i10 Fe.z).k), .string ⟨((List.getD M i10 Fe.z).a).toArray⟩, .string ⟨((List.getD M i10 Fe.z).v).toArray⟩] (by kernel_rfl) Tryd.underlying30 (by kernel_rfl) (by kernel_rfl) (by kernel_rfl)) (by simp only [maxLen]; omega) (by omega) (by kernel_rfl) ?_
          intro v29 w29 F29 s h29
          replace h29 : RowH 42 3 v29 (List.length (((outP M xf i10) ++ [xf]) ++ [(List.getD M i10 Fe.z)])) (fcs (((outP M xf i10) ++ [xf]) ++ [(List.getD M i10 Fe.z)])) F29 := row42_snoc (Fs := ((outP M xf i10) ++ [xf])) (x := (List.getD M i10 Fe.z)) h29 rfl
          refine ops_rule (C := []) [((φ1 0), .cells #[.int .i64 xf.k, .string ⟨(xf.a).toArray⟩, .string ⟨(xf.v).toArray⟩] 42), ((φ13 0), .cells #[.int .i64 ((List.getD M i10 Fe.z).k), .string ⟨((List.getD M i10 Fe.z).a).toArray⟩, .string ⟨((List.getD M i10 Fe.z).v).toArray⟩] 42), ((φ25 0), .cells #[.int .i64 xf.k, .string ⟨(xf.a).toArray⟩, .string ⟨(xf.v).toArray⟩] 42), ((φ28 0), .cells #[.int .i64 ((List.getD M i10 Fe.z).k), .string ⟨((List.getD M i10 Fe.z).a).toArray⟩, .string ⟨((List.getD M i10 Fe.z).v).toArray⟩] 42)] F29 1 [] 0 (fun φ30 => [(5, v29)]) (fun φ30 => [((φ1 0), .cells #[.int .i64 xf.k, .string ⟨(xf.a).toArray⟩, .string ⟨(xf.v).toArray⟩] 42), ((φ13 0), .cells #[.int .i64 ((List.getD M i10 Fe.z).k), .string ⟨((List.getD M i10 Fe.z).a).toArray⟩, .string ⟨((List.getD M i10 Fe.z).v).toArray⟩] 42), ((φ25 0), .cells #[.int .i64 xf.k, .string ⟨(xf.a).toArray⟩, .string ⟨(xf.v).toArray⟩] 42), ((φ28 0), .cells #[.int .i64 ((List.getD M i10 Fe.z).k), .string ⟨((List.getD M i10 Fe.z).a).toArray⟩, .string ⟨((List.getD M i10 Fe.z).v).toArray⟩] 42)]) (fun φ30 => []) s trivial (fun φ30 => by kernel_rfl) ?_
          intro φ30 w30 s
          refine ops_done (by kernel_rfl) ?_
          refine region_rule ?_
          refine ops_rule (C := []) [((φ1 0), .cells #[.int .i64 xf.k, .string ⟨(xf.a).toArray⟩, .string ⟨(xf.v).toArray⟩] 42), ((φ13 0), .cells #[.int .i64 ((List.getD M i10 Fe.z).k), .string ⟨((List.getD M i10 Fe.z).a).toArray⟩, .string ⟨((List.getD M i10 Fe.z).v).toArray⟩] 42), ((φ25 0), .cells #[.int .i64 xf.k, .string ⟨(xf.a).toArray⟩, .string ⟨(xf.v).toArray⟩] 42), ((φ28 0), .cells #[.int .i64 ((List.getD M i10 Fe.z).k), .string ⟨((List.getD M i10 Fe.z).a).toArray⟩, .string ⟨((List.getD M i10 Fe.z).v).toArray⟩] 42)] F29 2 [] 0 (fun φ31 => [(15, .int .i64 (IntKind.wrap .i64 (((i10 : Nat) : Int) + ((1 : Nat) : Int)))), (34, .int .i64 (IntKind.wrap .i64 (((i10 : Nat) : Int) + ((1 : Nat) : Int))))]) (fun φ31 => [((φ1 0), .cells #[.int .i64 xf.k, .string ⟨(xf.a).toArray⟩, .string ⟨(xf.v).toArray⟩] 42), ((φ13 0), .cells #[.int .i64 ((List.getD M i10 Fe.z).k), .string ⟨((List.getD M i10 Fe.z).a).toArray⟩, .string ⟨((List.getD M i10 Fe.z).v).toArray⟩] 42), ((φ25 0), .cells #[.int .i64 xf.k, .string ⟨(xf.a).toArray⟩, .string ⟨(xf.v).toArray⟩] 42), ((φ28 0), .cells #[.int .i64 ((List.getD M i10 Fe.z).k), .string ⟨((List.getD M i10 Fe.z).a).toArray⟩, .string ⟨((List.getD M i10 Fe.z).v).toArray⟩] 42)]) (fun φ31 => []) s trivial (fun φ31 => by kernel_rfl) ?_
          intro φ31 w31 s
          rw [nat_addI (a := i10) (b := 1) (by have e8 := hi10_0; have hq0 := of_decide_eq_false hc4; have hq1 := of_decide_eq_true hc12; omega)]
          refine ops_done (by kernel_rfl) ?_
          exact ⟨⟨m10 - 1, (i10 + 1, true, v29, F29), _, _, _, by have hq0 := of_decide_eq_false hc4; have hq1 := of_decide_eq_true hc12; have := hi10_0; omega, rfl, s, (List.Sublist.append (List.Sublist.cons₂ _ (List.Sublist.cons _ (List.Sublist.cons _ (List.Sublist.cons _ List.Sublist.slnil)))) (List.Sublist.refl _)), by kernel_rfl, hle9, by have hq0 := of_decide_eq_false hc4; have hq1 := of_decide_eq_true hc12; have := hi10_0; show i10 + 1 + (m10 - 1) = M.length; omega, (row_eq42 (outP_hit (of_decide_eq_false hc4) (by have := of_decide_eq_false (hi10_2.symm.trans hc15); omega) (by have hq0 := of_decide_eq_false hc4; have hq1 := of_decide_eq_true hc12; have := hi10_0; omega) hc24).1 h29), (decide_eq_true (outP_hit (of_decide_eq_false hc4) (by have := of_decide_eq_false (hi10_2.symm.trans hc15); omega) (by have hq0 := of_decide_eq_false hc4; have hq1 := of_decide_eq_true hc12; have := hi10_0; omega) hc24).2).symm⟩⟩
        ·
          rw [hc24]
          refine cond_false_rule (b := false) (by kernel_rfl) rfl ?_
          refine wp_skip ?_
          refine region_rule ?_
          refine ops_rule (C := []) [((φ1 0), .cells #[.int .i64 xf.k, .string ⟨(xf.a).toArray⟩, .string ⟨(xf.v).toArray⟩] 42), ((φ13 0), .cells #[.int .i64 ((List.getD M i10 Fe.z).k), .string ⟨((List.getD M i10 Fe.z).a).toArray⟩, .string ⟨((List.getD M i10 Fe.z).v).toArray⟩] 42)] F10 3 [.o 1, .o 1, .o 1] 1 (fun φ32 => [(32, .slice (some ⟨(φ32 0), 0, none⟩) 1 1), (31, .agg #[.int .i64 ((List.getD M i10 Fe.z).k), .string ⟨((List.getD M i10 Fe.z).a).toArray⟩, .string ⟨((List.getD M i10 Fe.z).v).toArray⟩]), (30, v10)]) (fun φ32 => [((φ1 0), .cells #[.int .i64 xf.k, .string ⟨(xf.a).toArray⟩, .string ⟨(xf.v).toArray⟩] 42), ((φ13 0), .cells #[.int .i64 ((List.getD M i10 Fe.z).k), .string ⟨((List.getD M i10 Fe.z).a).toArray⟩, .string ⟨((List.getD M i10 Fe.z).v).toArray⟩] 42), ((φ32 0), .cells #[.int .i64 ((List.getD M i10 Fe.z).k), .string ⟨((List.getD M i10 Fe.z).a).toArray⟩, .string ⟨((List.getD M i10 Fe.z).v).toArray⟩] 42)]) (fun φ32 => [(φ13 0), (φ13 0), (φ13 0)]) s trivial (fun φ32 => by kernel_rfl) ?_
          intro φ32 w32 s
          have hb33 : (List.length (outP M xf i10)) ≤ 100000 := (by have := outP_len (M := M) (x := xf) (i := i10); (try simp only [List.length_append, List.length_cons, List.length_nil]); omega)
          refine append_rule (H := [((φ1 0), .cells #[.int .i64 xf.k, .string ⟨(xf.a).toArray⟩, .string ⟨(xf.v).toArray⟩] 42), ((φ13 0), .cells #[.int .i64 ((List.getD M i10 Fe.z).k), .string ⟨((List.getD M i10 Fe.z).a).toArray⟩, .string ⟨((List.getD M i10 Fe.z).v).toArray⟩] 42), ((φ32 0), .cells #[.int .i64 ((List.getD M i10 Fe.z).k), .string ⟨((List.getD M i10 Fe.z).a).toArray⟩, .string ⟨((List.getD M i10 Fe.z).v).toArray⟩] 42)]) (F := F10) 30 30 42 Tryd.t42 (.agg #[.int .i64 0, .string ⟨#[]⟩, .string ⟨#[]⟩]) 3 40 (some 33) s Tryd.underlying30 (by kernel_rfl) (by kernel_rfl) (by kernel_rfl) (by kernel_rfl) (by kernel_rfl) (by decide) hi10_1 (src_own s 2 (φ32 0) #[.int .i64 ((List.getD M i10 Fe.z).k), .string ⟨((List.getD M i10 Fe.z).a).toArray⟩, .string ⟨((List.getD M i10 Fe.z).v).toArray⟩] 42 30 42 1 1 3 [.int .i64 ((List.getD M i10 Fe.z).k), .string ⟨((List.getD M i10 Fe.z).a).toArray⟩, .string ⟨((List.getD M i10 Fe.z).v).toArray⟩] (by kernel_rfl) Tryd.underlying30 (by kernel_rfl) (by kernel_rfl) (by kernel_rfl)) (by simp only [maxLen]; omega) (by omega) (by kernel_rfl) ?_
          intro v33 w33 F33 s h33
          replace h33 : RowH 42 3 v33 (List.length ((outP M xf i10) ++ [(List.getD M i10 Fe.z)])) (fcs ((outP M xf i10) ++ [(List.getD M i10 Fe.z)])) F33 := row42_snoc (Fs := (outP M xf i10)) (x := (List.getD M i10 Fe.z)) h33 rfl
          refine ops_rule (C := []) [((φ1 0), .cells #[.int .i64 xf.k, .string ⟨(xf.a).toArray⟩, .string ⟨(xf.v).toArray⟩] 42), ((φ13 0), .cells #[.int .i64 ((List.getD M i10 Fe.z).k), .string ⟨((List.getD M i10 Fe.z).a).toArray⟩, .string ⟨((List.getD M i10 Fe.z).v).toArray⟩] 42), ((φ32 0), .cells #[.int .i64 ((List.getD M i10 Fe.z).k), .string ⟨((List.getD M i10 Fe.z).a).toArray⟩, .string ⟨((List.getD M i10 Fe.z).v).toArray⟩] 42)] F33 1 [] 0 (fun φ34 => [(5, v33)]) (fun φ34 => [((φ1 0), .cells #[.int .i64 xf.k, .string ⟨(xf.a).toArray⟩, .string ⟨(xf.v).toArray⟩] 42), ((φ13 0), .cells #[.int .i64 ((List.getD M i10 Fe.z).k), .string ⟨((List.getD M i10 Fe.z).a).toArray⟩, .string ⟨((List.getD M i10 Fe.z).v).toArray⟩] 42), ((φ32 0), .cells #[.int .i64 ((List.getD M i10 Fe.z).k), .string ⟨((List.getD M i10 Fe.z).a).toArray⟩, .string ⟨((List.getD M i10 Fe.z).v).toArray⟩] 42)]) (fun φ34 => []) s trivial (fun φ34 => by kernel_rfl) ?_
          intro φ34 w34 s
          refine ops_done (by kernel_rfl) ?_
          refine region_rule ?_
          refine ops_rule (C := []) [((φ1 0), .cells #[.int .i64 xf.k, .string ⟨(xf.a).toArray⟩, .string ⟨(xf.v).toArray⟩] 42), ((φ13 0), .cells #[.int .i64 ((List.getD M i10 Fe.z).k), .string ⟨((List.getD M i10 Fe.z).a).toArray⟩, .string ⟨((List.getD M i10 Fe.z).v).toArray⟩] 42), ((φ32 0), .cells #[.int .i64 ((List.getD M i10 Fe.z).k), .string ⟨((List.getD M i10 Fe.z).a).toArray⟩, .string ⟨((List.getD M i10 Fe.z).v).toArray⟩] 42)] F33 2 [] 0 (fun φ35 => [(15, .int .i64 (IntKind.wrap .i64 (((i10 : Nat) : Int) + ((1 : Nat) : Int)))), (34, .int .i64 (IntKind.wrap .i64 (((i10 : Nat) : Int) + ((1 : Nat) : Int))))]) (fun φ35 => [((φ1 0), .cells #[.int .i64 xf.k, .string ⟨(xf.a).toArray⟩, .string ⟨(xf.v).toArray⟩] 42), ((φ13 0), .cells #[.int .i64 ((List.getD M i10 Fe.z).k), .string ⟨((List.getD M i10 Fe.z).a).toArray⟩, .string ⟨((List.getD M i10 Fe.z).v).toArray⟩] 42), ((φ32 0), .cells #[.int .i64 ((List.getD M i10 Fe.z).k), .string ⟨((List.getD M i10 Fe.z).a).toArray⟩, .string ⟨((List.getD M i10 Fe.z).v).toArray⟩] 42)]) (fun φ35 => []) s trivial (fun φ35 => by kernel_rfl) ?_
          intro φ35 w35 s
          rw [nat_addI (a := i10) (b := 1) (by have e8 := hi10_0; have hq0 := of_decide_eq_false hc4; have hq1 := of_decide_eq_true hc12; omega)]
          refine ops_done (by kernel_rfl) ?_
          exact ⟨⟨m10 - 1, (i10 + 1, false, v33, F33), _, _, _, by have hq0 := of_decide_eq_false hc4; have hq1 := of_decide_eq_true hc12; have := hi10_0; omega, rfl, s, (List.Sublist.append (List.Sublist.cons₂ _ (List.Sublist.cons _ (List.Sublist.cons _ List.Sublist.slnil))) (List.Sublist.refl _)), by kernel_rfl, hle9, by have hq0 := of_decide_eq_false hc4; have hq1 := of_decide_eq_true hc12; have := hi10_0; show i10 + 1 + (m10 - 1) = M.length; omega, (row_eq42 (outP_miss (of_decide_eq_false hc4) (by have := of_decide_eq_false (hi10_2.symm.trans hc15); omega) (by have hq0 := of_decide_eq_false hc4; have hq1 := of_decide_eq_true hc12; have := hi10_0; omega) hc24).1 h33), (decide_eq_false (by have := (outP_miss (of_decide_eq_false hc4) (by have := of_decide_eq_false (hi10_2.symm.trans hc15); omega) (by have hq0 := of_decide_eq_false hc4; have hq1 := of_decide_eq_true hc12; have := hi10_0; omega) hc24).2; omega)).symm⟩⟩
    ·
      rw [hc12]
      refine cond_false_rule (b := false) (by kernel_rfl) rfl ?_
      refine wp_exit ?_
      refine wp_seq ?_
      refine wp_seq ?_
      refine region_rule ?_
      refine ops_rule (C := []) [((φ1 0), .cells #[.int .i64 xf.k, .string ⟨(xf.a).toArray⟩, .string ⟨(xf.v).toArray⟩] 42)] F10 2 [] 0 (fun φ36 => [(36, .bool (!(b10))), (35, .bool b10)]) (fun φ36 => [((φ1 0), .cells #[.int .i64 xf.k, .string ⟨(xf.a).toArray⟩, .string ⟨(xf.v).toArray⟩] 42)]) (fun φ36 => []) s trivial (fun φ36 => by kernel_rfl) ?_
      intro φ36 w36 s
      refine ops_done (by kernel_rfl) ?_
      rcases Bool.eq_false_or_eq_true (b10) with hc37 | hc37
      ·
        rw [hc37]
        refine cond_false_rule (b := false) (by kernel_rfl) rfl ?_
        refine wp_skip ?_
        refine wp_seq ?_
        have hr38 := row_eq42 (outP_end (of_decide_eq_false hc4) (by have hq0 := of_decide_eq_false hc4; have hq1 := of_decide_eq_false hc12; have := hi10_0; omega) (of_decide_eq_true (hi10_2.symm.trans hc37))) hi10_1
        obtain ⟨J38, le38, hk38, s⟩ := freeze_row42 (H := [((φ1 0), .cells #[.int .i64 xf.k, .string ⟨(xf.a).toArray⟩, .string ⟨(xf.v).toArray⟩] 42)]) (F := F10) s hr38
        obtain ⟨a38, c38, hv38, -, hk38⟩ := hk38.open
        subst hv38
        replace h0 := FSl.mono le38 h0
        replace hle9 := leMono le38 hle9
        refine region_rule ?_
        refine ops_rule (C := []) [((φ1 0), .cells #[.int .i64 xf.k, .string ⟨(xf.a).toArray⟩, .string ⟨(xf.v).toArray⟩] 42)] [] 2 [] 0 (fun φ39 => [(4, .slice a38 (List.length (ins M xf)) c38), (41, .slice a38 (List.length (ins M xf)) c38)]) (fun φ39 => [((φ1 0), .cells #[.int .i64 xf.k, .string ⟨(xf.a).toArray⟩, .string ⟨(xf.v).toArray⟩] 42)]) (fun φ39 => []) s trivial (fun φ39 => by kernel_rfl) ?_
        intro φ39 w39 s
        refine ops_done (by kernel_rfl) ?_
        refine wp_ret ?_
        refine ret_rule (C := []) [((φ1 0), .cells #[.int .i64 xf.k, .string ⟨(xf.a).toArray⟩, .string ⟨(xf.v).toArray⟩] 42)] [] (.slice a38 (List.length (ins M xf)) c38) [] [] s trivial (by kernel_rfl) ?_
        exact ⟨_, _, _, rfl, s, ⟨_, _, rfl, hk38⟩⟩
      ·
        rw [hc37]
        refine cond_true_rule (b := true) (by kernel_rfl) rfl ?_
        refine region_rule ?_
        refine ops_rule (C := []) [((φ1 0), .cells #[.int .i64 xf.k, .string ⟨(xf.a).toArray⟩, .string ⟨(xf.v).toArray⟩] 42)] F10 3 [.o 0, .o 0, .o 0] 1 (fun φ40 => [(39, .slice (some ⟨(φ40 0), 0, none⟩) 1 1), (38, .agg #[.int .i64 xf.k, .string ⟨(xf.a).toArray⟩, .string ⟨(xf.v).toArray⟩]), (37, v10)]) (fun φ40 => [((φ1 0), .cells #[.int .i64 xf.k, .string ⟨(xf.a).toArray⟩, .string ⟨(xf.v).toArray⟩] 42), ((φ40 0), .cells #[.int .i64 xf.k, .string ⟨(xf.a).toArray⟩, .string ⟨(xf.v).toArray⟩] 42)]) (fun φ40 => [(φ1 0), (φ1 0), (φ1 0)]) s trivial (fun φ40 => by kernel_rfl) ?_
        intro φ40 w40 s
        have hb41 : (List.length (outP M xf i10)) ≤ 100000 := (by have := outP_len (M := M) (x := xf) (i := i10); (try simp only [List.length_append, List.length_cons, List.length_nil]); omega)
        refine append_rule (H := [((φ1 0), .cells #[.int .i64 xf.k, .string ⟨(xf.a).toArray⟩, .string ⟨(xf.v).toArray⟩] 42), ((φ40 0), .cells #[.int .i64 xf.k, .string ⟨(xf.a).toArray⟩, .string ⟨(xf.v).toArray⟩] 42)]) (F := F10) 30 30 42 Tryd.t42 (.agg #[.int .i64 0, .string ⟨#[]⟩, .string ⟨#[]⟩]) 3 40 (some 40) s Tryd.underlying30 (by kernel_rfl) (by kernel_rfl) (by kernel_rfl) (by kernel_rfl) (by kernel_rfl) (by decide) hi10_1 (src_own s 1 (φ40 0) #[.int .i64 xf.k, .string ⟨(xf.a).toArray⟩, .string ⟨(xf.v).toArray⟩] 42 30 42 1 1 3 [.int .i64 xf.k, .string ⟨(xf.a).toArray⟩, .string ⟨(xf.v).toArray⟩] (by kernel_rfl) Tryd.underlying30 (by kernel_rfl) (by kernel_rfl) (by kernel_rfl)) (by simp only [maxLen]; omega) (by omega) (by kernel_rfl) ?_
        intro v41 w41 F41 s h41
        replace h41 : RowH 42 3 v41 (List.length ((outP M xf i10) ++ [xf])) (fcs ((outP M xf i10) ++ [xf])) F41 := row42_snoc (Fs := (outP M xf i10)) (x := xf) h41 rfl
        refine ops_rule (C := []) [((φ1 0), .cells #[.int .i64 xf.k, .string ⟨(xf.a).toArray⟩, .string ⟨(xf.v).toArray⟩] 42), ((φ40 0), .cells #[.int .i64 xf.k, .string ⟨(xf.a).toArray⟩, .string ⟨(xf.v).toArray⟩] 42)] F41 1 [] 0 (fun φ42 => [(5, v41)]) (fun φ42 => [((φ1 0), .cells #[.int .i64 xf.k, .string ⟨(xf.a).toArray⟩, .string ⟨(xf.v).toArray⟩] 42), ((φ40 0), .cells #[.int .i64 xf.k, .string ⟨(xf.a).toArray⟩, .string ⟨(xf.v).toArray⟩] 42)]) (fun φ42 => []) s trivial (fun φ42 => by kernel_rfl) ?_
        intro φ42 w42 s
        refine ops_done (by kernel_rfl) ?_
        refine wp_seq ?_
        have hr43 := row_eq42 (outP_last (of_decide_eq_false hc4) (by have hq0 := of_decide_eq_false hc4; have hq1 := of_decide_eq_false hc12; have := hi10_0; omega) (by have := of_decide_eq_false (hi10_2.symm.trans hc37); omega)) h41
        obtain ⟨J43, le43, hk43, s⟩ := freeze_row42 (H := [((φ1 0), .cells #[.int .i64 xf.k, .string ⟨(xf.a).toArray⟩, .string ⟨(xf.v).toArray⟩] 42), ((φ40 0), .cells #[.int .i64 xf.k, .string ⟨(xf.a).toArray⟩, .string ⟨(xf.v).toArray⟩] 42)]) (F := F41) s hr43
        obtain ⟨a43, c43, hv43, -, hk43⟩ := hk43.open
        subst hv43
        replace h0 := FSl.mono le43 h0
        replace hle9 := leMono le43 hle9
        refine region_rule ?_
        refine ops_rule (C := []) [((φ1 0), .cells #[.int .i64 xf.k, .string ⟨(xf.a).toArray⟩, .string ⟨(xf.v).toArray⟩] 42), ((φ40 0), .cells #[.int .i64 xf.k, .string ⟨(xf.a).toArray⟩, .string ⟨(xf.v).toArray⟩] 42)] [] 2 [] 0 (fun φ44 => [(4, .slice a43 (List.length (ins M xf)) c43), (41, .slice a43 (List.length (ins M xf)) c43)]) (fun φ44 => [((φ1 0), .cells #[.int .i64 xf.k, .string ⟨(xf.a).toArray⟩, .string ⟨(xf.v).toArray⟩] 42), ((φ40 0), .cells #[.int .i64 xf.k, .string ⟨(xf.a).toArray⟩, .string ⟨(xf.v).toArray⟩] 42)]) (fun φ44 => []) s trivial (fun φ44 => by kernel_rfl) ?_
        intro φ44 w44 s
        refine ops_done (by kernel_rfl) ?_
        refine wp_ret ?_
        refine ret_rule (C := []) [((φ1 0), .cells #[.int .i64 xf.k, .string ⟨(xf.a).toArray⟩, .string ⟨(xf.v).toArray⟩] 42), ((φ40 0), .cells #[.int .i64 xf.k, .string ⟨(xf.a).toArray⟩, .string ⟨(xf.v).toArray⟩] 42)] [] (.slice a43 (List.length (ins M xf)) c43) [] [] s trivial (by kernel_rfl) ?_
        exact ⟨_, _, _, rfl, s, ⟨_, _, rfl, hk43⟩⟩

end Go.Proofs.YtcpmjogeafhpnaaDoor
/- Any fields are a card: the document; a few of them. -/
set_option linter.all false
set_option maxRecDepth 100000
namespace Go.Proofs.YtcpmjogeafhpnaaDoor
open Go.RowKit Go.Sep
attribute [local irreducible] Go.wpList Go.Code.wp

theorem refRightX_c {I : IM} {x : Fe} (h : x.a.length ≤ 1000 ∧ x.v.length ≤ 1000) : Fun Tryd.prog 23 #[.agg #[.int .i64 x.k, .string ⟨(x.a).toArray⟩, .string ⟨(x.v).toArray⟩]] I (fun v J => v = .int .i64 ((rtFe x : Nat) : Int)) :=
  Tx.refRight_c (z := x.k) (A := x.a) (B := x.v) (by omega) (by omega)
theorem short_mem {L : List Fe} (h : shortL L) {x : Fe} (hx : x ∈ L) : x.a.length ≤ 1000 ∧ x.v.length ≤ 1000 := by
  obtain ⟨i, hi, he⟩ := List.getElem_of_mem hx
  have := h i hi
  simpa [hi, he] using this
theorem short_of {L : List Fe} (h : ∀ x ∈ L, x.a.length ≤ 1000 ∧ x.v.length ≤ 1000) : shortL L := fun i hi => h _ (by simp [hi])
theorem short_puts {L : List Fe} (h : shortL L) (i : Nat) : shortL (puts (L.take i)) := short_of fun x hx => short_mem h (List.mem_of_mem_take (mem_puts.1 hx))
theorem putL_c {I : IM} {L : List Fe} {i : Nat} {a0 : Option Addr} {c0 : Nat} (h0 : FSl I (puts (L.take i)) (.slice a0 (puts (L.take i)).length c0)) (hl : L.length ≤ 1000) (hsh : shortL L) (hi : i < L.length) :
    Fun Tryd.prog 58 #[.slice a0 (puts (L.take i)).length c0, .agg #[.int .i64 (L.getD i Fe.z).k, .string ⟨((L.getD i Fe.z).a).toArray⟩, .string ⟨((L.getD i Fe.z).v).toArray⟩]] I (fun v J => ∃ a c, v = .slice a (puts (L.take (i + 1))).length c ∧ FSl J (puts (L.take (i + 1))) (.slice a (puts (L.take (i + 1))).length c)) := by
  rw [puts_take hi]
  exact put_c h0 (by have := puts_len (L.take i); rw [List.length_take] at this; omega) (short_puts hsh i) (hsh i hi)
theorem mkD_err {J : IM} {L : List Fe} {i : Nat} (hi : i < L.length) (h : eRt (L.take i) = 0) (hx : rtFe (L.getD i Fe.z) ≠ 0) : ∃ a c, (.tuple #[.slice none 0 0, .int .i64 ((rtFe (L.getD i Fe.z) : Nat) : Int)] : Value) = .tuple #[.slice a (mkF L).length c, .int .i64 ((mkE L : Nat) : Int)] ∧ FSl J (mkF L) (.slice a (mkF L).length c) := by
  have e := eRt_at hi h hx
  have hne : ¬ eRt L = 0 := by rw [e]; exact hx
  have e1 : mkF L = [] := if_neg hne
  have e2 : mkE L = rtFe (L.getD i Fe.z) := (if_neg hne).trans e
  rw [e1, e2]; exact ⟨none, 0, rfl, fsl_nil J⟩
theorem mkD_full {J : IM} {L : List Fe} {i : Nat} (hi : i = L.length) (h : eRt (L.take i) = 0) (h8 : 8 < (puts (L.take i)).length) : ∃ a c, (.tuple #[.slice none 0 0, .int .i64 8] : Value) = .tuple #[.slice a (mkF L).length c, .int .i64 ((mkE L : Nat) : Int)] ∧ FSl J (mkF L) (.slice a (mkF L).length c) := by
  subst hi
  rw [List.take_length] at h h8
  have hn : ¬ (puts L).length ≤ 8 := by omega
  have e1 : mkF L = [] := (if_pos h).trans (if_neg hn)
  have e2 : mkE L = 8 := (if_pos h).trans (if_neg hn)
  rw [e1, e2]; exact ⟨none, 0, rfl, fsl_nil J⟩
theorem mkD_ok {J : IM} {L : List Fe} {i : Nat} {a : Option Addr} {c : Nat} (hi : i = L.length) (h : eRt (L.take i) = 0) (h8 : ¬ 8 < (puts (L.take i)).length) (hf : FSl J (puts (L.take i)) (.slice a (puts (L.take i)).length c)) : ∃ a' c', (.tuple #[.slice a (puts (L.take i)).length c, .int .i64 0] : Value) = .tuple #[.slice a' (mkF L).length c', .int .i64 ((mkE L : Nat) : Int)] ∧ FSl J (mkF L) (.slice a' (mkF L).length c') := by
  subst hi
  rw [List.take_length] at h h8 hf ⊢
  have hn : (puts L).length ≤ 8 := by omega
  have e1 : mkF L = puts L := (if_pos h).trans (if_pos hn)
  have e2 : mkE L = 0 := (if_pos h).trans (if_pos hn)
  rw [e1, e2]; exact ⟨a, c, rfl, hf⟩
def cutFe (x : Fe) : Fe := ⟨x.k, x.a.take 60, x.v.take 60⟩
/-- not too many, none too long -/
def fewF (L : List Fe) : List Fe := (L.take 14).map cutFe
theorem take_min60 {l : List UInt8} : l.take (min l.length 60) = l.take 60 := by
  by_cases h : l.length ≤ 60
  · rw [Nat.min_eq_left h, List.take_of_length_le (Nat.le_refl _), List.take_of_length_le h]
  · rw [Nat.min_eq_right (by omega)]
theorem few_next {L : List Fe} {i : Nat} (hi : i < L.length) (h : i < 14) : fewF (L.take i) ++ [(⟨(List.getD L i Fe.z).k, ((List.getD L i Fe.z).a).take (min ((List.getD L i Fe.z).a).length 60), ((List.getD L i Fe.z).v).take (min ((List.getD L i Fe.z).v).length 60)⟩ : Fe)] = fewF (L.take (i + 1)) := by
  unfold fewF
  have e1 : min 14 i = i := by omega
  have e2 : min 14 (i + 1) = i + 1 := by omega
  rw [List.take_take, List.take_take, e1, e2, fe_take hi, List.map_append, take_min60, take_min60]; rfl
theorem few_past {L : List Fe} {i : Nat} (hi : i < L.length) (h : ¬ i < 14) : fewF (L.take i) = fewF (L.take (i + 1)) := by
  unfold fewF
  have e1 : min 14 i = 14 := by omega
  have e2 : min 14 (i + 1) = 14 := by omega
  rw [List.take_take, List.take_take, e1, e2]
theorem few_len {L : List Fe} : (fewF L).length ≤ 14 := by unfold fewF; rw [List.length_map, List.length_take]; omega
theorem few_short {L : List Fe} : ∀ x ∈ fewF L, x.a.length ≤ 60 ∧ x.v.length ≤ 60 := fun x hx => by
  obtain ⟨y, _, rfl⟩ := List.mem_map.1 hx
  refine ⟨?_, ?_⟩ <;> (show (List.take 60 _).length ≤ 60; rw [List.length_take]; omega)
theorem few_shortL {L : List Fe} : shortL (fewF L) := short_of fun x hx => by have := few_short x hx; omega
set_option maxHeartbeats 4000000 in
theorem refMake_c {I : IM} {L : List Fe} {a0 : Option Addr} {c0 : Nat} (h0 : FSl I L (.slice a0 L.length c0)) (hl : L.length ≤ 1000) (hsh : shortL L) : Fun Tryd.prog 16 #[.slice a0 L.length c0] I (fun v J => ∃ a c, v = .tuple #[.slice a (mkF L).length c, .int .i64 ((mkE L : Nat) : Int)] ∧ FSl J (mkF L) (.slice a (mkF L).length c)) := by
  refine enter_rule 27 [(0, .slice a0 L.length c0)] Tryd.func16 rfl (by kernel_rfl) ?_
  intro w s
  refine wp_seq ?_
  refine region_rule ?_
  refine ops_rule (C := []) [] [] 2 [] 0 (fun φ1 => [(3, .int .i64 0), (2, .slice none 0 0)]) (fun φ1 => []) (fun φ1 => []) s trivial (fun φ1 => by kernel_rfl) ?_
  intro φ1 w1 s
  refine ops_done (by kernel_rfl) ?_
  refine wp_seq ?_
  refine region_rule ?_
  refine ops_rule (C := []) [] [] 1 [] 0 (fun φ2 => [(4, .slice none 0 0)]) (fun φ2 => []) (fun φ2 => []) s trivial (fun φ2 => by kernel_rfl) ?_
  intro φ2 w2 s
  refine ops_done (by kernel_rfl) ?_
  refine wp_seq ?_
  refine wp_seq ?_
  refine region_rule ?_
  refine ops_rule (C := []) [] [] 3 [] 0 (fun φ3 => [(10, .int .i64 0), (9, .int .i64 ((L.length : Nat) : Int)), (8, .slice a0 L.length c0)]) (fun φ3 => []) (fun φ3 => []) s trivial (fun φ3 => by kernel_rfl) ?_
  intro φ3 w3 s
  refine ops_done (by kernel_rfl) ?_
  refine wp_block ?_
  have hle4 := IM.Le.refl I
  refine loop_rule (fun (x : Nat × Option Addr × Nat) => [(0, .slice a0 L.length c0), (2, .slice none 0 0), (3, .int .i64 0), (8, .slice a0 L.length c0), (9, .int .i64 ((L.length : Nat) : Int)), (10, .int .i64 ((x.1 : Nat) : Int)), (4, .slice x.2.1 (List.length (puts (L.take x.1))) x.2.2)]) (fun (x : Nat × Option Addr × Nat) => []) (fun m (x : Nat × Option Addr × Nat) J => IM.Le I J ∧ x.1 + m = L.length ∧ eRt (L.take x.1) = 0 ∧ FSl J (puts (L.take x.1)) (.slice x.2.1 (List.length (puts (L.take x.1))) x.2.2)) (L.length) (0, none, 0) s (by kernel_rfl) List.Sublist.slnil ⟨IM.Le.refl _, Nat.zero_add _, rfl, (fsl_nil _)⟩ ?_
  rintro m5 ⟨i5, a5, c5⟩ I5 w5 ev5 s ⟨le5, hi5_0, hi5_1, hi5_2⟩
  try dsimp only at s hi5_0 hi5_1 hi5_2 ⊢
  replace h0 := FSl.mono le5 h0
  replace hle4 := leMono le5 hle4
  refine wp_seq ?_
  refine region_rule ?_
  refine ops_rule (C := []) [] [] 1 [] 0 (fun φ6 => [(11, .bool (decide (((i5 : Nat) : Int) < ((L.length : Nat) : Int))))]) (fun φ6 => []) (fun φ6 => []) s trivial (fun φ6 => by kernel_rfl) ?_
  intro φ6 w6 s
  rw [nat_lss (a := i5) (b := L.length)]
  refine ops_done (by kernel_rfl) ?_
  refine wp_seq ?_
  rcases Bool.eq_false_or_eq_true (decide (i5 < L.length)) with hc7 | hc7
  ·
    rw [hc7]
    refine cond_true_rule (b := true) (by kernel_rfl) rfl ?_
    refine wp_skip ?_
    refine wp_seq ?_
    refine wp_block ?_
    refine wp_seq ?_
    refine region_rule ?_
    refine sem_rule (Instr.indexAt 30 (.slice a0 L.length c0) (.int .i64 ((i5 : Nat) : Int))) (some 12) (.pointer (pAt a0 (i5 * 3))) (by kernel_rfl) (fsl_idx30 h0 (by have e8 := hi5_0; have hq0 := of_decide_eq_true hc7; omega)) ?_
    refine sem_rule (Instr.loadAt 42 (.pointer (pAt a0 (i5 * 3)))) (some 13) (.agg #[.int .i64 ((List.getD L i5 Fe.z).k), .string ⟨((List.getD L i5 Fe.z).a).toArray⟩, .string ⟨((List.getD L i5 Fe.z).v).toArray⟩]) (by kernel_rfl) (fsl_ld42 s.sub h0 (by have e8 := hi5_0; have hq0 := of_decide_eq_true hc7; omega)) ?_
    refine ops_rule (C := []) [] [] 2 [.o 0, .o 0, .o 0] 1 (fun φ8 => [(6, .pointer (some ⟨(φ8 0), 0, none⟩))]) (fun φ8 => [((φ8 0), .cells #[.int .i64 ((List.getD L i5 Fe.z).k), .string ⟨((List.getD L i5 Fe.z).a).toArray⟩, .string ⟨((List.getD L i5 Fe.z).v).toArray⟩] 42)]) (fun φ8 => [(φ8 0), (φ8 0), (φ8 0)]) s trivial (fun φ8 => by kernel_rfl) ?_
    intro φ8 w8 s
    refine ops_done (by kernel_rfl) ?_
    refine wp_seq ?_
    refine wp_seq ?_
    refine region_rule ?_
    refine ops_rule (C := []) [((φ8 0), .cells #[.int .i64 ((List.getD L i5 Fe.z).k), .string ⟨((List.getD L i5 Fe.z).a).toArray⟩, .string ⟨((List.getD L i5 Fe.z).v).toArray⟩] 42)] [] 1 [.o 0, .o 0, .o 0] 0 (fun φ9 => [(14, .agg #[.int .i64 ((List.getD L i5 Fe.z).k), .string ⟨((List.getD L i5 Fe.z).a).toArray⟩, .string ⟨((List.getD L i5 Fe.z).v).toArray⟩])]) (fun φ9 => [((φ8 0), .cells #[.int .i64 ((List.getD L i5 Fe.z).k), .string ⟨((List.getD L i5 Fe.z).a).toArray⟩, .string ⟨((List.getD L i5 Fe.z).v).toArray⟩] 42)]) (fun φ9 => [(φ8 0), (φ8 0), (φ8 0)]) s trivial (fun φ9 => by kernel_rfl) ?_
    intro φ9 w9 s
    refine call_rule (some 15) s (refRightX_c (x := (List.getD L i5 Fe.z)) (hsh i5 (by have hq0 := of_decide_eq_true hc7; omega))) (by kernel_rfl) ?_
    intro v10 I10 w10 le10 h10 s
    replace h0 := FSl.mono le10 h0
    replace hle4 := leMono le10 hle4
    replace hi5_2 := FSl.mono le10 hi5_2
    obtain rfl := h10
    refine ops_rule (C := []) [((φ8 0), .cells #[.int .i64 ((List.getD L i5 Fe.z).k), .string ⟨((List.getD L i5 Fe.z).a).toArray⟩, .string ⟨((List.getD L i5 Fe.z).v).toArray⟩] 42)] [] 1 [] 0 (fun φ11 => [(7, .int .i64 ((rtFe (List.getD L i5 Fe.z) : Nat) : Int))]) (fun φ11 => [((φ8 0), .cells #[.int .i64 ((List.getD L i5 Fe.z).k), .string ⟨((List.getD L i5 Fe.z).a).toArray⟩, .string ⟨((List.getD L i5 Fe.z).v).toArray⟩] 42)]) (fun φ11 => []) s trivial (fun φ11 => by kernel_rfl) ?_
    intro φ11 w11 s
    refine ops_done (by kernel_rfl) ?_
    refine wp_seq ?_
    refine region_rule ?_
    refine ops_rule (C := []) [((φ8 0), .cells #[.int .i64 ((List.getD L i5 Fe.z).k), .string ⟨((List.getD L i5 Fe.z).a).toArray⟩, .string ⟨((List.getD L i5 Fe.z).v).toArray⟩] 42)] [] 2 [] 0 (fun φ12 => [(17, .bool (((rtFe (List.getD L i5 Fe.z) : Nat) : Int) != ((0 : Nat) : Int))), (16, .int .i64 ((rtFe (List.getD L i5 Fe.z) : Nat) : Int))]) (fun φ12 => [((φ8 0), .cells #[.int .i64 ((List.getD L i5 Fe.z).k), .string ⟨((List.getD L i5 Fe.z).a).toArray⟩, .string ⟨((List.getD L i5 Fe.z).v).toArray⟩] 42)]) (fun φ12 => []) s trivial (fun φ12 => by kernel_rfl) ?_
    intro φ12 w12 s
    rw [nat_neq (a := (rtFe (List.getD L i5 Fe.z))) (b := 0)]
    refine ops_done (by kernel_rfl) ?_
    rcases Bool.eq_false_or_eq_true (decide ((rtFe (List.getD L i5 Fe.z)) ≠ 0)) with hc13 | hc13
    ·
      rw [hc13]
      refine cond_true_rule (b := true) (by kernel_rfl) rfl ?_
      refine wp_seq ?_
      refine region_rule ?_
      refine ops_rule (C := []) [((φ8 0), .cells #[.int .i64 ((List.getD L i5 Fe.z).k), .string ⟨((List.getD L i5 Fe.z).a).toArray⟩, .string ⟨((List.getD L i5 Fe.z).v).toArray⟩] 42)] [] 3 [] 0 (fun φ14 => [(3, .int .i64 ((rtFe (List.getD L i5 Fe.z) : Nat) : Int)), (2, .slice none 0 0), (18, .int .i64 ((rtFe (List.getD L i5 Fe.z) : Nat) : Int))]) (fun φ14 => [((φ8 0), .cells #[.int .i64 ((List.getD L i5 Fe.z).k), .string ⟨((List.getD L i5 Fe.z).a).toArray⟩, .string ⟨((List.getD L i5 Fe.z).v).toArray⟩] 42)]) (fun φ14 => []) s trivial (fun φ14 => by kernel_rfl) ?_
      intro φ14 w14 s
      refine ops_done (by kernel_rfl) ?_
      refine wp_ret ?_
      refine ret_rule (C := []) [((φ8 0), .cells #[.int .i64 ((List.getD L i5 Fe.z).k), .string ⟨((List.getD L i5 Fe.z).a).toArray⟩, .string ⟨((List.getD L i5 Fe.z).v).toArray⟩] 42)] [] (.tuple #[.slice none 0 0, .int .i64 ((rtFe (List.getD L i5 Fe.z) : Nat) : Int)]) [] [] s trivial (by kernel_rfl) ?_
      exact ⟨_, _, _, rfl, s, (mkD_err (by have hq0 := of_decide_eq_true hc7; have hq1 := of_decide_eq_true hc13; have := hi5_0; omega) hi5_1 (rt1 hc13))⟩
    ·
      rw [hc13]
      refine cond_false_rule (b := false) (by kernel_rfl) rfl ?_
      refine wp_skip ?_
      refine region_rule ?_
      refine ops_rule (C := []) [((φ8 0), .cells #[.int .i64 ((List.getD L i5 Fe.z).k), .string ⟨((List.getD L i5 Fe.z).a).toArray⟩, .string ⟨((List.getD L i5 Fe.z).v).toArray⟩] 42)] [] 2 [.o 0, .o 0, .o 0] 0 (fun φ15 => [(20, .agg #[.int .i64 ((List.getD L i5 Fe.z).k), .string ⟨((List.getD L i5 Fe.z).a).toArray⟩, .string ⟨((List.getD L i5 Fe.z).v).toArray⟩]), (19, .slice a5 (List.length (puts (L.take i5))) c5)]) (fun φ15 => [((φ8 0), .cells #[.int .i64 ((List.getD L i5 Fe.z).k), .string ⟨((List.getD L i5 Fe.z).a).toArray⟩, .string ⟨((List.getD L i5 Fe.z).v).toArray⟩] 42)]) (fun φ15 => [(φ8 0), (φ8 0), (φ8 0)]) s trivial (fun φ15 => by kernel_rfl) ?_
      intro φ15 w15 s
      refine call_rule (some 21) s (putL_c hi5_2 hl hsh (by have hq0 := of_decide_eq_true hc7; have hq1 := of_decide_eq_false hc13; have e8 := hi5_0; omega)) (by kernel_rfl) ?_
      intro v16 I16 w16 le16 h16 s
      replace h0 := FSl.mono le16 h0
      replace hle4 := leMono le16 hle4
      replace hi5_2 := FSl.mono le16 hi5_2
      obtain ⟨a16, c16, rfl, h16_0⟩ := h16
      refine ops_rule (C := []) [((φ8 0), .cells #[.int .i64 ((List.getD L i5 Fe.z).k), .string ⟨((List.getD L i5 Fe.z).a).toArray⟩, .string ⟨((List.getD L i5 Fe.z).v).toArray⟩] 42)] [] 1 [] 0 (fun φ17 => [(4, .slice a16 (List.length (puts (L.take (i5 + 1)))) c16)]) (fun φ17 => [((φ8 0), .cells #[.int .i64 ((List.getD L i5 Fe.z).k), .string ⟨((List.getD L i5 Fe.z).a).toArray⟩, .string ⟨((List.getD L i5 Fe.z).v).toArray⟩] 42)]) (fun φ17 => []) s trivial (fun φ17 => by kernel_rfl) ?_
      intro φ17 w17 s
      refine ops_done (by kernel_rfl) ?_
      refine region_rule ?_
      refine ops_rule (C := []) [((φ8 0), .cells #[.int .i64 ((List.getD L i5 Fe.z).k), .string ⟨((List.getD L i5 Fe.z).a).toArray⟩, .string ⟨((List.getD L i5 Fe.z).v).toArray⟩] 42)] [] 2 [] 0 (fun φ18 => [(10, .int .i64 (IntKind.wrap .i64 (((i5 : Nat) : Int) + ((1 : Nat) : Int)))), (22, .int .i64 (IntKind.wrap .i64 (((i5 : Nat) : Int) + ((1 : Nat) : Int))))]) (fun φ18 => [((φ8 0), .cells #[.int .i64 ((List.getD L i5 Fe.z).k), .string ⟨((List.getD L i5 Fe.z).a).toArray⟩, .string ⟨((List.getD L i5 Fe.z).v).toArray⟩] 42)]) (fun φ18 => []) s trivial (fun φ18 => by kernel_rfl) ?_
      intro φ18 w18 s
      rw [nat_addI (a := i5) (b := 1) (by have e8 := hi5_0; have hq0 := of_decide_eq_true hc7; have hq1 := of_decide_eq_false hc13; omega)]
      refine ops_done (by kernel_rfl) ?_
      exact ⟨⟨m5 - 1, (i5 + 1, a16, c16), _, _, _, by have hq0 := of_decide_eq_true hc7; have hq1 := of_decide_eq_false hc13; have := hi5_0; omega, rfl, s, (List.Sublist.cons _ List.Sublist.slnil), by kernel_rfl, hle4, by have hq0 := of_decide_eq_true hc7; have hq1 := of_decide_eq_false hc13; have := hi5_0; show i5 + 1 + (m5 - 1) = L.length; omega, eRt_next (by have hq0 := of_decide_eq_true hc7; have hq1 := of_decide_eq_false hc13; have := hi5_0; omega) hi5_1 (rt0 hc13), h16_0⟩⟩
  ·
    rw [hc7]
    refine cond_false_rule (b := false) (by kernel_rfl) rfl ?_
    refine wp_exit ?_
    refine wp_seq ?_
    refine wp_seq ?_
    refine region_rule ?_
    refine ops_rule (C := []) [] [] 3 [] 0 (fun φ19 => [(25, .bool (decide ((((List.length (puts (L.take i5))) : Nat) : Int) > ((8 : Nat) : Int)))), (24, .int .i64 (((List.length (puts (L.take i5))) : Nat) : Int)), (23, .slice a5 (List.length (puts (L.take i5))) c5)]) (fun φ19 => []) (fun φ19 => []) s trivial (fun φ19 => by kernel_rfl) ?_
    intro φ19 w19 s
    rw [nat_gtr (a := (List.length (puts (L.take i5)))) (b := 8)]
    refine ops_done (by kernel_rfl) ?_
    rcases Bool.eq_false_or_eq_true (decide (8 < (List.length (puts (L.take i5))))) with hc20 | hc20
    ·
      rw [hc20]
      refine cond_true_rule (b := true) (by kernel_rfl) rfl ?_
      refine wp_seq ?_
      refine region_rule ?_
      refine ops_rule (C := []) [] [] 2 [] 0 (fun φ21 => [(3, .int .i64 8), (2, .slice none 0 0)]) (fun φ21 => []) (fun φ21 => []) s trivial (fun φ21 => by kernel_rfl) ?_
      intro φ21 w21 s
      refine ops_done (by kernel_rfl) ?_
      refine wp_ret ?_
      refine ret_rule (C := []) [] [] (.tuple #[.slice none 0 0, .int .i64 8]) [] [] s trivial (by kernel_rfl) ?_
      exact ⟨_, _, _, rfl, s, (mkD_full (by have hq0 := of_decide_eq_false hc7; have hq1 := of_decide_eq_true hc20; have := hi5_0; omega) hi5_1 (of_decide_eq_true hc20))⟩
    ·
      rw [hc20]
      refine cond_false_rule (b := false) (by kernel_rfl) rfl ?_
      refine wp_skip ?_
      refine wp_seq ?_
      refine region_rule ?_
      refine ops_rule (C := []) [] [] 3 [] 0 (fun φ22 => [(3, .int .i64 0), (2, .slice a5 (List.length (puts (L.take i5))) c5), (26, .slice a5 (List.length (puts (L.take i5))) c5)]) (fun φ22 => []) (fun φ22 => []) s trivial (fun φ22 => by kernel_rfl) ?_
      intro φ22 w22 s
      refine ops_done (by kernel_rfl) ?_
      refine wp_ret ?_
      refine ret_rule (C := []) [] [] (.tuple #[.slice a5 (List.length (puts (L.take i5))) c5, .int .i64 0]) [] [] s trivial (by kernel_rfl) ?_
      exact ⟨_, _, _, rfl, s, (mkD_ok (by have hq0 := of_decide_eq_false hc7; have hq1 := of_decide_eq_false hc20; have := hi5_0; omega) hi5_1 (of_decide_eq_false hc20) hi5_2)⟩

set_option maxHeartbeats 4000000 in
theorem few_c {I : IM} {L : List Fe} {a0 : Option Addr} {c0 : Nat} (h0 : FSl I L (.slice a0 L.length c0)) (hl : L.length ≤ 9223372036854775807) : Fun Tryd.prog 14 #[.slice a0 L.length c0] I (fun v J => ∃ a c, v = .slice a (fewF L).length c ∧ FSl J (fewF L) (.slice a (fewF L).length c)) := by
  refine enter_rule 37 [(0, .slice a0 L.length c0)] Tryd.func14 rfl (by kernel_rfl) ?_
  intro w s
  refine wp_seq ?_
  refine region_rule ?_
  refine ops_rule (C := []) [] [] 1 [] 0 (fun φ1 => [(2, .slice none 0 0)]) (fun φ1 => []) (fun φ1 => []) s trivial (fun φ1 => by kernel_rfl) ?_
  intro φ1 w1 s
  refine ops_done (by kernel_rfl) ?_
  refine wp_seq ?_
  refine region_rule ?_
  refine ops_rule (C := []) [] [] 1 [] 0 (fun φ2 => [(3, .slice none 0 0)]) (fun φ2 => []) (fun φ2 => []) s trivial (fun φ2 => by kernel_rfl) ?_
  intro φ2 w2 s
  refine ops_done (by kernel_rfl) ?_
  refine wp_seq ?_
  refine wp_seq ?_
  refine region_rule ?_
  refine ops_rule (C := []) [] [] 3 [] 0 (fun φ3 => [(8, .int .i64 0), (7, .int .i64 ((L.length : Nat) : Int)), (6, .slice a0 L.length c0)]) (fun φ3 => []) (fun φ3 => []) s trivial (fun φ3 => by kernel_rfl) ?_
  intro φ3 w3 s
  refine ops_done (by kernel_rfl) ?_
  refine wp_block ?_
  have hle4 := IM.Le.refl I
  refine loop_rule (fun (x : Nat × Value × List OB) => [(0, .slice a0 L.length c0), (2, .slice none 0 0), (6, .slice a0 L.length c0), (7, .int .i64 ((L.length : Nat) : Int)), (8, .int .i64 ((x.1 : Nat) : Int)), (3, x.2.1)]) (fun (x : Nat × Value × List OB) => [] ++ x.2.2) (fun m (x : Nat × Value × List OB) J => IM.Le I J ∧ x.1 + m = L.length ∧ RowH 39 3 x.2.1 (List.length (fewF (L.take x.1))) (fcs (fewF (L.take x.1))) x.2.2) (L.length) (0, (.slice none 0 0), []) s (by kernel_rfl) (List.Sublist.refl _) ⟨IM.Le.refl _, Nat.zero_add _, (RowH.nil 39 3)⟩ ?_
  rintro m5 ⟨i5, v5, F5⟩ I5 w5 ev5 s ⟨le5, hi5_0, hi5_1⟩
  try dsimp only at s hi5_0 hi5_1 ⊢
  replace h0 := FSl.mono le5 h0
  replace hle4 := leMono le5 hle4
  refine wp_seq ?_
  refine region_rule ?_
  refine ops_rule (C := []) [] F5 1 [] 0 (fun φ6 => [(9, .bool (decide (((i5 : Nat) : Int) < ((L.length : Nat) : Int))))]) (fun φ6 => []) (fun φ6 => []) s trivial (fun φ6 => by kernel_rfl) ?_
  intro φ6 w6 s
  rw [nat_lss (a := i5) (b := L.length)]
  refine ops_done (by kernel_rfl) ?_
  refine wp_seq ?_
  rcases Bool.eq_false_or_eq_true (decide (i5 < L.length)) with hc7 | hc7
  ·
    rw [hc7]
    refine cond_true_rule (b := true) (by kernel_rfl) rfl ?_
    refine wp_skip ?_
    refine wp_seq ?_
    refine wp_block ?_
    refine wp_seq ?_
    refine region_rule ?_
    refine ops_rule (C := []) [] F5 1 [] 0 (fun φ8 => [(10, .int .i64 ((i5 : Nat) : Int))]) (fun φ8 => []) (fun φ8 => []) s trivial (fun φ8 => by kernel_rfl) ?_
    intro φ8 w8 s
    refine sem_rule (Instr.indexAt 22 (.slice a0 L.length c0) (.int .i64 ((i5 : Nat) : Int))) (some 11) (.pointer (pAt a0 (i5 * 3))) (by kernel_rfl) (fsl_idx22 h0 (by have e8 := hi5_0; have hq0 := of_decide_eq_true hc7; omega)) ?_
    refine sem_rule (Instr.loadAt 39 (.pointer (pAt a0 (i5 * 3)))) (some 12) (.agg #[.int .i64 ((List.getD L i5 Fe.z).k), .string ⟨((List.getD L i5 Fe.z).a).toArray⟩, .string ⟨((List.getD L i5 Fe.z).v).toArray⟩]) (by kernel_rfl) (fsl_ld39 s.sub h0 (by have e8 := hi5_0; have hq0 := of_decide_eq_true hc7; omega)) ?_
    refine ops_rule (C := []) [] F5 3 [.o 0, .o 0, .o 0] 1 (fun φ9 => [(4, .int .i64 ((i5 : Nat) : Int)), (5, .pointer (some ⟨(φ9 0), 0, none⟩))]) (fun φ9 => [((φ9 0), .cells #[.int .i64 ((List.getD L i5 Fe.z).k), .string ⟨((List.getD L i5 Fe.z).a).toArray⟩, .string ⟨((List.getD L i5 Fe.z).v).toArray⟩] 39)]) (fun φ9 => [(φ9 0), (φ9 0), (φ9 0)]) s trivial (fun φ9 => by kernel_rfl) ?_
    intro φ9 w9 s
    refine ops_done (by kernel_rfl) ?_
    refine wp_seq ?_
    refine region_rule ?_
    refine ops_rule (C := []) [((φ9 0), .cells #[.int .i64 ((List.getD L i5 Fe.z).k), .string ⟨((List.getD L i5 Fe.z).a).toArray⟩, .string ⟨((List.getD L i5 Fe.z).v).toArray⟩] 39)] F5 2 [] 0 (fun φ10 => [(14, .bool (decide (((i5 : Nat) : Int) < ((14 : Nat) : Int)))), (13, .int .i64 ((i5 : Nat) : Int))]) (fun φ10 => [((φ9 0), .cells #[.int .i64 ((List.getD L i5 Fe.z).k), .string ⟨((List.getD L i5 Fe.z).a).toArray⟩, .string ⟨((List.getD L i5 Fe.z).v).toArray⟩] 39)]) (fun φ10 => []) s trivial (fun φ10 => by kernel_rfl) ?_
    intro φ10 w10 s
    rw [nat_lss (a := i5) (b := 14)]
    refine ops_done (by kernel_rfl) ?_
    rcases Bool.eq_false_or_eq_true (decide (i5 < 14)) with hc11 | hc11
    ·
      rw [hc11]
      refine cond_true_rule (b := true) (by kernel_rfl) rfl ?_
      refine wp_seq ?_
      refine drawK_rule (C := []) ⟨(fun φ12 xs12 => [.look 0 [] [], .look 0 [.o 0] [(φ9 0)], .look 0 [] [], .look 0 [.o 0] [(φ9 0)], .look 0 [] [], .sub 0 [] [] (.int .i64 (if ((60 : Nat) : Int) < ((((List.getD L i5 Fe.z).a).length : Nat) : Int) then ((60 : Nat) : Int) else ((((List.getD L i5 Fe.z).a).length : Nat) : Int))), .ran (Instr.sliceAt 9 (.string ⟨((List.getD L i5 Fe.z).a).toArray⟩) none (some (.int .i64 ((min (((List.getD L i5 Fe.z).a).length) 60 : Nat) : Int))) none), .look 0 [] [], .look 0 [.o 0] [(φ9 0)], .look 0 [] [], .look 0 [.o 0] [(φ9 0)], .look 0 [] [], .sub 0 [] [] (.int .i64 (if ((60 : Nat) : Int) < ((((List.getD L i5 Fe.z).v).length : Nat) : Int) then ((60 : Nat) : Int) else ((((List.getD L i5 Fe.z).v).length : Nat) : Int))), .ran (Instr.sliceAt 9 (.string ⟨((List.getD L i5 Fe.z).v).toArray⟩) none (some (.int .i64 ((min (((List.getD L i5 Fe.z).v).length) 60 : Nat) : Int))) none), .look 0 [] [], .store 0 [.o 0] [(φ9 0)], .look 1 [] [], .store 1 [.o 0] [(φ9 0)]]), (fun φ12 xs12 => [.pointer (some ⟨(φ9 0), 1, none⟩), .string ⟨((List.getD L i5 Fe.z).a).toArray⟩, .pointer (some ⟨(φ9 0), 1, none⟩), .string ⟨((List.getD L i5 Fe.z).a).toArray⟩, .int .i64 ((((List.getD L i5 Fe.z).a).length : Nat) : Int), .int .i64 ((min (((List.getD L i5 Fe.z).a).length) 60 : Nat) : Int), .string ⟨((((List.getD L i5 Fe.z).a).take (min (((List.getD L i5 Fe.z).a).length) 60))).toArray⟩, .pointer (some ⟨(φ9 0), 2, none⟩), .string ⟨((List.getD L i5 Fe.z).v).toArray⟩, .pointer (some ⟨(φ9 0), 2, none⟩), .string ⟨((List.getD L i5 Fe.z).v).toArray⟩, .int .i64 ((((List.getD L i5 Fe.z).v).length : Nat) : Int), .int .i64 ((min (((List.getD L i5 Fe.z).v).length) 60 : Nat) : Int), .string ⟨((((List.getD L i5 Fe.z).v).take (min (((List.getD L i5 Fe.z).v).length) 60))).toArray⟩, .pointer (some ⟨(φ9 0), 1, none⟩), undef, .pointer (some ⟨(φ9 0), 2, none⟩), undef]), (fun φ12 xs12 => [[((φ9 0), .cells #[.int .i64 ((List.getD L i5 Fe.z).k), .string ⟨((List.getD L i5 Fe.z).a).toArray⟩, .string ⟨((List.getD L i5 Fe.z).v).toArray⟩] 39)], [((φ9 0), .cells #[.int .i64 ((List.getD L i5 Fe.z).k), .string ⟨((((List.getD L i5 Fe.z).a).take (min (((List.getD L i5 Fe.z).a).length) 60))).toArray⟩, .string ⟨((List.getD L i5 Fe.z).v).toArray⟩] 39)], [((φ9 0), .cells #[.int .i64 ((List.getD L i5 Fe.z).k), .string ⟨((((List.getD L i5 Fe.z).a).take (min (((List.getD L i5 Fe.z).a).length) 60))).toArray⟩, .string ⟨((((List.getD L i5 Fe.z).v).take (min (((List.getD L i5 Fe.z).v).length) 60))).toArray⟩] 39)]]), (fun φ12 xs12 => [[default, default, default, default, default, default, default, default, default, default, default, default, default, default, default, default, default, default], [default, default, default, default, default, default, default, default, default, default, default, default, default, default, default, default, default, default], [default, default, default, default, default, default, default, default, default, default, default, default, default, default, default, default, default, default]]), [15, 17], [1, 1, 1, 1, 1, 5, 6, 1, 1, 1, 1, 1, 5, 6, 1, 4, 1, 4]⟩ (fun j => ([MP.any, MP.any, MP.any, MP.any, MP.any, MP.any, MP.any, MP.any, MP.any, MP.any, MP.any, MP.any, MP.any, MP.any, MP.any, MP.any, MP.any, MP.any] : List MP).getD j MP.any) F5 [] [5, 12] [6, 13] (fun φ12 xs12 => [[none, none, none, none, none, none, none, none, none, none, none, none, none, none, none, none, none, none], [none, none, none, none, none, none, none, none, none, none, none, none, none, none, none, none, none, none]]) (fun φ12 xs12 => [(15, .pointer (some ⟨(φ9 0), 1, none⟩)), (16, .string ⟨((List.getD L i5 Fe.z).a).toArray⟩), (17, .pointer (some ⟨(φ9 0), 1, none⟩)), (18, .string ⟨((List.getD L i5 Fe.z).a).toArray⟩), (19, .int .i64 ((((List.getD L i5 Fe.z).a).length : Nat) : Int)), (20, .int .i64 ((min (((List.getD L i5 Fe.z).a).length) 60 : Nat) : Int)), (21, .string ⟨((((List.getD L i5 Fe.z).a).take (min (((List.getD L i5 Fe.z).a).length) 60))).toArray⟩), (22, .pointer (some ⟨(φ9 0), 2, none⟩)), (23, .string ⟨((List.getD L i5 Fe.z).v).toArray⟩), (24, .pointer (some ⟨(φ9 0), 2, none⟩)), (25, .string ⟨((List.getD L i5 Fe.z).v).toArray⟩), (26, .int .i64 ((((List.getD L i5 Fe.z).v).length : Nat) : Int)), (27, .int .i64 ((min (((List.getD L i5 Fe.z).v).length) 60 : Nat) : Int)), (28, .string ⟨((((List.getD L i5 Fe.z).v).take (min (((List.getD L i5 Fe.z).v).length) 60))).toArray⟩), (29, .pointer (some ⟨(φ9 0), 1, none⟩)), (30, .pointer (some ⟨(φ9 0), 2, none⟩))]) (fun φ12 xs12 => [((φ9 0), .cells #[.int .i64 ((List.getD L i5 Fe.z).k), .string ⟨((((List.getD L i5 Fe.z).a).take (min (((List.getD L i5 Fe.z).a).length) 60))).toArray⟩, .string ⟨((((List.getD L i5 Fe.z).v).take (min (((List.getD L i5 Fe.z).v).length) 60))).toArray⟩] 39)]) s trivial (by kernel_rfl) (by kernel_rfl) (fun _ _ => by kernel_rfl) (fun _ _ => by kernel_rfl) ⟨fun _ _ => by kernel_rfl, fun _ _ => by kernel_rfl, fun _ _ => by kernel_rfl, fun _ _ => by kernel_rfl⟩ (fun _ _ _ => by kernel_rfl) (fun _ _ => by kernel_rfl) (fun _ _ => by kernel_rfl) (fun _ _ => by kernel_rfl) (fun _ _ => by kernel_rfl) (fun _ _ => by kernel_rfl) ⟨kcast (A := ∀ (φ12 : Nat → Nat) (xs12 : Xs), (.int .i64 (if ((60 : Nat) : Int) < ((((List.getD L i5 Fe.z).a).length : Nat) : Int) then ((60 : Nat) : Int) else ((((List.getD L i5 Fe.z).a).length : Nat) : Int)) : Value) = .int .i64 ((min (((List.getD L i5 Fe.z).a).length) 60 : Nat) : Int)) (by kernel_rfl) (fun φ12 xs12 => congrArg (Value.int .i64) ((nat_min (a := (((List.getD L i5 Fe.z).a).length)) (b := 60)))), ⟨kcast (A := ∀ (φ12 : Nat → Nat) (xs12 : Xs), (.int .i64 (if ((60 : Nat) : Int) < ((((List.getD L i5 Fe.z).v).length : Nat) : Int) then ((60 : Nat) : Int) else ((((List.getD L i5 Fe.z).v).length : Nat) : Int)) : Value) = .int .i64 ((min (((List.getD L i5 Fe.z).v).length) 60 : Nat) : Int)) (by kernel_rfl) (fun φ12 xs12 => congrArg (Value.int .i64) ((nat_min (a := (((List.getD L i5 Fe.z).v).length)) (b := 60)))), trivial⟩⟩ ⟨kcast (A := ∀ (φ12 : Nat → Nat) (xs12 : Xs) (J : IM) (w : World), I5.Le J → J.Sub w → ((Instr.sliceAt 9 (.string ⟨((List.getD L i5 Fe.z).a).toArray⟩) none (some (.int .i64 ((min (((List.getD L i5 Fe.z).a).length) 60 : Nat) : Int))) none) : Sem Value).run Tryd.prog w = .ok (.string ⟨((((List.getD L i5 Fe.z).a).take (min (((List.getD L i5 Fe.z).a).length) 60))).toArray⟩) w) (by kernel_rfl) (fun φ12 xs12 J w hJ hS => Tx.run_takeS (s := (List.getD L i5 Fe.z).a) (hi := min (((List.getD L i5 Fe.z).a).length) 60) (by omega)), ⟨kcast (A := ∀ (φ12 : Nat → Nat) (xs12 : Xs) (J : IM) (w : World), I5.Le J → J.Sub w → ((Instr.sliceAt 9 (.string ⟨((List.getD L i5 Fe.z).v).toArray⟩) none (some (.int .i64 ((min (((List.getD L i5 Fe.z).v).length) 60 : Nat) : Int))) none) : Sem Value).run Tryd.prog w = .ok (.string ⟨((((List.getD L i5 Fe.z).v).take (min (((List.getD L i5 Fe.z).v).length) 60))).toArray⟩) w) (by kernel_rfl) (fun φ12 xs12 J w hJ hS => Tx.run_takeS (s := (List.getD L i5 Fe.z).v) (hi := min (((List.getD L i5 Fe.z).v).length) 60) (by omega)), trivial⟩⟩ (by kernel_rfl) trivial ?k12
      case k12 =>
        rintro φ12 xs12 I12 w12 le12 s 
        replace h0 := FSl.mono le12 h0
        replace hle4 := leMono le12 hle4
        refine region_rule ?_
        refine ops_rule (C := []) [((φ9 0), .cells #[.int .i64 ((List.getD L i5 Fe.z).k), .string ⟨((((List.getD L i5 Fe.z).a).take (min (((List.getD L i5 Fe.z).a).length) 60))).toArray⟩, .string ⟨((((List.getD L i5 Fe.z).v).take (min (((List.getD L i5 Fe.z).v).length) 60))).toArray⟩] 39)] F5 3 [.o 0, .o 0, .o 0] 1 (fun φ13 => [(33, .slice (some ⟨(φ13 0), 0, none⟩) 1 1), (32, .agg #[.int .i64 ((List.getD L i5 Fe.z).k), .string ⟨((((List.getD L i5 Fe.z).a).take (min (((List.getD L i5 Fe.z).a).length) 60))).toArray⟩, .string ⟨((((List.getD L i5 Fe.z).v).take (min (((List.getD L i5 Fe.z).v).length) 60))).toArray⟩]), (31, v5)]) (fun φ13 => [((φ9 0), .cells #[.int .i64 ((List.getD L i5 Fe.z).k), .string ⟨((((List.getD L i5 Fe.z).a).take (min (((List.getD L i5 Fe.z).a).length) 60))).toArray⟩, .string ⟨((((List.getD L i5 Fe.z).v).take (min (((List.getD L i5 Fe.z).v).length) 60))).toArray⟩] 39), ((φ13 0), .cells #[.int .i64 ((List.getD L i5 Fe.z).k), .string ⟨((((List.getD L i5 Fe.z).a).take (min (((List.getD L i5 Fe.z).a).length) 60))).toArray⟩, .string ⟨((((List.getD L i5 Fe.z).v).take (min (((List.getD L i5 Fe.z).v).length) 60))).toArray⟩] 39)]) (fun φ13 => [(φ9 0), (φ9 0), (φ9 0)]) s trivial (fun φ13 => by kernel_rfl) ?_
        intro φ13 w13 s
        have hb14 : (List.length (fewF (L.take i5))) ≤ 100000 := (Nat.le_trans few_len (by decide))
        refine append_rule (H := [((φ9 0), .cells #[.int .i64 ((List.getD L i5 Fe.z).k), .string ⟨((((List.getD L i5 Fe.z).a).take (min (((List.getD L i5 Fe.z).a).length) 60))).toArray⟩, .string ⟨((((List.getD L i5 Fe.z).v).take (min (((List.getD L i5 Fe.z).v).length) 60))).toArray⟩] 39), ((φ13 0), .cells #[.int .i64 ((List.getD L i5 Fe.z).k), .string ⟨((((List.getD L i5 Fe.z).a).take (min (((List.getD L i5 Fe.z).a).length) 60))).toArray⟩, .string ⟨((((List.getD L i5 Fe.z).v).take (min (((List.getD L i5 Fe.z).v).length) 60))).toArray⟩] 39)]) (F := F5) 22 22 39 Tryd.t39 (.agg #[.int .i64 0, .string ⟨#[]⟩, .string ⟨#[]⟩]) 3 40 (some 34) s Tryd.underlying22 (by kernel_rfl) (by kernel_rfl) (by kernel_rfl) (by kernel_rfl) (by kernel_rfl) (by decide) hi5_1 (src_own s 1 (φ13 0) #[.int .i64 ((List.getD L i5 Fe.z).k), .string ⟨((((List.getD L i5 Fe.z).a).take (min (((List.getD L i5 Fe.z).a).length) 60))).toArray⟩, .string ⟨((((List.getD L i5 Fe.z).v).take (min (((List.getD L i5 Fe.z).v).length) 60))).toArray⟩] 39 22 39 1 1 3 [.int .i64 ((List.getD L i5 Fe.z).k), .string ⟨((((List.getD L i5 Fe.z).a).take (min (((List.getD L i5 Fe.z).a).length) 60))).toArray⟩, .string ⟨((((List.getD L i5 Fe.z).v).take (min (((List.getD L i5 Fe.z).v).length) 60))).toArray⟩] (by kernel_rfl) Tryd.underlying22 (by kernel_rfl) (by kernel_rfl) (by kernel_rfl)) (by simp only [maxLen]; omega) (by omega) (by kernel_rfl) ?_
        intro v14 w14 F14 s h14
        replace h14 : RowH 39 3 v14 (List.length ((fewF (L.take i5)) ++ [(⟨(List.getD L i5 Fe.z).k, (((List.getD L i5 Fe.z).a).take (min (((List.getD L i5 Fe.z).a).length) 60)), (((List.getD L i5 Fe.z).v).take (min (((List.getD L i5 Fe.z).v).length) 60))⟩ : Fe)])) (fcs ((fewF (L.take i5)) ++ [(⟨(List.getD L i5 Fe.z).k, (((List.getD L i5 Fe.z).a).take (min (((List.getD L i5 Fe.z).a).length) 60)), (((List.getD L i5 Fe.z).v).take (min (((List.getD L i5 Fe.z).v).length) 60))⟩ : Fe)])) F14 := row39_snoc (Fs := (fewF (L.take i5))) (x := (⟨(List.getD L i5 Fe.z).k, (((List.getD L i5 Fe.z).a).take (min (((List.getD L i5 Fe.z).a).length) 60)), (((List.getD L i5 Fe.z).v).take (min (((List.getD L i5 Fe.z).v).length) 60))⟩ : Fe)) h14 rfl
        refine ops_rule (C := []) [((φ9 0), .cells #[.int .i64 ((List.getD L i5 Fe.z).k), .string ⟨((((List.getD L i5 Fe.z).a).take (min (((List.getD L i5 Fe.z).a).length) 60))).toArray⟩, .string ⟨((((List.getD L i5 Fe.z).v).take (min (((List.getD L i5 Fe.z).v).length) 60))).toArray⟩] 39), ((φ13 0), .cells #[.int .i64 ((List.getD L i5 Fe.z).k), .string ⟨((((List.getD L i5 Fe.z).a).take (min (((List.getD L i5 Fe.z).a).length) 60))).toArray⟩, .string ⟨((((List.getD L i5 Fe.z).v).take (min (((List.getD L i5 Fe.z).v).length) 60))).toArray⟩] 39)] F14 1 [] 0 (fun φ15 => [(3, v14)]) (fun φ15 => [((φ9 0), .cells #[.int .i64 ((List.getD L i5 Fe.z).k), .string ⟨((((List.getD L i5 Fe.z).a).take (min (((List.getD L i5 Fe.z).a).length) 60))).toArray⟩, .string ⟨((((List.getD L i5 Fe.z).v).take (min (((List.getD L i5 Fe.z).v).length) 60))).toArray⟩] 39), ((φ13 0), .cells #[.int .i64 ((List.getD L i5 Fe.z).k), .string ⟨((((List.getD L i5 Fe.z).a).take (min (((List.getD L i5 Fe.z).a).length) 60))).toArray⟩, .string ⟨((((List.getD L i5 Fe.z).v).take (min (((List.getD L i5 Fe.z).v).length) 60))).toArray⟩] 39)]) (fun φ15 => []) s trivial (fun φ15 => by kernel_rfl) ?_
        intro φ15 w15 s
        refine ops_done (by kernel_rfl) ?_
        refine region_rule ?_
        refine ops_rule (C := []) [((φ9 0), .cells #[.int .i64 ((List.getD L i5 Fe.z).k), .string ⟨((((List.getD L i5 Fe.z).a).take (min (((List.getD L i5 Fe.z).a).length) 60))).toArray⟩, .string ⟨((((List.getD L i5 Fe.z).v).take (min (((List.getD L i5 Fe.z).v).length) 60))).toArray⟩] 39), ((φ13 0), .cells #[.int .i64 ((List.getD L i5 Fe.z).k), .string ⟨((((List.getD L i5 Fe.z).a).take (min (((List.getD L i5 Fe.z).a).length) 60))).toArray⟩, .string ⟨((((List.getD L i5 Fe.z).v).take (min (((List.getD L i5 Fe.z).v).length) 60))).toArray⟩] 39)] F14 2 [] 0 (fun φ16 => [(8, .int .i64 (IntKind.wrap .i64 (((i5 : Nat) : Int) + ((1 : Nat) : Int)))), (35, .int .i64 (IntKind.wrap .i64 (((i5 : Nat) : Int) + ((1 : Nat) : Int))))]) (fun φ16 => [((φ9 0), .cells #[.int .i64 ((List.getD L i5 Fe.z).k), .string ⟨((((List.getD L i5 Fe.z).a).take (min (((List.getD L i5 Fe.z).a).length) 60))).toArray⟩, .string ⟨((((List.getD L i5 Fe.z).v).take (min (((List.getD L i5 Fe.z).v).length) 60))).toArray⟩] 39), ((φ13 0), .cells #[.int .i64 ((List.getD L i5 Fe.z).k), .string ⟨((((List.getD L i5 Fe.z).a).take (min (((List.getD L i5 Fe.z).a).length) 60))).toArray⟩, .string ⟨((((List.getD L i5 Fe.z).v).take (min (((List.getD L i5 Fe.z).v).length) 60))).toArray⟩] 39)]) (fun φ16 => []) s trivial (fun φ16 => by kernel_rfl) ?_
        intro φ16 w16 s
        rw [nat_addI (a := i5) (b := 1) (by have e8 := hi5_0; have hq0 := of_decide_eq_true hc7; have hq1 := of_decide_eq_true hc11; omega)]
        refine ops_done (by kernel_rfl) ?_
        exact ⟨⟨m5 - 1, (i5 + 1, v14, F14), _, _, _, by have hq0 := of_decide_eq_true hc7; have hq1 := of_decide_eq_true hc11; have := hi5_0; omega, rfl, s, (List.Sublist.append (List.Sublist.cons _ (List.Sublist.cons _ List.Sublist.slnil)) (List.Sublist.refl _)), by kernel_rfl, hle4, by have hq0 := of_decide_eq_true hc7; have hq1 := of_decide_eq_true hc11; have := hi5_0; show i5 + 1 + (m5 - 1) = L.length; omega, (row_eq39 (few_next (by have hq0 := of_decide_eq_true hc7; have hq1 := of_decide_eq_true hc11; have := hi5_0; omega) (of_decide_eq_true hc11)) h14)⟩⟩
    ·
      rw [hc11]
      refine cond_false_rule (b := false) (by kernel_rfl) rfl ?_
      refine wp_skip ?_
      refine region_rule ?_
      refine ops_rule (C := []) [((φ9 0), .cells #[.int .i64 ((List.getD L i5 Fe.z).k), .string ⟨((List.getD L i5 Fe.z).a).toArray⟩, .string ⟨((List.getD L i5 Fe.z).v).toArray⟩] 39)] F5 2 [] 0 (fun φ17 => [(8, .int .i64 (IntKind.wrap .i64 (((i5 : Nat) : Int) + ((1 : Nat) : Int)))), (35, .int .i64 (IntKind.wrap .i64 (((i5 : Nat) : Int) + ((1 : Nat) : Int))))]) (fun φ17 => [((φ9 0), .cells #[.int .i64 ((List.getD L i5 Fe.z).k), .string ⟨((List.getD L i5 Fe.z).a).toArray⟩, .string ⟨((List.getD L i5 Fe.z).v).toArray⟩] 39)]) (fun φ17 => []) s trivial (fun φ17 => by kernel_rfl) ?_
      intro φ17 w17 s
      rw [nat_addI (a := i5) (b := 1) (by have e8 := hi5_0; have hq0 := of_decide_eq_true hc7; have hq1 := of_decide_eq_false hc11; omega)]
      refine ops_done (by kernel_rfl) ?_
      exact ⟨⟨m5 - 1, (i5 + 1, v5, F5), _, _, _, by have hq0 := of_decide_eq_true hc7; have hq1 := of_decide_eq_false hc11; have := hi5_0; omega, rfl, s, (List.Sublist.append (List.Sublist.cons _ List.Sublist.slnil) (List.Sublist.refl _)), by kernel_rfl, hle4, by have hq0 := of_decide_eq_true hc7; have hq1 := of_decide_eq_false hc11; have := hi5_0; show i5 + 1 + (m5 - 1) = L.length; omega, (row_eq39 (few_past (by have hq0 := of_decide_eq_true hc7; have hq1 := of_decide_eq_false hc11; have := hi5_0; omega) (of_decide_eq_false hc11)) hi5_1)⟩⟩
  ·
    rw [hc7]
    refine cond_false_rule (b := false) (by kernel_rfl) rfl ?_
    refine wp_exit ?_
    refine wp_seq ?_
    have hr18 := row_eq39 (by have ei : i5 = L.length := (by have hq0 := of_decide_eq_false hc7; have := hi5_0; omega); rw [ei, List.take_length]) hi5_1
    obtain ⟨J18, le18, hk18, s⟩ := freeze_row39 (H := []) (F := F5) s hr18
    obtain ⟨a18, c18, hv18, -, hk18⟩ := hk18.open
    subst hv18
    replace h0 := FSl.mono le18 h0
    replace hle4 := leMono le18 hle4
    refine region_rule ?_
    refine ops_rule (C := []) [] [] 2 [] 0 (fun φ19 => [(2, .slice a18 (List.length (fewF L)) c18), (36, .slice a18 (List.length (fewF L)) c18)]) (fun φ19 => []) (fun φ19 => []) s trivial (fun φ19 => by kernel_rfl) ?_
    intro φ19 w19 s
    refine ops_done (by kernel_rfl) ?_
    refine wp_ret ?_
    refine ret_rule (C := []) [] [] (.slice a18 (List.length (fewF L)) c18) [] [] s trivial (by kernel_rfl) ?_
    exact ⟨_, _, _, rfl, s, ⟨_, _, rfl, hk18⟩⟩

end Go.Proofs.YtcpmjogeafhpnaaDoor
/- What a card tells. -/
set_option linter.all false
set_option maxRecDepth 100000
namespace Go.Proofs.YtcpmjogeafhpnaaDoor
open Go.RowKit Go.Sep
attribute [local irreducible] Go.wpList Go.Code.wp

theorem fsl_fld39 {I : IM} {w : World} {L : List Fe} {a : Option Addr} {n c i : Nat} (h : FSl I L (.slice a n c)) (hi : i < L.length) : (Instr.fieldAt 39 (.pointer (pAt a (i * 3))) 2).run Tryd.prog w = .ok (.pointer (pAt a (i * 3 + 2))) w := by
  obtain ⟨a', c', hv, hc, hr⟩ := h
  cases hv
  obtain ⟨b, o, cs, T, fr, rfl, h2, h3, h4, h5⟩ := hr i _ (fe_getD hi)
  rw [show pAt (some ⟨b, o, none⟩) (i * 3) = some ⟨b, o + i * 3, none⟩ from congrArg some (addr_addO b o (i * 3)), show pAt (some ⟨b, o, none⟩) (i * 3 + 2) = some ⟨b, o + i * 3 + 2, none⟩ from congrArg some (addr_addO b o (i * 3 + 2))]
  kernel_rfl
theorem fsl_ldv39 {I : IM} {w : World} (hS : I.Sub w) {L : List Fe} {a : Option Addr} {n c i : Nat} (h : FSl I L (.slice a n c)) (hi : i < L.length) : (Instr.loadAt 9 (.pointer (pAt a (i * 3 + 2)))).run Tryd.prog w = .ok (.string ⟨((L.getD i Fe.z).v).toArray⟩) w := by
  obtain ⟨a', c', hv, hc, hr⟩ := h
  cases hv
  obtain ⟨b, o, cs, T, fr, rfl, h2, h3, h4, h5⟩ := hr i _ (fe_getD hi)
  rw [show pAt (some ⟨b, o, none⟩) (i * 3 + 2) = some ⟨b, o + i * 3 + 2, none⟩ from congrArg some (addr_addO b o (i * 3 + 2))]
  have c3 := run_cell (a := ⟨b, o + i * 3 + 2, none⟩) (hS _ _ h2) rfl rfl
  rw [h5] at c3
  have e : (Instr.loadAt 9 (.pointer (some ⟨b, o + i * 3 + 2, none⟩))).run Tryd.prog w = (load ⟨b, o + i * 3 + 2, none⟩).run Tryd.prog w := by kernel_rfl
  rw [e]; simp only [load, Sem.run, c3]
/-- what somebody is called -/
def titF (L : List Fe) : List UInt8 := if L.length = 0 then [] else (L.getD 0 Fe.z).v
set_option maxHeartbeats 2000000 in
theorem own9_c {I : IM} {L : List Fe} {a0 : Option Addr} {c0 : Nat} (h0 : FSl I L (.slice a0 L.length c0)) (hl : L.length ≤ 1000) : Fun Tryd.prog 17 #[.slice a0 L.length c0] I (fun v J => ∃ a c, v = .slice a L.length c ∧ FSl J L (.slice a L.length c)) := by
  refine enter_rule 18 [(0, .slice a0 L.length c0)] Tryd.func17 rfl (by kernel_rfl) ?_
  intro w s
  refine wp_seq ?_
  refine region_rule ?_
  refine ops_rule (C := []) [] [] 1 [] 0 (fun φ1 => [(2, .slice none 0 0)]) (fun φ1 => []) (fun φ1 => []) s trivial (fun φ1 => by kernel_rfl) ?_
  intro φ1 w1 s
  refine ops_done (by kernel_rfl) ?_
  refine wp_seq ?_
  refine region_rule ?_
  refine ops_rule (C := []) [] [] 1 [] 0 (fun φ2 => [(3, .slice none 0 0)]) (fun φ2 => []) (fun φ2 => []) s trivial (fun φ2 => by kernel_rfl) ?_
  intro φ2 w2 s
  refine ops_done (by kernel_rfl) ?_
  refine wp_seq ?_
  refine wp_seq ?_
  refine region_rule ?_
  refine ops_rule (C := []) [] [] 3 [] 0 (fun φ3 => [(8, .int .i64 0), (7, .int .i64 ((L.length : Nat) : Int)), (6, .slice a0 L.length c0)]) (fun φ3 => []) (fun φ3 => []) s trivial (fun φ3 => by kernel_rfl) ?_
  intro φ3 w3 s
  refine ops_done (by kernel_rfl) ?_
  refine wp_block ?_
  have hle4 := IM.Le.refl I
  refine loop_rule (fun (x : Nat × Value × List OB) => [(0, .slice a0 L.length c0), (2, .slice none 0 0), (6, .slice a0 L.length c0), (7, .int .i64 ((L.length : Nat) : Int)), (8, .int .i64 ((x.1 : Nat) : Int)), (3, x.2.1)]) (fun (x : Nat × Value × List OB) => [] ++ x.2.2) (fun m (x : Nat × Value × List OB) J => IM.Le I J ∧ x.1 + m = L.length ∧ RowH 42 3 x.2.1 (L.take x.1).length (fcs (L.take x.1)) x.2.2) (L.length) (0, (.slice none 0 0), []) s (by kernel_rfl) (List.Sublist.refl _) ⟨IM.Le.refl _, Nat.zero_add _, (RowH.nil 42 3)⟩ ?_
  rintro m5 ⟨i5, v5, F5⟩ I5 w5 ev5 s ⟨le5, hi5_0, hi5_1⟩
  try dsimp only at s hi5_0 hi5_1 ⊢
  replace h0 := FSl.mono le5 h0
  replace hle4 := leMono le5 hle4
  have hl9 : (L.take i5).length ≤ 1000 := by have e8 := hi5_0; rw [List.length_take]; omega
  refine wp_seq ?_
  refine region_rule ?_
  refine ops_rule (C := []) [] F5 1 [] 0 (fun φ6 => [(9, .bool (decide (((i5 : Nat) : Int) < ((L.length : Nat) : Int))))]) (fun φ6 => []) (fun φ6 => []) s trivial (fun φ6 => by kernel_rfl) ?_
  intro φ6 w6 s
  rw [nat_lss (a := i5) (b := L.length)]
  refine ops_done (by kernel_rfl) ?_
  refine wp_seq ?_
  rcases Bool.eq_false_or_eq_true (decide (i5 < L.length)) with hc7 | hc7
  ·
    rw [hc7]
    refine cond_true_rule (b := true) (by kernel_rfl) rfl ?_
    refine wp_skip ?_
    refine wp_seq ?_
    refine wp_block ?_
    refine wp_seq ?_
    refine region_rule ?_
    refine sem_rule (Instr.indexAt 22 (.slice a0 L.length c0) (.int .i64 ((i5 : Nat) : Int))) (some 10) (.pointer (pAt a0 (i5 * 3))) (by kernel_rfl) (fsl_idx22 h0 (by have e8 := hi5_0; have e7 := List.length_take (i := i5) (l := L); have hq0 := of_decide_eq_true hc7; omega)) ?_
    refine sem_rule (Instr.loadAt 39 (.pointer (pAt a0 (i5 * 3)))) (some 11) (.agg #[.int .i64 ((List.getD L i5 Fe.z).k), .string ⟨((List.getD L i5 Fe.z).a).toArray⟩, .string ⟨((List.getD L i5 Fe.z).v).toArray⟩]) (by kernel_rfl) (fsl_ld39 s.sub h0 (by have e8 := hi5_0; have e7 := List.length_take (i := i5) (l := L); have hq0 := of_decide_eq_true hc7; omega)) ?_
    refine ops_rule (C := []) [] F5 2 [.o 0, .o 0, .o 0] 1 (fun φ8 => [(5, .pointer (some ⟨(φ8 0), 0, none⟩))]) (fun φ8 => [((φ8 0), .cells #[.int .i64 ((List.getD L i5 Fe.z).k), .string ⟨((List.getD L i5 Fe.z).a).toArray⟩, .string ⟨((List.getD L i5 Fe.z).v).toArray⟩] 39)]) (fun φ8 => [(φ8 0), (φ8 0), (φ8 0)]) s trivial (fun φ8 => by kernel_rfl) ?_
    intro φ8 w8 s
    refine ops_done (by kernel_rfl) ?_
    refine region_rule ?_
    refine ops_rule (C := []) [((φ8 0), .cells #[.int .i64 ((List.getD L i5 Fe.z).k), .string ⟨((List.getD L i5 Fe.z).a).toArray⟩, .string ⟨((List.getD L i5 Fe.z).v).toArray⟩] 39)] F5 3 [.o 0, .o 0, .o 0] 1 (fun φ9 => [(14, .slice (some ⟨(φ9 0), 0, none⟩) 1 1), (13, .agg #[.int .i64 ((List.getD L i5 Fe.z).k), .string ⟨((List.getD L i5 Fe.z).a).toArray⟩, .string ⟨((List.getD L i5 Fe.z).v).toArray⟩]), (12, v5)]) (fun φ9 => [((φ8 0), .cells #[.int .i64 ((List.getD L i5 Fe.z).k), .string ⟨((List.getD L i5 Fe.z).a).toArray⟩, .string ⟨((List.getD L i5 Fe.z).v).toArray⟩] 39), ((φ9 0), .cells #[.int .i64 ((List.getD L i5 Fe.z).k), .string ⟨((List.getD L i5 Fe.z).a).toArray⟩, .string ⟨((List.getD L i5 Fe.z).v).toArray⟩] 42)]) (fun φ9 => [(φ8 0), (φ8 0), (φ8 0)]) s trivial (fun φ9 => by kernel_rfl) ?_
    intro φ9 w9 s
    refine append_rule (H := [((φ8 0), .cells #[.int .i64 ((List.getD L i5 Fe.z).k), .string ⟨((List.getD L i5 Fe.z).a).toArray⟩, .string ⟨((List.getD L i5 Fe.z).v).toArray⟩] 39), ((φ9 0), .cells #[.int .i64 ((List.getD L i5 Fe.z).k), .string ⟨((List.getD L i5 Fe.z).a).toArray⟩, .string ⟨((List.getD L i5 Fe.z).v).toArray⟩] 42)]) (F := F5) 30 30 42 Tryd.t42 (.agg #[.int .i64 0, .string ⟨#[]⟩, .string ⟨#[]⟩]) 3 40 (some 15) s Tryd.underlying30 (by kernel_rfl) (by kernel_rfl) (by kernel_rfl) (by kernel_rfl) (by kernel_rfl) (by decide) hi5_1 (src_own s 1 (φ9 0) #[.int .i64 ((List.getD L i5 Fe.z).k), .string ⟨((List.getD L i5 Fe.z).a).toArray⟩, .string ⟨((List.getD L i5 Fe.z).v).toArray⟩] 42 30 42 1 1 3 [.int .i64 ((List.getD L i5 Fe.z).k), .string ⟨((List.getD L i5 Fe.z).a).toArray⟩, .string ⟨((List.getD L i5 Fe.z).v).toArray⟩] (by kernel_rfl) Tryd.underlying30 (by kernel_rfl) (by kernel_rfl) (by kernel_rfl)) (by simp only [maxLen]; omega) (by omega) (by kernel_rfl) ?_
    intro v10 w10 F10 s h10
    refine ops_rule (C := []) [((φ8 0), .cells #[.int .i64 ((List.getD L i5 Fe.z).k), .string ⟨((List.getD L i5 Fe.z).a).toArray⟩, .string ⟨((List.getD L i5 Fe.z).v).toArray⟩] 39), ((φ9 0), .cells #[.int .i64 ((List.getD L i5 Fe.z).k), .string ⟨((List.getD L i5 Fe.z).a).toArray⟩, .string ⟨((List.getD L i5 Fe.z).v).toArray⟩] 42)] F10 1 [] 0 (fun φ11 => [(3, v10)]) (fun φ11 => [((φ8 0), .cells #[.int .i64 ((List.getD L i5 Fe.z).k), .string ⟨((List.getD L i5 Fe.z).a).toArray⟩, .string ⟨((List.getD L i5 Fe.z).v).toArray⟩] 39), ((φ9 0), .cells #[.int .i64 ((List.getD L i5 Fe.z).k), .string ⟨((List.getD L i5 Fe.z).a).toArray⟩, .string ⟨((List.getD L i5 Fe.z).v).toArray⟩] 42)]) (fun φ11 => []) s trivial (fun φ11 => by kernel_rfl) ?_
    intro φ11 w11 s
    refine ops_done (by kernel_rfl) ?_
    refine region_rule ?_
    refine ops_rule (C := []) [((φ8 0), .cells #[.int .i64 ((List.getD L i5 Fe.z).k), .string ⟨((List.getD L i5 Fe.z).a).toArray⟩, .string ⟨((List.getD L i5 Fe.z).v).toArray⟩] 39), ((φ9 0), .cells #[.int .i64 ((List.getD L i5 Fe.z).k), .string ⟨((List.getD L i5 Fe.z).a).toArray⟩, .string ⟨((List.getD L i5 Fe.z).v).toArray⟩] 42)] F10 2 [] 0 (fun φ12 => [(8, .int .i64 (IntKind.wrap .i64 (((i5 : Nat) : Int) + ((1 : Nat) : Int)))), (16, .int .i64 (IntKind.wrap .i64 (((i5 : Nat) : Int) + ((1 : Nat) : Int))))]) (fun φ12 => [((φ8 0), .cells #[.int .i64 ((List.getD L i5 Fe.z).k), .string ⟨((List.getD L i5 Fe.z).a).toArray⟩, .string ⟨((List.getD L i5 Fe.z).v).toArray⟩] 39), ((φ9 0), .cells #[.int .i64 ((List.getD L i5 Fe.z).k), .string ⟨((List.getD L i5 Fe.z).a).toArray⟩, .string ⟨((List.getD L i5 Fe.z).v).toArray⟩] 42)]) (fun φ12 => []) s trivial (fun φ12 => by kernel_rfl) ?_
    intro φ12 w12 s
    rw [nat_addI (a := i5) (b := 1) (by have e8 := hi5_0; have e7 := List.length_take (i := i5) (l := L); have hq0 := of_decide_eq_true hc7; omega)]
    refine ops_done (by kernel_rfl) ?_
    exact ⟨⟨m5 - 1, (i5 + 1, v10, F10), _, _, _, by have hq0 := of_decide_eq_true hc7; have := hi5_0; omega, rfl, s, (List.Sublist.append (List.Sublist.cons _ (List.Sublist.cons _ List.Sublist.slnil)) (List.Sublist.refl _)), by kernel_rfl, hle4, by have hq0 := of_decide_eq_true hc7; have := hi5_0; show i5 + 1 + (m5 - 1) = L.length; omega, by have hq0 := of_decide_eq_true hc7; have h0 := hi5_0; have h1 := row42_snoc (x := (List.getD L i5 Fe.z)) h10 rfl; rw [← fe_take (by omega)] at h1; exact h1⟩⟩
  ·
    rw [hc7]
    refine cond_false_rule (b := false) (by kernel_rfl) rfl ?_
    refine wp_exit ?_
    refine wp_seq ?_
    refine region_rule ?_
    refine ops_rule (C := []) [] F5 2 [] 0 (fun φ13 => [(2, v5), (17, v5)]) (fun φ13 => []) (fun φ13 => []) s trivial (fun φ13 => by kernel_rfl) ?_
    intro φ13 w13 s
    refine ops_done (by kernel_rfl) ?_
    refine wp_ret ?_
    refine ret_rule (C := []) [] F5 (v5) [] [] s trivial (by kernel_rfl) ?_
    have ei : i5 = L.length := by have hq0 := of_decide_eq_false hc7; have := hi5_0; omega
    have hr9 := hi5_1
    rw [ei, List.take_length] at hr9
    obtain ⟨J14, le14, hk14, s⟩ := freeze_row42 (H := []) (F := F5) s hr9
    obtain ⟨a14, c14, hv14, -, hk14⟩ := hk14.open
    subst hv14
    exact ⟨_, _, _, rfl, s, ⟨_, _, rfl, hk14⟩⟩

set_option maxHeartbeats 400000 in
theorem len_c {I : IM} {L : List Fe} {a0 : Option Addr} {c0 : Nat} : Fun Tryd.prog 20 #[.agg #[.slice a0 L.length c0]] I (fun v J => v = .int .i64 ((L.length : Nat) : Int)) := by
  refine enter_rule 6 [(0, .agg #[.slice a0 L.length c0])] Tryd.func20 rfl (by kernel_rfl) ?_
  intro w s
  refine wp_seq ?_
  refine region_rule ?_
  refine ops_rule (C := []) [] [] 2 [] 1 (fun φ1 => [(2, .int .i64 0), (1, .pointer (some ⟨(φ1 0), 0, none⟩))]) (fun φ1 => [((φ1 0), .cells #[.slice a0 L.length c0] 26)]) (fun φ1 => []) s trivial (fun φ1 => by kernel_rfl) ?_
  intro φ1 w1 s
  refine ops_done (by kernel_rfl) ?_
  refine wp_seq ?_
  refine region_rule ?_
  refine ops_rule (C := []) [((φ1 0), .cells #[.slice a0 L.length c0] 26)] [] 4 [.o 0] 0 (fun φ2 => [(2, .int .i64 ((L.length : Nat) : Int)), (5, .int .i64 ((L.length : Nat) : Int)), (4, .slice a0 L.length c0), (3, .pointer (some ⟨(φ1 0), 0, none⟩))]) (fun φ2 => [((φ1 0), .cells #[.slice a0 L.length c0] 26)]) (fun φ2 => [(φ1 0)]) s trivial (fun φ2 => by kernel_rfl) ?_
  intro φ2 w2 s
  refine ops_done (by kernel_rfl) ?_
  refine wp_ret ?_
  refine ret_rule (C := []) [((φ1 0), .cells #[.slice a0 L.length c0] 26)] [] (.int .i64 ((L.length : Nat) : Int)) [] [] s trivial (by kernel_rfl) ?_
  exact ⟨_, _, _, rfl, s, rfl⟩

set_option maxHeartbeats 1000000 in
theorem title_c {I : IM} {L : List Fe} {a0 : Option Addr} {c0 : Nat} (h0 : FSl I L (.slice a0 L.length c0)) : Fun Tryd.prog 26 #[.agg #[.slice a0 L.length c0]] I (fun v J => v = .string ⟨(titF L).toArray⟩) := by
  refine enter_rule 12 [(0, .agg #[.slice a0 L.length c0])] Tryd.func26 rfl (by kernel_rfl) ?_
  intro w s
  refine wp_seq ?_
  refine region_rule ?_
  refine ops_rule (C := []) [] [] 2 [] 1 (fun φ1 => [(2, .string ⟨#[]⟩), (1, .pointer (some ⟨(φ1 0), 0, none⟩))]) (fun φ1 => [((φ1 0), .cells #[.slice a0 L.length c0] 26)]) (fun φ1 => []) s trivial (fun φ1 => by kernel_rfl) ?_
  intro φ1 w1 s
  refine ops_done (by kernel_rfl) ?_
  refine wp_seq ?_
  refine wp_seq ?_
  refine region_rule ?_
  refine ops_rule (C := []) [((φ1 0), .cells #[.slice a0 L.length c0] 26)] [] 4 [.o 0] 0 (fun φ2 => [(6, .bool (((L.length : Nat) : Int) == ((0 : Nat) : Int))), (5, .int .i64 ((L.length : Nat) : Int)), (4, .slice a0 L.length c0), (3, .pointer (some ⟨(φ1 0), 0, none⟩))]) (fun φ2 => [((φ1 0), .cells #[.slice a0 L.length c0] 26)]) (fun φ2 => [(φ1 0)]) s trivial (fun φ2 => by kernel_rfl) ?_
  intro φ2 w2 s
  rw [nat_eql (a := L.length) (b := 0)]
  refine ops_done (by kernel_rfl) ?_
  rcases Bool.eq_false_or_eq_true (decide (L.length = 0)) with hc3 | hc3
  ·
    rw [hc3]
    refine cond_true_rule (b := true) (by kernel_rfl) rfl ?_
    refine wp_seq ?_
    refine region_rule ?_
    refine ops_rule (C := []) [((φ1 0), .cells #[.slice a0 L.length c0] 26)] [] 1 [] 0 (fun φ4 => [(2, .string ⟨#[]⟩)]) (fun φ4 => [((φ1 0), .cells #[.slice a0 L.length c0] 26)]) (fun φ4 => []) s trivial (fun φ4 => by kernel_rfl) ?_
    intro φ4 w4 s
    refine ops_done (by kernel_rfl) ?_
    refine wp_ret ?_
    refine ret_rule (C := []) [((φ1 0), .cells #[.slice a0 L.length c0] 26)] [] (.string ⟨#[]⟩) [] [] s trivial (by kernel_rfl) ?_
    exact ⟨_, _, _, rfl, s, (congrArg (fun q : List UInt8 => Value.string ⟨q.toArray⟩) (if_pos (of_decide_eq_true hc3) : titF L = _).symm)⟩
  ·
    rw [hc3]
    refine cond_false_rule (b := false) (by kernel_rfl) rfl ?_
    refine wp_skip ?_
    refine wp_seq ?_
    refine region_rule ?_
    refine ops_rule (C := []) [((φ1 0), .cells #[.slice a0 L.length c0] 26)] [] 2 [.o 0] 0 (fun φ5 => [(8, .slice a0 L.length c0), (7, .pointer (some ⟨(φ1 0), 0, none⟩))]) (fun φ5 => [((φ1 0), .cells #[.slice a0 L.length c0] 26)]) (fun φ5 => [(φ1 0)]) s trivial (fun φ5 => by kernel_rfl) ?_
    intro φ5 w5 s
    refine sem_rule (Instr.indexAt 22 (.slice a0 L.length c0) (.int .i64 ((0 : Nat) : Int))) (some 9) (.pointer (pAt a0 (0 * 3))) (by kernel_rfl) (fsl_idx22 h0 (by  have hq0 := of_decide_eq_false hc3; omega)) ?_
    refine sem_rule (Instr.fieldAt 39 (.pointer (pAt a0 (0 * 3))) 2) (some 10) (.pointer (pAt a0 (0 * 3 + 2))) (by kernel_rfl) (fsl_fld39 h0 (by  have hq0 := of_decide_eq_false hc3; omega)) ?_
    refine sem_rule (Instr.loadAt 9 (.pointer (pAt a0 (0 * 3 + 2)))) (some 11) (.string ⟨((List.getD L 0 Fe.z).v).toArray⟩) (by kernel_rfl) (fsl_ldv39 s.sub h0 (by  have hq0 := of_decide_eq_false hc3; omega)) ?_
    refine ops_rule (C := []) [((φ1 0), .cells #[.slice a0 L.length c0] 26)] [] 1 [] 0 (fun φ6 => [(2, .string ⟨((List.getD L 0 Fe.z).v).toArray⟩)]) (fun φ6 => [((φ1 0), .cells #[.slice a0 L.length c0] 26)]) (fun φ6 => []) s trivial (fun φ6 => by kernel_rfl) ?_
    intro φ6 w6 s
    refine ops_done (by kernel_rfl) ?_
    refine wp_ret ?_
    refine ret_rule (C := []) [((φ1 0), .cells #[.slice a0 L.length c0] 26)] [] (.string ⟨((List.getD L 0 Fe.z).v).toArray⟩) [] [] s trivial (by kernel_rfl) ?_
    exact ⟨_, _, _, rfl, s, (congrArg (fun q : List UInt8 => Value.string ⟨q.toArray⟩) (if_neg (of_decide_eq_false hc3) : titF L = _).symm)⟩

end Go.Proofs.YtcpmjogeafhpnaaDoor
/- Any fields are the document's card. -/
set_option linter.all false
set_option maxRecDepth 100000
namespace Go.Proofs.YtcpmjogeafhpnaaDoor
open Go.RowKit Go.Sep
attribute [local irreducible] Go.wpList Go.Code.wp

def exI : List Fe := [⟨2, [], [49, 50]⟩, ⟨1, [], [65, 110, 110]⟩]
def exO : List Fe := [⟨1, [], [65, 110, 110]⟩, ⟨2, [], [49, 50]⟩]
theorem fsl_awk {I : IM} {k : Nat} (h : I k = some (.cells #[.int .i64 2, .string ⟨#[]⟩, .string ⟨#[49, 50]⟩, .int .i64 1, .string ⟨#[]⟩, .string ⟨#[65, 110, 110]⟩] 39)) : FSl I exI (.slice (some ⟨k, 0, none⟩) 2 2) := by
  refine ⟨some ⟨k, 0, none⟩, 2, rfl, Nat.le_refl _, fun j x hj => ?_⟩
  match j with
  | 0 => simp only [exI, List.getElem?_cons_zero, Option.some.injEq] at hj; subst hj; exact ⟨k, 0, _, 39, (0, 0), rfl, h, rfl, rfl, rfl⟩
  | 1 => simp only [exI, List.getElem?_cons_succ, List.getElem?_cons_zero, Option.some.injEq] at hj; subst hj; exact ⟨k, 0, _, 39, (0, 0), rfl, h, rfl, rfl, rfl⟩
  | j + 2 => simp [exI] at hj
theorem exMkF : mkF exI = exO := by decide +kernel
theorem exMkE : mkE exI = 0 := by decide +kernel
theorem make2_c {I : IM} {k : Nat} (h : FSl I exI (.slice (some ⟨k, 0, none⟩) 2 2)) (hN : Tx.NmT I) (hT : Tx.U8 I) : Fun Tryd.prog 15 #[.slice (some ⟨k, 0, none⟩) 2 2] I (fun v J => ∃ a c, v = .tuple #[.agg #[.slice a 2 c], .int .i64 0] ∧ FSl J exO (.slice a 2 c)) := by
  have q := make_c (L := exI) h (by decide) hN hT (fun i hi => by
    have : i = 0 ∨ i = 1 := by have : i < 2 := hi; omega
    rcases this with rfl | rfl <;> decide)
  rw [exMkF, exMkE] at q
  exact q
theorem tit2_c {I : IM} {a : Option Addr} {c : Nat} (h : FSl I exO (.slice a 2 c)) : Fun Tryd.prog 26 #[.agg #[.slice a 2 c]] I (fun v J => v = .string ⟨#[65, 110, 110]⟩) := title_c (L := exO) h
theorem len2_c {I : IM} {a : Option Addr} {c : Nat} : Fun Tryd.prog 20 #[.agg #[.slice a 2 c]] I (fun v J => v = .int .i64 2) := len_c (L := exO)

theorem lem9_0 {w : World} : (binOp .eql 9 (.string ⟨#[65, 110, 110]⟩) (.string ⟨#[65, 110, 110]⟩)).run Tryd.prog w = .ok (.bool true) w := by kernel_rfl
set_option maxHeartbeats 1000000 in
theorem awake9_c {I : IM} (hN : Tx.NmT I) (hT : Tx.U8 I) : Fun Tryd.prog 13 #[] I (fun v J => v = .bool true) := by
  refine enter_rule 22 [] Tryd.func13 rfl (by kernel_rfl) ?_
  intro w s
  refine wp_seq ?_
  refine region_rule ?_
  refine ops_rule (C := []) [] [] 1 [] 0 (fun φ1 => [(0, .bool false)]) (fun φ1 => []) (fun φ1 => []) s trivial (fun φ1 => by kernel_rfl) ?_
  intro φ1 w1 s
  refine ops_done (by kernel_rfl) ?_
  refine wp_seq ?_
  refine region_rule ?_
  refine ops_rule (C := []) [] [] 3 [] 1 (fun φ2 => [(6, .slice (some ⟨(φ2 0), 0, none⟩) 2 2), (5, .agg #[.int .i64 1, .string ⟨#[]⟩, .string ⟨#[65, 110, 110]⟩]), (4, .agg #[.int .i64 2, .string ⟨#[]⟩, .string ⟨#[49, 50]⟩])]) (fun φ2 => [((φ2 0), .cells #[.int .i64 2, .string ⟨#[]⟩, .string ⟨#[49, 50]⟩, .int .i64 1, .string ⟨#[]⟩, .string ⟨#[65, 110, 110]⟩] 39)]) (fun φ2 => []) s trivial (fun φ2 => by kernel_rfl) ?_
  intro φ2 w2 s
  obtain ⟨I3, le3, hk3, s⟩ := s.freezeAt 0 (φ2 0) (.cells #[.int .i64 2, .string ⟨#[]⟩, .string ⟨#[49, 50]⟩, .int .i64 1, .string ⟨#[]⟩, .string ⟨#[65, 110, 110]⟩] 39) ([] ++ []) (by kernel_rfl) (by kernel_rfl)
  have hz3 := fsl_awk hk3
  replace hN := Tx.NmT.mono le3 hN
  replace hT := Tx.U8.mono le3 hT
  refine call_rule (some 7) s (make2_c hz3 hN hT) (by kernel_rfl) ?_
  rintro v4 I4 w4 le4 ⟨a4, c4, rfl, h4⟩ s
  replace hN := Tx.NmT.mono le4 hN
  replace hT := Tx.U8.mono le4 hT
  refine ops_rule (C := []) [] [] 6 [.o 0] 1 (fun φ5 => [(2, .int .i64 0), (1, .pointer (some ⟨(φ5 0), 0, none⟩)), (9, .int .i64 0), (8, .agg #[.slice a4 2 c4]), (3, .tuple #[.agg #[.slice a4 2 c4], .int .i64 0])]) (fun φ5 => [((φ5 0), .cells #[.slice a4 2 c4] 26)]) (fun φ5 => [(φ5 0)]) s trivial (fun φ5 => by kernel_rfl) ?_
  intro φ5 w5 s
  refine ops_done (by kernel_rfl) ?_
  refine wp_seq ?_
  refine region_rule ?_
  refine ops_rule (C := []) [((φ5 0), .cells #[.slice a4 2 c4] 26)] [] 4 [.o 0] 0 (fun φ6 => [(13, .agg #[.slice a4 2 c4]), (12, .bool true), (11, .bool true), (10, .int .i64 0)]) (fun φ6 => [((φ5 0), .cells #[.slice a4 2 c4] 26)]) (fun φ6 => [(φ5 0)]) s trivial (fun φ6 => by kernel_rfl) ?_
  intro φ6 w6 s
  refine call_rule (some 14) s (tit2_c h4) (by kernel_rfl) ?_
  intro v7 I7 w7 le7 h7 s
  replace hN := Tx.NmT.mono le7 hN
  replace hT := Tx.U8.mono le7 hT
  replace h4 := FSl.mono le7 h4
  obtain rfl := h7
  refine sem_rule (binOp .eql 9 (.string ⟨#[65, 110, 110]⟩) (.string ⟨#[65, 110, 110]⟩)) (some 15) (.bool true) (by kernel_rfl) (lem9_0) ?_
  refine ops_rule (C := []) [((φ5 0), .cells #[.slice a4 2 c4] 26)] [] 3 [.o 0] 0 (fun φ8 => [(18, .agg #[.slice a4 2 c4]), (17, .bool true), (16, .bool true)]) (fun φ8 => [((φ5 0), .cells #[.slice a4 2 c4] 26)]) (fun φ8 => [(φ5 0)]) s trivial (fun φ8 => by kernel_rfl) ?_
  intro φ8 w8 s
  refine call_rule (some 19) s (len2_c (a := a4) (c := c4)) (by kernel_rfl) ?_
  intro v9 I9 w9 le9 h9 s
  replace hN := Tx.NmT.mono le9 hN
  replace hT := Tx.U8.mono le9 hT
  replace h4 := FSl.mono le9 h4
  obtain rfl := h9
  refine ops_rule (C := []) [((φ5 0), .cells #[.slice a4 2 c4] 26)] [] 3 [] 0 (fun φ10 => [(0, .bool true), (21, .bool true), (20, .bool true)]) (fun φ10 => [((φ5 0), .cells #[.slice a4 2 c4] 26)]) (fun φ10 => []) s trivial (fun φ10 => by kernel_rfl) ?_
  intro φ10 w10 s
  refine ops_done (by kernel_rfl) ?_
  refine wp_ret ?_
  refine ret_rule (C := []) [((φ5 0), .cells #[.slice a4 2 c4] 26)] [] (.bool true) [] [] s trivial (by kernel_rfl) ?_
  exact ⟨_, _, _, rfl, s, rfl⟩

end Go.Proofs.YtcpmjogeafhpnaaDoor
