/- A patch that is not written: the document's error. -/
import Derived.Test.YtcpmjogeafhpnaaDoorPpM21
set_option linter.all false
set_option maxRecDepth 100000
namespace Go.Proofs.YtcpmjogeafhpnaaDoor
open Go.RowKit Go.Sep
attribute [local irreducible] Go.wpList Go.Code.wp

theorem any_snocF {p : Fe → Bool} {L : List Fe} {i : Nat} (hi : i < L.length) : (L.take (i + 1)).any p = ((L.take i).any p || p (L.getD i Fe.z)) := by
  rw [fe_take hi, List.any_append]; simp
theorem any_snocI {p : Int → Bool} {L : List Int} {i : Nat} (hi : i < L.length) : (L.take (i + 1)).any p = ((L.take i).any p || p (L.getD i 0)) := by
  rw [show L.take (i + 1) = L.take i ++ [L.getD i 0] by rw [List.take_succ]; simp [hi], List.any_append]; simp
theorem flag_next {b b' x y z : Bool} (h : b = (x || y)) (e : b' = (b || z)) : b' = (x || (y || z)) := by rw [e, h, Bool.or_assoc]

theorem pt_none {A D : List Fe} {K : List Int} (h1 : (A.any lgB || D.any lgB) = false) (h2 : ((A.any skB || D.any skB) || K.any siB) = false) : ptE A D K = 0 := by
  unfold ptE; rw [if_neg (by rw [h1]; decide), if_neg (by rw [h2]; decide)]
theorem pt_long {A D : List Fe} {K : List Int} (h1 : (A.any lgB || D.any lgB) = true) : ptE A D K = 9 := by unfold ptE; rw [if_pos h1]
theorem pt_odd {A D : List Fe} {K : List Int} (h1 : (A.any lgB || D.any lgB) = false) (h2 : ((A.any skB || D.any skB) || K.any siB) = true) : ptE A D K = 1 := by
  unfold ptE; rw [if_neg (by rw [h1]; decide), if_pos h2]

set_option maxHeartbeats 8000000 in
theorem refWriteE_c {I : IM} {A D : List Fe} {K : List Int} {a1 a2 a3 : Option Addr} {c1 c2 c3 : Nat} (hA : FSl I A (.slice a1 A.length c1)) (hD : FSl I D (.slice a2 D.length c2)) (hK : ISl I K (.slice a3 K.length c3)) (hlA : A.length ≤ 255) (hlD : D.length ≤ 255) (hlK : K.length ≤ 255) (he : ptE A D K ≠ 0) : Fun Tryd.prog 45 #[.slice a1 A.length c1, .slice a2 D.length c2, .slice a3 K.length c3] I (fun v J => v = .tuple #[.slice none 0 0, .int .i64 ((ptE A D K : Nat) : Int)]) := by
  refine enter_rule 113 [(0, .slice a1 A.length c1), (1, .slice a2 D.length c2), (2, .slice a3 K.length c3)] Tryd.func45 rfl (by kernel_rfl) ?_
  intro w s
  refine wp_seq ?_
  refine region_rule ?_
  refine ops_rule (C := []) [] [] 2 [] 0 (fun φ1 => [(7, .int .i64 0), (6, .slice none 0 0)]) (fun φ1 => []) (fun φ1 => []) s trivial (fun φ1 => by kernel_rfl) ?_
  intro φ1 w1 s
  refine ops_done (by kernel_rfl) ?_
  refine wp_seq ?_
  refine region_rule ?_
  refine ops_rule (C := []) [] [] 4 [] 0 (fun φ2 => [(22, .bool (decide (((A.length : Nat) : Int) > ((255 : Nat) : Int)))), (21, .bool (decide (((A.length : Nat) : Int) > ((255 : Nat) : Int)))), (20, .int .i64 ((A.length : Nat) : Int)), (19, .slice a1 A.length c1)]) (fun φ2 => []) (fun φ2 => []) s trivial (fun φ2 => by kernel_rfl) ?_
  intro φ2 w2 s
  rw [nat_gtr (a := A.length) (b := 255)]
  rcases Bool.eq_false_or_eq_true (decide (255 < A.length)) with hc3 | hc3
  ·
    exact absurd (of_decide_eq_true hc3) (by omega)
  ·
    rw [hc3]
    refine ops_rule (C := []) [] [] 5 [] 0 (fun φ4 => [(27, .bool (decide (((D.length : Nat) : Int) > ((255 : Nat) : Int)))), (26, .bool (decide (((D.length : Nat) : Int) > ((255 : Nat) : Int)))), (25, .bool (decide (((D.length : Nat) : Int) > ((255 : Nat) : Int)))), (24, .int .i64 ((D.length : Nat) : Int)), (23, .slice a2 D.length c2)]) (fun φ4 => []) (fun φ4 => []) s trivial (fun φ4 => by kernel_rfl) ?_
    intro φ4 w4 s
    rw [nat_gtr (a := D.length) (b := 255)]
    rcases Bool.eq_false_or_eq_true (decide (255 < D.length)) with hc5 | hc5
    ·
      exact absurd (of_decide_eq_true hc5) (by omega)
    ·
      rw [hc5]
      refine ops_rule (C := []) [] [] 6 [] 0 (fun φ6 => [(9, .bool false), (8, .bool (decide (((K.length : Nat) : Int) > ((255 : Nat) : Int)))), (31, .bool (decide (((K.length : Nat) : Int) > ((255 : Nat) : Int)))), (30, .bool (decide (((K.length : Nat) : Int) > ((255 : Nat) : Int)))), (29, .int .i64 ((K.length : Nat) : Int)), (28, .slice a3 K.length c3)]) (fun φ6 => []) (fun φ6 => []) s trivial (fun φ6 => by kernel_rfl) ?_
      intro φ6 w6 s
      rw [nat_gtr (a := K.length) (b := 255)]
      refine ops_done (by kernel_rfl) ?_
      refine wp_seq ?_
      refine wp_seq ?_
      refine region_rule ?_
      refine ops_rule (C := []) [] [] 5 [] 1 (fun φ7 => [(36, .int .i64 0), (35, .int .i64 2), (34, .slice (some ⟨(φ7 0), 0, none⟩) 2 2), (33, .slice a2 D.length c2), (32, .slice a1 A.length c1)]) (fun φ7 => [((φ7 0), .cells #[.slice a1 A.length c1, .slice a2 D.length c2] 30)]) (fun φ7 => []) s trivial (fun φ7 => by kernel_rfl) ?_
      intro φ7 w7 s
      refine ops_done (by kernel_rfl) ?_
      refine wp_block ?_
      refine Go.wp_loop_rounds 3 ?_
      refine rounds_step (n := 2) ?_
      refine wp_seq ?_
      refine region_rule ?_
      refine ops_rule (C := []) [((φ7 0), .cells #[.slice a1 A.length c1, .slice a2 D.length c2] 30)] [] 1 [] 0 (fun φ8 => [(37, .bool true)]) (fun φ8 => [((φ7 0), .cells #[.slice a1 A.length c1, .slice a2 D.length c2] 30)]) (fun φ8 => []) s trivial (fun φ8 => by kernel_rfl) ?_
      intro φ8 w8 s
      refine ops_done (by kernel_rfl) ?_
      refine wp_seq ?_
      refine cond_true_rule (b := true) (by kernel_rfl) rfl ?_
      refine wp_skip ?_
      refine wp_seq ?_
      refine wp_block ?_
      refine wp_seq ?_
      refine region_rule ?_
      refine ops_rule (C := []) [((φ7 0), .cells #[.slice a1 A.length c1, .slice a2 D.length c2] 30)] [] 3 [.o 0] 0 (fun φ9 => [(11, .slice a1 A.length c1), (39, .slice a1 A.length c1), (38, .pointer (some ⟨(φ7 0), 0, none⟩))]) (fun φ9 => [((φ7 0), .cells #[.slice a1 A.length c1, .slice a2 D.length c2] 30)]) (fun φ9 => [(φ7 0)]) s trivial (fun φ9 => by kernel_rfl) ?_
      intro φ9 w9 s
      refine ops_done (by kernel_rfl) ?_
      refine wp_seq ?_
      refine region_rule ?_
      refine ops_rule (C := []) [((φ7 0), .cells #[.slice a1 A.length c1, .slice a2 D.length c2] 30)] [] 3 [] 0 (fun φ10 => [(42, .int .i64 0), (41, .int .i64 ((A.length : Nat) : Int)), (40, .slice a1 A.length c1)]) (fun φ10 => [((φ7 0), .cells #[.slice a1 A.length c1, .slice a2 D.length c2] 30)]) (fun φ10 => []) s trivial (fun φ10 => by kernel_rfl) ?_
      intro φ10 w10 s
      refine ops_done (by kernel_rfl) ?_
      refine wp_block ?_
      have hle11 := IM.Le.refl I
      refine loop_rule (fun (x : Nat × Bool × Bool) => [(0, .slice a1 A.length c1), (1, .slice a2 D.length c2), (2, .slice a3 K.length c3), (6, .slice none 0 0), (7, .int .i64 0), (32, .slice a1 A.length c1), (33, .slice a2 D.length c2), (34, .slice (some ⟨(φ7 0), 0, none⟩) 2 2), (35, .int .i64 2), (36, .int .i64 0), (11, .slice a1 A.length c1), (40, .slice a1 A.length c1), (41, .int .i64 ((A.length : Nat) : Int)), (42, .int .i64 ((x.1 : Nat) : Int)), (8, .bool x.2.1), (9, .bool x.2.2)]) (fun (x : Nat × Bool × Bool) => [((φ7 0), .cells #[.slice a1 A.length c1, .slice a2 D.length c2] 30)]) (fun m (x : Nat × Bool × Bool) J => IM.Le I J ∧ x.1 + m = A.length ∧ x.2.1 = (false || ((A.take x.1).any lgB)) ∧ x.2.2 = (false || ((A.take x.1).any skB))) (A.length) (0, (decide (255 < K.length)), false) s (by kernel_rfl) (List.Sublist.cons₂ _ List.Sublist.slnil) ⟨IM.Le.refl _, Nat.zero_add _, (by rw [decide_eq_false (by omega)]; rfl), rfl⟩ ?_
      rintro m12 ⟨i12, u12, v12⟩ I12 w12 ev12 s ⟨le12, hi12_0, hi12_1, hi12_2⟩
      try dsimp only at s hi12_0 hi12_1 hi12_2 ⊢
      replace hA := FSl.mono le12 hA
      replace hD := FSl.mono le12 hD
      replace hK := ISl.mono le12 hK
      replace hle11 := leMono le12 hle11
      refine wp_seq ?_
      refine region_rule ?_
      refine ops_rule (C := []) [((φ7 0), .cells #[.slice a1 A.length c1, .slice a2 D.length c2] 30)] [] 1 [] 0 (fun φ13 => [(43, .bool (decide (((i12 : Nat) : Int) < ((A.length : Nat) : Int))))]) (fun φ13 => [((φ7 0), .cells #[.slice a1 A.length c1, .slice a2 D.length c2] 30)]) (fun φ13 => []) s trivial (fun φ13 => by kernel_rfl) ?_
      intro φ13 w13 s
      rw [nat_lss (a := i12) (b := A.length)]
      refine ops_done (by kernel_rfl) ?_
      refine wp_seq ?_
      rcases Bool.eq_false_or_eq_true (decide (i12 < A.length)) with hc14 | hc14
      ·
        rw [hc14]
        refine cond_true_rule (b := true) (by kernel_rfl) rfl ?_
        refine wp_skip ?_
        refine wp_seq ?_
        refine wp_block ?_
        refine wp_seq ?_
        refine region_rule ?_
        refine sem_rule (Instr.indexAt 30 (.slice a1 A.length c1) (.int .i64 ((i12 : Nat) : Int))) (some 44) (.pointer (pAt a1 (i12 * 3))) (by kernel_rfl) (fsl_idx30 hA (by have e8 := hi12_0; have hq0 := of_decide_eq_false hc3; have hq1 := of_decide_eq_false hc5; have hq2 := of_decide_eq_true hc14; omega)) ?_
        refine sem_rule (Instr.loadAt 42 (.pointer (pAt a1 (i12 * 3)))) (some 45) (.agg #[.int .i64 ((List.getD A i12 Fe.z).k), .string ⟨((List.getD A i12 Fe.z).a).toArray⟩, .string ⟨((List.getD A i12 Fe.z).v).toArray⟩]) (by kernel_rfl) (fsl_ld42 s.sub hA (by have e8 := hi12_0; have hq0 := of_decide_eq_false hc3; have hq1 := of_decide_eq_false hc5; have hq2 := of_decide_eq_true hc14; omega)) ?_
        refine ops_rule (C := []) [((φ7 0), .cells #[.slice a1 A.length c1, .slice a2 D.length c2] 30)] [] 2 [.o 1, .o 1, .o 1] 1 (fun φ15 => [(13, .pointer (some ⟨(φ15 0), 0, none⟩))]) (fun φ15 => [((φ7 0), .cells #[.slice a1 A.length c1, .slice a2 D.length c2] 30), ((φ15 0), .cells #[.int .i64 ((List.getD A i12 Fe.z).k), .string ⟨((List.getD A i12 Fe.z).a).toArray⟩, .string ⟨((List.getD A i12 Fe.z).v).toArray⟩] 42)]) (fun φ15 => [(φ15 0), (φ15 0), (φ15 0)]) s trivial (fun φ15 => by kernel_rfl) ?_
        intro φ15 w15 s
        refine ops_done (by kernel_rfl) ?_
        refine wp_seq ?_
        refine region_rule ?_
        refine ops_rule (C := []) [((φ7 0), .cells #[.slice a1 A.length c1, .slice a2 D.length c2] 30), ((φ15 0), .cells #[.int .i64 ((List.getD A i12 Fe.z).k), .string ⟨((List.getD A i12 Fe.z).a).toArray⟩, .string ⟨((List.getD A i12 Fe.z).v).toArray⟩] 42)] [] 2 [] 0 (fun φ16 => [(47, .bool u12), (46, .bool u12)]) (fun φ16 => [((φ7 0), .cells #[.slice a1 A.length c1, .slice a2 D.length c2] 30), ((φ15 0), .cells #[.int .i64 ((List.getD A i12 Fe.z).k), .string ⟨((List.getD A i12 Fe.z).a).toArray⟩, .string ⟨((List.getD A i12 Fe.z).v).toArray⟩] 42)]) (fun φ16 => []) s trivial (fun φ16 => by kernel_rfl) ?_
        intro φ16 w16 s
        rcases Bool.eq_false_or_eq_true (u12) with hc17 | hc17
        ·
          rw [hc17]
          refine ops_rule (C := []) [((φ7 0), .cells #[.slice a1 A.length c1, .slice a2 D.length c2] 30), ((φ15 0), .cells #[.int .i64 ((List.getD A i12 Fe.z).k), .string ⟨((List.getD A i12 Fe.z).a).toArray⟩, .string ⟨((List.getD A i12 Fe.z).v).toArray⟩] 42)] [] 12 [] 0 (fun φ18 => [(8, .bool true), (58, .bool true), (57, undef), (56, undef), (55, undef), (54, undef), (53, .bool true), (52, .bool true), (51, undef), (50, undef), (49, undef), (48, undef)]) (fun φ18 => [((φ7 0), .cells #[.slice a1 A.length c1, .slice a2 D.length c2] 30), ((φ15 0), .cells #[.int .i64 ((List.getD A i12 Fe.z).k), .string ⟨((List.getD A i12 Fe.z).a).toArray⟩, .string ⟨((List.getD A i12 Fe.z).v).toArray⟩] 42)]) (fun φ18 => []) s trivial (fun φ18 => by kernel_rfl) ?_
          intro φ18 w18 s
          refine ops_done (by kernel_rfl) ?_
          refine region_rule ?_
          refine ops_rule (C := []) [((φ7 0), .cells #[.slice a1 A.length c1, .slice a2 D.length c2] 30), ((φ15 0), .cells #[.int .i64 ((List.getD A i12 Fe.z).k), .string ⟨((List.getD A i12 Fe.z).a).toArray⟩, .string ⟨((List.getD A i12 Fe.z).v).toArray⟩] 42)] [] 2 [] 0 (fun φ19 => [(60, .bool v12), (59, .bool v12)]) (fun φ19 => [((φ7 0), .cells #[.slice a1 A.length c1, .slice a2 D.length c2] 30), ((φ15 0), .cells #[.int .i64 ((List.getD A i12 Fe.z).k), .string ⟨((List.getD A i12 Fe.z).a).toArray⟩, .string ⟨((List.getD A i12 Fe.z).v).toArray⟩] 42)]) (fun φ19 => []) s trivial (fun φ19 => by kernel_rfl) ?_
          intro φ19 w19 s
          rcases Bool.eq_false_or_eq_true (v12) with hc20 | hc20
          ·
            rw [hc20]
            refine ops_rule (C := []) [((φ7 0), .cells #[.slice a1 A.length c1, .slice a2 D.length c2] 30), ((φ15 0), .cells #[.int .i64 ((List.getD A i12 Fe.z).k), .string ⟨((List.getD A i12 Fe.z).a).toArray⟩, .string ⟨((List.getD A i12 Fe.z).v).toArray⟩] 42)] [] 10 [] 0 (fun φ21 => [(9, .bool true), (69, .bool true), (68, undef), (67, undef), (66, undef), (65, .bool true), (64, .bool true), (63, undef), (62, undef), (61, undef)]) (fun φ21 => [((φ7 0), .cells #[.slice a1 A.length c1, .slice a2 D.length c2] 30), ((φ15 0), .cells #[.int .i64 ((List.getD A i12 Fe.z).k), .string ⟨((List.getD A i12 Fe.z).a).toArray⟩, .string ⟨((List.getD A i12 Fe.z).v).toArray⟩] 42)]) (fun φ21 => []) s trivial (fun φ21 => by kernel_rfl) ?_
            intro φ21 w21 s
            refine ops_done (by kernel_rfl) ?_
            refine region_rule ?_
            refine ops_rule (C := []) [((φ7 0), .cells #[.slice a1 A.length c1, .slice a2 D.length c2] 30), ((φ15 0), .cells #[.int .i64 ((List.getD A i12 Fe.z).k), .string ⟨((List.getD A i12 Fe.z).a).toArray⟩, .string ⟨((List.getD A i12 Fe.z).v).toArray⟩] 42)] [] 2 [] 0 (fun φ22 => [(42, .int .i64 (IntKind.wrap .i64 (((i12 : Nat) : Int) + ((1 : Nat) : Int)))), (70, .int .i64 (IntKind.wrap .i64 (((i12 : Nat) : Int) + ((1 : Nat) : Int))))]) (fun φ22 => [((φ7 0), .cells #[.slice a1 A.length c1, .slice a2 D.length c2] 30), ((φ15 0), .cells #[.int .i64 ((List.getD A i12 Fe.z).k), .string ⟨((List.getD A i12 Fe.z).a).toArray⟩, .string ⟨((List.getD A i12 Fe.z).v).toArray⟩] 42)]) (fun φ22 => []) s trivial (fun φ22 => by kernel_rfl) ?_
            intro φ22 w22 s
            rw [nat_addI (a := i12) (b := 1) (by have e8 := hi12_0; have hq0 := of_decide_eq_false hc3; have hq1 := of_decide_eq_false hc5; have hq2 := of_decide_eq_true hc14; omega)]
            refine ops_done (by kernel_rfl) ?_
            have ha23 : true = (u12 || lgB (List.getD A i12 Fe.z)) := by
                        rw [hc17]; rfl
            have hb23 : true = (v12 || skB (List.getD A i12 Fe.z)) := by
                        rw [hc20]; rfl
            exact ⟨⟨m12 - 1, (i12 + 1, true, true), _, _, _, by have hq0 := of_decide_eq_false hc3; have hq1 := of_decide_eq_false hc5; have hq2 := of_decide_eq_true hc14; have := hi12_0; omega, rfl, s, (List.Sublist.cons₂ _ (List.Sublist.cons _ List.Sublist.slnil)), by kernel_rfl, hle11, by have hq0 := of_decide_eq_false hc3; have hq1 := of_decide_eq_false hc5; have hq2 := of_decide_eq_true hc14; have := hi12_0; show i12 + 1 + (m12 - 1) = A.length; omega, (by rw [any_snocF (by have hq0 := of_decide_eq_false hc3; have hq1 := of_decide_eq_false hc5; have hq2 := of_decide_eq_true hc14; have := hi12_0; omega)]; exact flag_next hi12_1 ha23), (by rw [any_snocF (by have hq0 := of_decide_eq_false hc3; have hq1 := of_decide_eq_false hc5; have hq2 := of_decide_eq_true hc14; have := hi12_0; omega)]; exact flag_next hi12_2 hb23)⟩⟩
          ·
            rw [hc20]
            refine ops_rule (C := []) [((φ7 0), .cells #[.slice a1 A.length c1, .slice a2 D.length c2] 30), ((φ15 0), .cells #[.int .i64 ((List.getD A i12 Fe.z).k), .string ⟨((List.getD A i12 Fe.z).a).toArray⟩, .string ⟨((List.getD A i12 Fe.z).v).toArray⟩] 42)] [] 5 [.o 1] 0 (fun φ24 => [(65, .bool (decide (((List.getD A i12 Fe.z).k) < ((0 : Nat) : Int)))), (64, .bool (decide (((List.getD A i12 Fe.z).k) < ((0 : Nat) : Int)))), (63, .bool (decide (((List.getD A i12 Fe.z).k) < ((0 : Nat) : Int)))), (62, .int .i64 ((List.getD A i12 Fe.z).k)), (61, .pointer (some ⟨(φ15 0), 0, none⟩))]) (fun φ24 => [((φ7 0), .cells #[.slice a1 A.length c1, .slice a2 D.length c2] 30), ((φ15 0), .cells #[.int .i64 ((List.getD A i12 Fe.z).k), .string ⟨((List.getD A i12 Fe.z).a).toArray⟩, .string ⟨((List.getD A i12 Fe.z).v).toArray⟩] 42)]) (fun φ24 => [(φ15 0)]) s trivial (fun φ24 => by kernel_rfl) ?_
            intro φ24 w24 s
            rcases Bool.eq_false_or_eq_true (decide (((List.getD A i12 Fe.z).k) < ((0 : Nat) : Int))) with hc25 | hc25
            ·
              rw [hc25]
              refine ops_rule (C := []) [((φ7 0), .cells #[.slice a1 A.length c1, .slice a2 D.length c2] 30), ((φ15 0), .cells #[.int .i64 ((List.getD A i12 Fe.z).k), .string ⟨((List.getD A i12 Fe.z).a).toArray⟩, .string ⟨((List.getD A i12 Fe.z).v).toArray⟩] 42)] [] 5 [] 0 (fun φ26 => [(9, .bool true), (69, .bool true), (68, undef), (67, undef), (66, undef)]) (fun φ26 => [((φ7 0), .cells #[.slice a1 A.length c1, .slice a2 D.length c2] 30), ((φ15 0), .cells #[.int .i64 ((List.getD A i12 Fe.z).k), .string ⟨((List.getD A i12 Fe.z).a).toArray⟩, .string ⟨((List.getD A i12 Fe.z).v).toArray⟩] 42)]) (fun φ26 => []) s trivial (fun φ26 => by kernel_rfl) ?_
              intro φ26 w26 s
              refine ops_done (by kernel_rfl) ?_
              refine region_rule ?_
              refine ops_rule (C := []) [((φ7 0), .cells #[.slice a1 A.length c1, .slice a2 D.length c2] 30), ((φ15 0), .cells #[.int .i64 ((List.getD A i12 Fe.z).k), .string ⟨((List.getD A i12 Fe.z).a).toArray⟩, .string ⟨((List.getD A i12 Fe.z).v).toArray⟩] 42)] [] 2 [] 0 (fun φ27 => [(42, .int .i64 (IntKind.wrap .i64 (((i12 : Nat) : Int) + ((1 : Nat) : Int)))), (70, .int .i64 (IntKind.wrap .i64 (((i12 : Nat) : Int) + ((1 : Nat) : Int))))]) (fun φ27 => [((φ7 0), .cells #[.slice a1 A.length c1, .slice a2 D.length c2] 30), ((φ15 0), .cells #[.int .i64 ((List.getD A i12 Fe.z).k), .string ⟨((List.getD A i12 Fe.z).a).toArray⟩, .string ⟨((List.getD A i12 Fe.z).v).toArray⟩] 42)]) (fun φ27 => []) s trivial (fun φ27 => by kernel_rfl) ?_
              intro φ27 w27 s
              rw [nat_addI (a := i12) (b := 1) (by have e8 := hi12_0; have hq0 := of_decide_eq_false hc3; have hq1 := of_decide_eq_false hc5; have hq2 := of_decide_eq_true hc14; have hq5 := of_decide_eq_true hc25; omega)]
              refine ops_done (by kernel_rfl) ?_
              have ha28 : true = (u12 || lgB (List.getD A i12 Fe.z)) := by
                          rw [hc17]; rfl
              have hb28 : true = (v12 || skB (List.getD A i12 Fe.z)) := by
                          have hq0 := of_decide_eq_false hc3
                          have hq1 := of_decide_eq_false hc5
                          have hq2 := of_decide_eq_true hc14
                          have hq3 := of_decide_eq_true hc25
                          rw [hc20]
                          unfold skB
                          rw [Bool.eq_iff_iff]
                          try simp only [Bool.or_eq_true, decide_eq_true_eq, Bool.false_eq_true, false_or, true_iff, false_iff, iff_true, eq_self_iff_true]
                          try omega
              exact ⟨⟨m12 - 1, (i12 + 1, true, true), _, _, _, by have hq0 := of_decide_eq_false hc3; have hq1 := of_decide_eq_false hc5; have hq2 := of_decide_eq_true hc14; have hq3 := of_decide_eq_true hc25; have := hi12_0; omega, rfl, s, (List.Sublist.cons₂ _ (List.Sublist.cons _ List.Sublist.slnil)), by kernel_rfl, hle11, by have hq0 := of_decide_eq_false hc3; have hq1 := of_decide_eq_false hc5; have hq2 := of_decide_eq_true hc14; have hq3 := of_decide_eq_true hc25; have := hi12_0; show i12 + 1 + (m12 - 1) = A.length; omega, (by rw [any_snocF (by have hq0 := of_decide_eq_false hc3; have hq1 := of_decide_eq_false hc5; have hq2 := of_decide_eq_true hc14; have hq3 := of_decide_eq_true hc25; have := hi12_0; omega)]; exact flag_next hi12_1 ha28), (by rw [any_snocF (by have hq0 := of_decide_eq_false hc3; have hq1 := of_decide_eq_false hc5; have hq2 := of_decide_eq_true hc14; have hq3 := of_decide_eq_true hc25; have := hi12_0; omega)]; exact flag_next hi12_2 hb28)⟩⟩
            ·
              rw [hc25]
              refine ops_rule (C := []) [((φ7 0), .cells #[.slice a1 A.length c1, .slice a2 D.length c2] 30), ((φ15 0), .cells #[.int .i64 ((List.getD A i12 Fe.z).k), .string ⟨((List.getD A i12 Fe.z).a).toArray⟩, .string ⟨((List.getD A i12 Fe.z).v).toArray⟩] 42)] [] 5 [.o 1] 0 (fun φ29 => [(9, .bool (decide (((List.getD A i12 Fe.z).k) > ((255 : Nat) : Int)))), (69, .bool (decide (((List.getD A i12 Fe.z).k) > ((255 : Nat) : Int)))), (68, .bool (decide (((List.getD A i12 Fe.z).k) > ((255 : Nat) : Int)))), (67, .int .i64 ((List.getD A i12 Fe.z).k)), (66, .pointer (some ⟨(φ15 0), 0, none⟩))]) (fun φ29 => [((φ7 0), .cells #[.slice a1 A.length c1, .slice a2 D.length c2] 30), ((φ15 0), .cells #[.int .i64 ((List.getD A i12 Fe.z).k), .string ⟨((List.getD A i12 Fe.z).a).toArray⟩, .string ⟨((List.getD A i12 Fe.z).v).toArray⟩] 42)]) (fun φ29 => [(φ15 0)]) s trivial (fun φ29 => by kernel_rfl) ?_
              intro φ29 w29 s
              refine ops_done (by kernel_rfl) ?_
              refine region_rule ?_
              refine ops_rule (C := []) [((φ7 0), .cells #[.slice a1 A.length c1, .slice a2 D.length c2] 30), ((φ15 0), .cells #[.int .i64 ((List.getD A i12 Fe.z).k), .string ⟨((List.getD A i12 Fe.z).a).toArray⟩, .string ⟨((List.getD A i12 Fe.z).v).toArray⟩] 42)] [] 2 [] 0 (fun φ30 => [(42, .int .i64 (IntKind.wrap .i64 (((i12 : Nat) : Int) + ((1 : Nat) : Int)))), (70, .int .i64 (IntKind.wrap .i64 (((i12 : Nat) : Int) + ((1 : Nat) : Int))))]) (fun φ30 => [((φ7 0), .cells #[.slice a1 A.length c1, .slice a2 D.length c2] 30), ((φ15 0), .cells #[.int .i64 ((List.getD A i12 Fe.z).k), .string ⟨((List.getD A i12 Fe.z).a).toArray⟩, .string ⟨((List.getD A i12 Fe.z).v).toArray⟩] 42)]) (fun φ30 => []) s trivial (fun φ30 => by kernel_rfl) ?_
              intro φ30 w30 s
              rw [nat_addI (a := i12) (b := 1) (by have e8 := hi12_0; have hq0 := of_decide_eq_false hc3; have hq1 := of_decide_eq_false hc5; have hq2 := of_decide_eq_true hc14; have hq5 := of_decide_eq_false hc25; omega)]
              refine ops_done (by kernel_rfl) ?_
              have ha31 : true = (u12 || lgB (List.getD A i12 Fe.z)) := by
                          rw [hc17]; rfl
              have hb31 : (decide (((List.getD A i12 Fe.z).k) > ((255 : Nat) : Int))) = (v12 || skB (List.getD A i12 Fe.z)) := by
                          have hq0 := of_decide_eq_false hc3
                          have hq1 := of_decide_eq_false hc5
                          have hq2 := of_decide_eq_true hc14
                          have hq3 := of_decide_eq_false hc25
                          rw [hc20]
                          unfold skB
                          rw [Bool.eq_iff_iff]
                          try simp only [Bool.or_eq_true, decide_eq_true_eq, Bool.false_eq_true, false_or, true_iff, false_iff, iff_true, eq_self_iff_true]
                          try omega
              exact ⟨⟨m12 - 1, (i12 + 1, true, (decide (((List.getD A i12 Fe.z).k) > ((255 : Nat) : Int)))), _, _, _, by have hq0 := of_decide_eq_false hc3; have hq1 := of_decide_eq_false hc5; have hq2 := of_decide_eq_true hc14; have hq3 := of_decide_eq_false hc25; have := hi12_0; omega, rfl, s, (List.Sublist.cons₂ _ (List.Sublist.cons _ List.Sublist.slnil)), by kernel_rfl, hle11, by have hq0 := of_decide_eq_false hc3; have hq1 := of_decide_eq_false hc5; have hq2 := of_decide_eq_true hc14; have hq3 := of_decide_eq_false hc25; have := hi12_0; show i12 + 1 + (m12 - 1) = A.length; omega, (by rw [any_snocF (by have hq0 := of_decide_eq_false hc3; have hq1 := of_decide_eq_false hc5; have hq2 := of_decide_eq_true hc14; have hq3 := of_decide_eq_false hc25; have := hi12_0; omega)]; exact flag_next hi12_1 ha31), (by rw [any_snocF (by have hq0 := of_decide_eq_false hc3; have hq1 := of_decide_eq_false hc5; have hq2 := of_decide_eq_true hc14; have hq3 := of_decide_eq_false hc25; have := hi12_0; omega)]; exact flag_next hi12_2 hb31)⟩⟩
        ·
          rw [hc17]
          refine ops_rule (C := []) [((φ7 0), .cells #[.slice a1 A.length c1, .slice a2 D.length c2] 30), ((φ15 0), .cells #[.int .i64 ((List.getD A i12 Fe.z).k), .string ⟨((List.getD A i12 Fe.z).a).toArray⟩, .string ⟨((List.getD A i12 Fe.z).v).toArray⟩] 42)] [] 6 [.o 1] 0 (fun φ32 => [(53, .bool (decide (((((List.getD A i12 Fe.z).a).length : Nat) : Int) > ((255 : Nat) : Int)))), (52, .bool (decide (((((List.getD A i12 Fe.z).a).length : Nat) : Int) > ((255 : Nat) : Int)))), (51, .bool (decide (((((List.getD A i12 Fe.z).a).length : Nat) : Int) > ((255 : Nat) : Int)))), (50, .int .i64 ((((List.getD A i12 Fe.z).a).length : Nat) : Int)), (49, .string ⟨((List.getD A i12 Fe.z).a).toArray⟩), (48, .pointer (some ⟨(φ15 0), 1, none⟩))]) (fun φ32 => [((φ7 0), .cells #[.slice a1 A.length c1, .slice a2 D.length c2] 30), ((φ15 0), .cells #[.int .i64 ((List.getD A i12 Fe.z).k), .string ⟨((List.getD A i12 Fe.z).a).toArray⟩, .string ⟨((List.getD A i12 Fe.z).v).toArray⟩] 42)]) (fun φ32 => [(φ15 0)]) s trivial (fun φ32 => by kernel_rfl) ?_
          intro φ32 w32 s
          rw [nat_gtr (a := (((List.getD A i12 Fe.z).a).length)) (b := 255)]
          rcases Bool.eq_false_or_eq_true (decide (255 < (((List.getD A i12 Fe.z).a).length))) with hc33 | hc33
          ·
            rw [hc33]
            refine ops_rule (C := []) [((φ7 0), .cells #[.slice a1 A.length c1, .slice a2 D.length c2] 30), ((φ15 0), .cells #[.int .i64 ((List.getD A i12 Fe.z).k), .string ⟨((List.getD A i12 Fe.z).a).toArray⟩, .string ⟨((List.getD A i12 Fe.z).v).toArray⟩] 42)] [] 6 [] 0 (fun φ34 => [(8, .bool true), (58, .bool true), (57, undef), (56, undef), (55, undef), (54, undef)]) (fun φ34 => [((φ7 0), .cells #[.slice a1 A.length c1, .slice a2 D.length c2] 30), ((φ15 0), .cells #[.int .i64 ((List.getD A i12 Fe.z).k), .string ⟨((List.getD A i12 Fe.z).a).toArray⟩, .string ⟨((List.getD A i12 Fe.z).v).toArray⟩] 42)]) (fun φ34 => []) s trivial (fun φ34 => by kernel_rfl) ?_
            intro φ34 w34 s
            refine ops_done (by kernel_rfl) ?_
            refine region_rule ?_
            refine ops_rule (C := []) [((φ7 0), .cells #[.slice a1 A.length c1, .slice a2 D.length c2] 30), ((φ15 0), .cells #[.int .i64 ((List.getD A i12 Fe.z).k), .string ⟨((List.getD A i12 Fe.z).a).toArray⟩, .string ⟨((List.getD A i12 Fe.z).v).toArray⟩] 42)] [] 2 [] 0 (fun φ35 => [(60, .bool v12), (59, .bool v12)]) (fun φ35 => [((φ7 0), .cells #[.slice a1 A.length c1, .slice a2 D.length c2] 30), ((φ15 0), .cells #[.int .i64 ((List.getD A i12 Fe.z).k), .string ⟨((List.getD A i12 Fe.z).a).toArray⟩, .string ⟨((List.getD A i12 Fe.z).v).toArray⟩] 42)]) (fun φ35 => []) s trivial (fun φ35 => by kernel_rfl) ?_
            intro φ35 w35 s
            rcases Bool.eq_false_or_eq_true (v12) with hc36 | hc36
            ·
              rw [hc36]
              refine ops_rule (C := []) [((φ7 0), .cells #[.slice a1 A.length c1, .slice a2 D.length c2] 30), ((φ15 0), .cells #[.int .i64 ((List.getD A i12 Fe.z).k), .string ⟨((List.getD A i12 Fe.z).a).toArray⟩, .string ⟨((List.getD A i12 Fe.z).v).toArray⟩] 42)] [] 10 [] 0 (fun φ37 => [(9, .bool true), (69, .bool true), (68, undef), (67, undef), (66, undef), (65, .bool true), (64, .bool true), (63, undef), (62, undef), (61, undef)]) (fun φ37 => [((φ7 0), .cells #[.slice a1 A.length c1, .slice a2 D.length c2] 30), ((φ15 0), .cells #[.int .i64 ((List.getD A i12 Fe.z).k), .string ⟨((List.getD A i12 Fe.z).a).toArray⟩, .string ⟨((List.getD A i12 Fe.z).v).toArray⟩] 42)]) (fun φ37 => []) s trivial (fun φ37 => by kernel_rfl) ?_
              intro φ37 w37 s
              refine ops_done (by kernel_rfl) ?_
              refine region_rule ?_
              refine ops_rule (C := []) [((φ7 0), .cells #[.slice a1 A.length c1, .slice a2 D.length c2] 30), ((φ15 0), .cells #[.int .i64 ((List.getD A i12 Fe.z).k), .string ⟨((List.getD A i12 Fe.z).a).toArray⟩, .string ⟨((List.getD A i12 Fe.z).v).toArray⟩] 42)] [] 2 [] 0 (fun φ38 => [(42, .int .i64 (IntKind.wrap .i64 (((i12 : Nat) : Int) + ((1 : Nat) : Int)))), (70, .int .i64 (IntKind.wrap .i64 (((i12 : Nat) : Int) + ((1 : Nat) : Int))))]) (fun φ38 => [((φ7 0), .cells #[.slice a1 A.length c1, .slice a2 D.length c2] 30), ((φ15 0), .cells #[.int .i64 ((List.getD A i12 Fe.z).k), .string ⟨((List.getD A i12 Fe.z).a).toArray⟩, .string ⟨((List.getD A i12 Fe.z).v).toArray⟩] 42)]) (fun φ38 => []) s trivial (fun φ38 => by kernel_rfl) ?_
              intro φ38 w38 s
              rw [nat_addI (a := i12) (b := 1) (by have e8 := hi12_0; have hq0 := of_decide_eq_false hc3; have hq1 := of_decide_eq_false hc5; have hq2 := of_decide_eq_true hc14; have hq4 := of_decide_eq_true hc33; omega)]
              refine ops_done (by kernel_rfl) ?_
              have ha39 : true = (u12 || lgB (List.getD A i12 Fe.z)) := by
                          have hq0 := of_decide_eq_false hc3
                          have hq1 := of_decide_eq_false hc5
                          have hq2 := of_decide_eq_true hc14
                          have hq3 := of_decide_eq_true hc33
                          rw [hc17]
                          unfold lgB
                          rw [Bool.eq_iff_iff]
                          try simp only [Bool.or_eq_true, decide_eq_true_eq, Bool.false_eq_true, false_or, true_iff, false_iff, iff_true, eq_self_iff_true]
                          try omega
              have hb39 : true = (v12 || skB (List.getD A i12 Fe.z)) := by
                          rw [hc36]; rfl
              exact ⟨⟨m12 - 1, (i12 + 1, true, true), _, _, _, by have hq0 := of_decide_eq_false hc3; have hq1 := of_decide_eq_false hc5; have hq2 := of_decide_eq_true hc14; have hq3 := of_decide_eq_true hc33; have := hi12_0; omega, rfl, s, (List.Sublist.cons₂ _ (List.Sublist.cons _ List.Sublist.slnil)), by kernel_rfl, hle11, by have hq0 := of_decide_eq_false hc3; have hq1 := of_decide_eq_false hc5; have hq2 := of_decide_eq_true hc14; have hq3 := of_decide_eq_true hc33; have := hi12_0; show i12 + 1 + (m12 - 1) = A.length; omega, (by rw [any_snocF (by have hq0 := of_decide_eq_false hc3; have hq1 := of_decide_eq_false hc5; have hq2 := of_decide_eq_true hc14; have hq3 := of_decide_eq_true hc33; have := hi12_0; omega)]; exact flag_next hi12_1 ha39), (by rw [any_snocF (by have hq0 := of_decide_eq_false hc3; have hq1 := of_decide_eq_false hc5; have hq2 := of_decide_eq_true hc14; have hq3 := of_decide_eq_true hc33; have := hi12_0; omega)]; exact flag_next hi12_2 hb39)⟩⟩
            ·
              rw [hc36]
              refine ops_rule (C := []) [((φ7 0), .cells #[.slice a1 A.length c1, .slice a2 D.length c2] 30), ((φ15 0), .cells #[.int .i64 ((List.getD A i12 Fe.z).k), .string ⟨((List.getD A i12 Fe.z).a).toArray⟩, .string ⟨((List.getD A i12 Fe.z).v).toArray⟩] 42)] [] 5 [.o 1] 0 (fun φ40 => [(65, .bool (decide (((List.getD A i12 Fe.z).k) < ((0 : Nat) : Int)))), (64, .bool (decide (((List.getD A i12 Fe.z).k) < ((0 : Nat) : Int)))), (63, .bool (decide (((List.getD A i12 Fe.z).k) < ((0 : Nat) : Int)))), (62, .int .i64 ((List.getD A i12 Fe.z).k)), (61, .pointer (some ⟨(φ15 0), 0, none⟩))]) (fun φ40 => [((φ7 0), .cells #[.slice a1 A.length c1, .slice a2 D.length c2] 30), ((φ15 0), .cells #[.int .i64 ((List.getD A i12 Fe.z).k), .string ⟨((List.getD A i12 Fe.z).a).toArray⟩, .string ⟨((List.getD A i12 Fe.z).v).toArray⟩] 42)]) (fun φ40 => [(φ15 0)]) s trivial (fun φ40 => by kernel_rfl) ?_
              intro φ40 w40 s
              rcases Bool.eq_false_or_eq_true (decide (((List.getD A i12 Fe.z).k) < ((0 : Nat) : Int))) with hc41 | hc41
              ·
                rw [hc41]
                refine ops_rule (C := []) [((φ7 0), .cells #[.slice a1 A.length c1, .slice a2 D.length c2] 30), ((φ15 0), .cells #[.int .i64 ((List.getD A i12 Fe.z).k), .string ⟨((List.getD A i12 Fe.z).a).toArray⟩, .string ⟨((List.getD A i12 Fe.z).v).toArray⟩] 42)] [] 5 [] 0 (fun φ42 => [(9, .bool true), (69, .bool true), (68, undef), (67, undef), (66, undef)]) (fun φ42 => [((φ7 0), .cells #[.slice a1 A.length c1, .slice a2 D.length c2] 30), ((φ15 0), .cells #[.int .i64 ((List.getD A i12 Fe.z).k), .string ⟨((List.getD A i12 Fe.z).a).toArray⟩, .string ⟨((List.getD A i12 Fe.z).v).toArray⟩] 42)]) (fun φ42 => []) s trivial (fun φ42 => by kernel_rfl) ?_
                intro φ42 w42 s
                refine ops_done (by kernel_rfl) ?_
                refine region_rule ?_
                refine ops_rule (C := []) [((φ7 0), .cells #[.slice a1 A.length c1, .slice a2 D.length c2] 30), ((φ15 0), .cells #[.int .i64 ((List.getD A i12 Fe.z).k), .string ⟨((List.getD A i12 Fe.z).a).toArray⟩, .string ⟨((List.getD A i12 Fe.z).v).toArray⟩] 42)] [] 2 [] 0 (fun φ43 => [(42, .int .i64 (IntKind.wrap .i64 (((i12 : Nat) : Int) + ((1 : Nat) : Int)))), (70, .int .i64 (IntKind.wrap .i64 (((i12 : Nat) : Int) + ((1 : Nat) : Int))))]) (fun φ43 => [((φ7 0), .cells #[.slice a1 A.length c1, .slice a2 D.length c2] 30), ((φ15 0), .cells #[.int .i64 ((List.getD A i12 Fe.z).k), .string ⟨((List.getD A i12 Fe.z).a).toArray⟩, .string ⟨((List.getD A i12 Fe.z).v).toArray⟩] 42)]) (fun φ43 => []) s trivial (fun φ43 => by kernel_rfl) ?_
                intro φ43 w43 s
                rw [nat_addI (a := i12) (b := 1) (by have e8 := hi12_0; have hq0 := of_decide_eq_false hc3; have hq1 := of_decide_eq_false hc5; have hq2 := of_decide_eq_true hc14; have hq4 := of_decide_eq_true hc33; have hq6 := of_decide_eq_true hc41; omega)]
                refine ops_done (by kernel_rfl) ?_
                have ha44 : true = (u12 || lgB (List.getD A i12 Fe.z)) := by
                            have hq0 := of_decide_eq_false hc3
                            have hq1 := of_decide_eq_false hc5
                            have hq2 := of_decide_eq_true hc14
                            have hq3 := of_decide_eq_true hc33
                            have hq4 := of_decide_eq_true hc41
                            rw [hc17]
                            unfold lgB
                            rw [Bool.eq_iff_iff]
                            try simp only [Bool.or_eq_true, decide_eq_true_eq, Bool.false_eq_true, false_or, true_iff, false_iff, iff_true, eq_self_iff_true]
                            try omega
                have hb44 : true = (v12 || skB (List.getD A i12 Fe.z)) := by
                            have hq0 := of_decide_eq_false hc3
                            have hq1 := of_decide_eq_false hc5
                            have hq2 := of_decide_eq_true hc14
                            have hq3 := of_decide_eq_true hc33
                            have hq4 := of_decide_eq_true hc41
                            rw [hc36]
                            unfold skB
                            rw [Bool.eq_iff_iff]
                            try simp only [Bool.or_eq_true, decide_eq_true_eq, Bool.false_eq_true, false_or, true_iff, false_iff, iff_true, eq_self_iff_true]
                            try omega
                exact ⟨⟨m12 - 1, (i12 + 1, true, true), _, _, _, by have hq0 := of_decide_eq_false hc3; have hq1 := of_decide_eq_false hc5; have hq2 := of_decide_eq_true hc14; have hq3 := of_decide_eq_true hc33; have hq4 := of_decide_eq_true hc41; have := hi12_0; omega, rfl, s, (List.Sublist.cons₂ _ (List.Sublist.cons _ List.Sublist.slnil)), by kernel_rfl, hle11, by have hq0 := of_decide_eq_false hc3; have hq1 := of_decide_eq_false hc5; have hq2 := of_decide_eq_true hc14; have hq3 := of_decide_eq_true hc33; have hq4 := of_decide_eq_true hc41; have := hi12_0; show i12 + 1 + (m12 - 1) = A.length; omega, (by rw [any_snocF (by have hq0 := of_decide_eq_false hc3; have hq1 := of_decide_eq_false hc5; have hq2 := of_decide_eq_true hc14; have hq3 := of_decide_eq_true hc33; have hq4 := of_decide_eq_true hc41; have := hi12_0; omega)]; exact flag_next hi12_1 ha44), (by rw [any_snocF (by have hq0 := of_decide_eq_false hc3; have hq1 := of_decide_eq_false hc5; have hq2 := of_decide_eq_true hc14; have hq3 := of_decide_eq_true hc33; have hq4 := of_decide_eq_true hc41; have := hi12_0; omega)]; exact flag_next hi12_2 hb44)⟩⟩
              ·
                rw [hc41]
                refine ops_rule (C := []) [((φ7 0), .cells #[.slice a1 A.length c1, .slice a2 D.length c2] 30), ((φ15 0), .cells #[.int .i64 ((List.getD A i12 Fe.z).k), .string ⟨((List.getD A i12 Fe.z).a).toArray⟩, .string ⟨((List.getD A i12 Fe.z).v).toArray⟩] 42)] [] 5 [.o 1] 0 (fun φ45 => [(9, .bool (decide (((List.getD A i12 Fe.z).k) > ((255 : Nat) : Int)))), (69, .bool (decide (((List.getD A i12 Fe.z).k) > ((255 : Nat) : Int)))), (68, .bool (decide (((List.getD A i12 Fe.z).k) > ((255 : Nat) : Int)))), (67, .int .i64 ((List.getD A i12 Fe.z).k)), (66, .pointer (some ⟨(φ15 0), 0, none⟩))]) (fun φ45 => [((φ7 0), .cells #[.slice a1 A.length c1, .slice a2 D.length c2] 30), ((φ15 0), .cells #[.int .i64 ((List.getD A i12 Fe.z).k), .string ⟨((List.getD A i12 Fe.z).a).toArray⟩, .string ⟨((List.getD A i12 Fe.z).v).toArray⟩] 42)]) (fun φ45 => [(φ15 0)]) s trivial (fun φ45 => by kernel_rfl) ?_
                intro φ45 w45 s
                refine ops_done (by kernel_rfl) ?_
                refine region_rule ?_
                refine ops_rule (C := []) [((φ7 0), .cells #[.slice a1 A.length c1, .slice a2 D.length c2] 30), ((φ15 0), .cells #[.int .i64 ((List.getD A i12 Fe.z).k), .string ⟨((List.getD A i12 Fe.z).a).toArray⟩, .string ⟨((List.getD A i12 Fe.z).v).toArray⟩] 42)] [] 2 [] 0 (fun φ46 => [(42, .int .i64 (IntKind.wrap .i64 (((i12 : Nat) : Int) + ((1 : Nat) : Int)))), (70, .int .i64 (IntKind.wrap .i64 (((i12 : Nat) : Int) + ((1 : Nat) : Int))))]) (fun φ46 => [((φ7 0), .cells #[.slice a1 A.length c1, .slice a2 D.length c2] 30), ((φ15 0), .cells #[.int .i64 ((List.getD A i12 Fe.z).k), .string ⟨((List.getD A i12 Fe.z).a).toArray⟩, .string ⟨((List.getD A i12 Fe.z).v).toArray⟩] 42)]) (fun φ46 => []) s trivial (fun φ46 => by kernel_rfl) ?_
                intro φ46 w46 s
                rw [nat_addI (a := i12) (b := 1) (by have e8 := hi12_0; have hq0 := of_decide_eq_false hc3; have hq1 := of_decide_eq_false hc5; have hq2 := of_decide_eq_true hc14; have hq4 := of_decide_eq_true hc33; have hq6 := of_decide_eq_false hc41; omega)]
                refine ops_done (by kernel_rfl) ?_
                have ha47 : true = (u12 || lgB (List.getD A i12 Fe.z)) := by
                            have hq0 := of_decide_eq_false hc3
                            have hq1 := of_decide_eq_false hc5
                            have hq2 := of_decide_eq_true hc14
                            have hq3 := of_decide_eq_true hc33
                            have hq4 := of_decide_eq_false hc41
                            rw [hc17]
                            unfold lgB
                            rw [Bool.eq_iff_iff]
                            try simp only [Bool.or_eq_true, decide_eq_true_eq, Bool.false_eq_true, false_or, true_iff, false_iff, iff_true, eq_self_iff_true]
                            try omega
                have hb47 : (decide (((List.getD A i12 Fe.z).k) > ((255 : Nat) : Int))) = (v12 || skB (List.getD A i12 Fe.z)) := by
                            have hq0 := of_decide_eq_false hc3
                            have hq1 := of_decide_eq_false hc5
                            have hq2 := of_decide_eq_true hc14
                            have hq3 := of_decide_eq_true hc33
                            have hq4 := of_decide_eq_false hc41
                            rw [hc36]
                            unfold skB
                            rw [Bool.eq_iff_iff]
                            try simp only [Bool.or_eq_true, decide_eq_true_eq, Bool.false_eq_true, false_or, true_iff, false_iff, iff_true, eq_self_iff_true]
                            try omega
                exact ⟨⟨m12 - 1, (i12 + 1, true, (decide (((List.getD A i12 Fe.z).k) > ((255 : Nat) : Int)))), _, _, _, by have hq0 := of_decide_eq_false hc3; have hq1 := of_decide_eq_false hc5; have hq2 := of_decide_eq_true hc14; have hq3 := of_decide_eq_true hc33; have hq4 := of_decide_eq_false hc41; have := hi12_0; omega, rfl, s, (List.Sublist.cons₂ _ (List.Sublist.cons _ List.Sublist.slnil)), by kernel_rfl, hle11, by have hq0 := of_decide_eq_false hc3; have hq1 := of_decide_eq_false hc5; have hq2 := of_decide_eq_true hc14; have hq3 := of_decide_eq_true hc33; have hq4 := of_decide_eq_false hc41; have := hi12_0; show i12 + 1 + (m12 - 1) = A.length; omega, (by rw [any_snocF (by have hq0 := of_decide_eq_false hc3; have hq1 := of_decide_eq_false hc5; have hq2 := of_decide_eq_true hc14; have hq3 := of_decide_eq_true hc33; have hq4 := of_decide_eq_false hc41; have := hi12_0; omega)]; exact flag_next hi12_1 ha47), (by rw [any_snocF (by have hq0 := of_decide_eq_false hc3; have hq1 := of_decide_eq_false hc5; have hq2 := of_decide_eq_true hc14; have hq3 := of_decide_eq_true hc33; have hq4 := of_decide_eq_false hc41; have := hi12_0; omega)]; exact flag_next hi12_2 hb47)⟩⟩
          ·
            rw [hc33]
            refine ops_rule (C := []) [((φ7 0), .cells #[.slice a1 A.length c1, .slice a2 D.length c2] 30), ((φ15 0), .cells #[.int .i64 ((List.getD A i12 Fe.z).k), .string ⟨((List.getD A i12 Fe.z).a).toArray⟩, .string ⟨((List.getD A i12 Fe.z).v).toArray⟩] 42)] [] 6 [.o 1] 0 (fun φ48 => [(8, .bool (decide (((((List.getD A i12 Fe.z).v).length : Nat) : Int) > ((255 : Nat) : Int)))), (58, .bool (decide (((((List.getD A i12 Fe.z).v).length : Nat) : Int) > ((255 : Nat) : Int)))), (57, .bool (decide (((((List.getD A i12 Fe.z).v).length : Nat) : Int) > ((255 : Nat) : Int)))), (56, .int .i64 ((((List.getD A i12 Fe.z).v).length : Nat) : Int)), (55, .string ⟨((List.getD A i12 Fe.z).v).toArray⟩), (54, .pointer (some ⟨(φ15 0), 2, none⟩))]) (fun φ48 => [((φ7 0), .cells #[.slice a1 A.length c1, .slice a2 D.length c2] 30), ((φ15 0), .cells #[.int .i64 ((List.getD A i12 Fe.z).k), .string ⟨((List.getD A i12 Fe.z).a).toArray⟩, .string ⟨((List.getD A i12 Fe.z).v).toArray⟩] 42)]) (fun φ48 => [(φ15 0)]) s trivial (fun φ48 => by kernel_rfl) ?_
            intro φ48 w48 s
            rw [nat_gtr (a := (((List.getD A i12 Fe.z).v).length)) (b := 255)]
            refine ops_done (by kernel_rfl) ?_
            refine region_rule ?_
            refine ops_rule (C := []) [((φ7 0), .cells #[.slice a1 A.length c1, .slice a2 D.length c2] 30), ((φ15 0), .cells #[.int .i64 ((List.getD A i12 Fe.z).k), .string ⟨((List.getD A i12 Fe.z).a).toArray⟩, .string ⟨((List.getD A i12 Fe.z).v).toArray⟩] 42)] [] 2 [] 0 (fun φ49 => [(60, .bool v12), (59, .bool v12)]) (fun φ49 => [((φ7 0), .cells #[.slice a1 A.length c1, .slice a2 D.length c2] 30), ((φ15 0), .cells #[.int .i64 ((List.getD A i12 Fe.z).k), .string ⟨((List.getD A i12 Fe.z).a).toArray⟩, .string ⟨((List.getD A i12 Fe.z).v).toArray⟩] 42)]) (fun φ49 => []) s trivial (fun φ49 => by kernel_rfl) ?_
            intro φ49 w49 s
            rcases Bool.eq_false_or_eq_true (v12) with hc50 | hc50
            ·
              rw [hc50]
              refine ops_rule (C := []) [((φ7 0), .cells #[.slice a1 A.length c1, .slice a2 D.length c2] 30), ((φ15 0), .cells #[.int .i64 ((List.getD A i12 Fe.z).k), .string ⟨((List.getD A i12 Fe.z).a).toArray⟩, .string ⟨((List.getD A i12 Fe.z).v).toArray⟩] 42)] [] 10 [] 0 (fun φ51 => [(9, .bool true), (69, .bool true), (68, undef), (67, undef), (66, undef), (65, .bool true), (64, .bool true), (63, undef), (62, undef), (61, undef)]) (fun φ51 => [((φ7 0), .cells #[.slice a1 A.length c1, .slice a2 D.length c2] 30), ((φ15 0), .cells #[.int .i64 ((List.getD A i12 Fe.z).k), .string ⟨((List.getD A i12 Fe.z).a).toArray⟩, .string ⟨((List.getD A i12 Fe.z).v).toArray⟩] 42)]) (fun φ51 => []) s trivial (fun φ51 => by kernel_rfl) ?_
              intro φ51 w51 s
              refine ops_done (by kernel_rfl) ?_
              refine region_rule ?_
              refine ops_rule (C := []) [((φ7 0), .cells #[.slice a1 A.length c1, .slice a2 D.length c2] 30), ((φ15 0), .cells #[.int .i64 ((List.getD A i12 Fe.z).k), .string ⟨((List.getD A i12 Fe.z).a).toArray⟩, .string ⟨((List.getD A i12 Fe.z).v).toArray⟩] 42)] [] 2 [] 0 (fun φ52 => [(42, .int .i64 (IntKind.wrap .i64 (((i12 : Nat) : Int) + ((1 : Nat) : Int)))), (70, .int .i64 (IntKind.wrap .i64 (((i12 : Nat) : Int) + ((1 : Nat) : Int))))]) (fun φ52 => [((φ7 0), .cells #[.slice a1 A.length c1, .slice a2 D.length c2] 30), ((φ15 0), .cells #[.int .i64 ((List.getD A i12 Fe.z).k), .string ⟨((List.getD A i12 Fe.z).a).toArray⟩, .string ⟨((List.getD A i12 Fe.z).v).toArray⟩] 42)]) (fun φ52 => []) s trivial (fun φ52 => by kernel_rfl) ?_
              intro φ52 w52 s
              rw [nat_addI (a := i12) (b := 1) (by have e8 := hi12_0; have hq0 := of_decide_eq_false hc3; have hq1 := of_decide_eq_false hc5; have hq2 := of_decide_eq_true hc14; have hq4 := of_decide_eq_false hc33; omega)]
              refine ops_done (by kernel_rfl) ?_
              have ha53 : (decide (255 < (((List.getD A i12 Fe.z).v).length))) = (u12 || lgB (List.getD A i12 Fe.z)) := by
                          have hq0 := of_decide_eq_false hc3
                          have hq1 := of_decide_eq_false hc5
                          have hq2 := of_decide_eq_true hc14
                          have hq3 := of_decide_eq_false hc33
                          rw [hc17]
                          unfold lgB
                          rw [Bool.eq_iff_iff]
                          try simp only [Bool.or_eq_true, decide_eq_true_eq, Bool.false_eq_true, false_or, true_iff, false_iff, iff_true, eq_self_iff_true]
                          try omega
              have hb53 : true = (v12 || skB (List.getD A i12 Fe.z)) := by
                          rw [hc50]; rfl
              exact ⟨⟨m12 - 1, (i12 + 1, (decide (255 < (((List.getD A i12 Fe.z).v).length))), true), _, _, _, by have hq0 := of_decide_eq_false hc3; have hq1 := of_decide_eq_false hc5; have hq2 := of_decide_eq_true hc14; have hq3 := of_decide_eq_false hc33; have := hi12_0; omega, rfl, s, (List.Sublist.cons₂ _ (List.Sublist.cons _ List.Sublist.slnil)), by kernel_rfl, hle11, by have hq0 := of_decide_eq_false hc3; have hq1 := of_decide_eq_false hc5; have hq2 := of_decide_eq_true hc14; have hq3 := of_decide_eq_false hc33; have := hi12_0; show i12 + 1 + (m12 - 1) = A.length; omega, (by rw [any_snocF (by have hq0 := of_decide_eq_false hc3; have hq1 := of_decide_eq_false hc5; have hq2 := of_decide_eq_true hc14; have hq3 := of_decide_eq_false hc33; have := hi12_0; omega)]; exact flag_next hi12_1 ha53), (by rw [any_snocF (by have hq0 := of_decide_eq_false hc3; have hq1 := of_decide_eq_false hc5; have hq2 := of_decide_eq_true hc14; have hq3 := of_decide_eq_false hc33; have := hi12_0; omega)]; exact flag_next hi12_2 hb53)⟩⟩
            ·
              rw [hc50]
              refine ops_rule (C := []) [((φ7 0), .cells #[.slice a1 A.length c1, .slice a2 D.length c2] 30), ((φ15 0), .cells #[.int .i64 ((List.getD A i12 Fe.z).k), .string ⟨((List.getD A i12 Fe.z).a).toArray⟩, .string ⟨((List.getD A i12 Fe.z).v).toArray⟩] 42)] [] 5 [.o 1] 0 (fun φ54 => [(65, .bool (decide (((List.getD A i12 Fe.z).k) < ((0 : Nat) : Int)))), (64, .bool (decide (((List.getD A i12 Fe.z).k) < ((0 : Nat) : Int)))), (63, .bool (decide (((List.getD A i12 Fe.z).k) < ((0 : Nat) : Int)))), (62, .int .i64 ((List.getD A i12 Fe.z).k)), (61, .pointer (some ⟨(φ15 0), 0, none⟩))]) (fun φ54 => [((φ7 0), .cells #[.slice a1 A.length c1, .slice a2 D.length c2] 30), ((φ15 0), .cells #[.int .i64 ((List.getD A i12 Fe.z).k), .string ⟨((List.getD A i12 Fe.z).a).toArray⟩, .string ⟨((List.getD A i12 Fe.z).v).toArray⟩] 42)]) (fun φ54 => [(φ15 0)]) s trivial (fun φ54 => by kernel_rfl) ?_
              intro φ54 w54 s
              rcases Bool.eq_false_or_eq_true (decide (((List.getD A i12 Fe.z).k) < ((0 : Nat) : Int))) with hc55 | hc55
              ·
                rw [hc55]
                refine ops_rule (C := []) [((φ7 0), .cells #[.slice a1 A.length c1, .slice a2 D.length c2] 30), ((φ15 0), .cells #[.int .i64 ((List.getD A i12 Fe.z).k), .string ⟨((List.getD A i12 Fe.z).a).toArray⟩, .string ⟨((List.getD A i12 Fe.z).v).toArray⟩] 42)] [] 5 [] 0 (fun φ56 => [(9, .bool true), (69, .bool true), (68, undef), (67, undef), (66, undef)]) (fun φ56 => [((φ7 0), .cells #[.slice a1 A.length c1, .slice a2 D.length c2] 30), ((φ15 0), .cells #[.int .i64 ((List.getD A i12 Fe.z).k), .string ⟨((List.getD A i12 Fe.z).a).toArray⟩, .string ⟨((List.getD A i12 Fe.z).v).toArray⟩] 42)]) (fun φ56 => []) s trivial (fun φ56 => by kernel_rfl) ?_
                intro φ56 w56 s
                refine ops_done (by kernel_rfl) ?_
                refine region_rule ?_
                refine ops_rule (C := []) [((φ7 0), .cells #[.slice a1 A.length c1, .slice a2 D.length c2] 30), ((φ15 0), .cells #[.int .i64 ((List.getD A i12 Fe.z).k), .string ⟨((List.getD A i12 Fe.z).a).toArray⟩, .string ⟨((List.getD A i12 Fe.z).v).toArray⟩] 42)] [] 2 [] 0 (fun φ57 => [(42, .int .i64 (IntKind.wrap .i64 (((i12 : Nat) : Int) + ((1 : Nat) : Int)))), (70, .int .i64 (IntKind.wrap .i64 (((i12 : Nat) : Int) + ((1 : Nat) : Int))))]) (fun φ57 => [((φ7 0), .cells #[.slice a1 A.length c1, .slice a2 D.length c2] 30), ((φ15 0), .cells #[.int .i64 ((List.getD A i12 Fe.z).k), .string ⟨((List.getD A i12 Fe.z).a).toArray⟩, .string ⟨((List.getD A i12 Fe.z).v).toArray⟩] 42)]) (fun φ57 => []) s trivial (fun φ57 => by kernel_rfl) ?_
                intro φ57 w57 s
                rw [nat_addI (a := i12) (b := 1) (by have e8 := hi12_0; have hq0 := of_decide_eq_false hc3; have hq1 := of_decide_eq_false hc5; have hq2 := of_decide_eq_true hc14; have hq4 := of_decide_eq_false hc33; have hq6 := of_decide_eq_true hc55; omega)]
                refine ops_done (by kernel_rfl) ?_
                have ha58 : (decide (255 < (((List.getD A i12 Fe.z).v).length))) = (u12 || lgB (List.getD A i12 Fe.z)) := by
                            have hq0 := of_decide_eq_false hc3
                            have hq1 := of_decide_eq_false hc5
                            have hq2 := of_decide_eq_true hc14
                            have hq3 := of_decide_eq_false hc33
                            have hq4 := of_decide_eq_true hc55
                            rw [hc17]
                            unfold lgB
                            rw [Bool.eq_iff_iff]
                            try simp only [Bool.or_eq_true, decide_eq_true_eq, Bool.false_eq_true, false_or, true_iff, false_iff, iff_true, eq_self_iff_true]
                            try omega
                have hb58 : true = (v12 || skB (List.getD A i12 Fe.z)) := by
                            have hq0 := of_decide_eq_false hc3
                            have hq1 := of_decide_eq_false hc5
                            have hq2 := of_decide_eq_true hc14
                            have hq3 := of_decide_eq_false hc33
                            have hq4 := of_decide_eq_true hc55
                            rw [hc50]
                            unfold skB
                            rw [Bool.eq_iff_iff]
                            try simp only [Bool.or_eq_true, decide_eq_true_eq, Bool.false_eq_true, false_or, true_iff, false_iff, iff_true, eq_self_iff_true]
                            try omega
                exact ⟨⟨m12 - 1, (i12 + 1, (decide (255 < (((List.getD A i12 Fe.z).v).length))), true), _, _, _, by have hq0 := of_decide_eq_false hc3; have hq1 := of_decide_eq_false hc5; have hq2 := of_decide_eq_true hc14; have hq3 := of_decide_eq_false hc33; have hq4 := of_decide_eq_true hc55; have := hi12_0; omega, rfl, s, (List.Sublist.cons₂ _ (List.Sublist.cons _ List.Sublist.slnil)), by kernel_rfl, hle11, by have hq0 := of_decide_eq_false hc3; have hq1 := of_decide_eq_false hc5; have hq2 := of_decide_eq_true hc14; have hq3 := of_decide_eq_false hc33; have hq4 := of_decide_eq_true hc55; have := hi12_0; show i12 + 1 + (m12 - 1) = A.length; omega, (by rw [any_snocF (by have hq0 := of_decide_eq_false hc3; have hq1 := of_decide_eq_false hc5; have hq2 := of_decide_eq_true hc14; have hq3 := of_decide_eq_false hc33; have hq4 := of_decide_eq_true hc55; have := hi12_0; omega)]; exact flag_next hi12_1 ha58), (by rw [any_snocF (by have hq0 := of_decide_eq_false hc3; have hq1 := of_decide_eq_false hc5; have hq2 := of_decide_eq_true hc14; have hq3 := of_decide_eq_false hc33; have hq4 := of_decide_eq_true hc55; have := hi12_0; omega)]; exact flag_next hi12_2 hb58)⟩⟩
              ·
                rw [hc55]
                refine ops_rule (C := []) [((φ7 0), .cells #[.slice a1 A.length c1, .slice a2 D.length c2] 30), ((φ15 0), .cells #[.int .i64 ((List.getD A i12 Fe.z).k), .string ⟨((List.getD A i12 Fe.z).a).toArray⟩, .string ⟨((List.getD A i12 Fe.z).v).toArray⟩] 42)] [] 5 [.o 1] 0 (fun φ59 => [(9, .bool (decide (((List.getD A i12 Fe.z).k) > ((255 : Nat) : Int)))), (69, .bool (decide (((List.getD A i12 Fe.z).k) > ((255 : Nat) : Int)))), (68, .bool (decide (((List.getD A i12 Fe.z).k) > ((255 : Nat) : Int)))), (67, .int .i64 ((List.getD A i12 Fe.z).k)), (66, .pointer (some ⟨(φ15 0), 0, none⟩))]) (fun φ59 => [((φ7 0), .cells #[.slice a1 A.length c1, .slice a2 D.length c2] 30), ((φ15 0), .cells #[.int .i64 ((List.getD A i12 Fe.z).k), .string ⟨((List.getD A i12 Fe.z).a).toArray⟩, .string ⟨((List.getD A i12 Fe.z).v).toArray⟩] 42)]) (fun φ59 => [(φ15 0)]) s trivial (fun φ59 => by kernel_rfl) ?_
                intro φ59 w59 s
                refine ops_done (by kernel_rfl) ?_
                refine region_rule ?_
                refine ops_rule (C := []) [((φ7 0), .cells #[.slice a1 A.length c1, .slice a2 D.length c2] 30), ((φ15 0), .cells #[.int .i64 ((List.getD A i12 Fe.z).k), .string ⟨((List.getD A i12 Fe.z).a).toArray⟩, .string ⟨((List.getD A i12 Fe.z).v).toArray⟩] 42)] [] 2 [] 0 (fun φ60 => [(42, .int .i64 (IntKind.wrap .i64 (((i12 : Nat) : Int) + ((1 : Nat) : Int)))), (70, .int .i64 (IntKind.wrap .i64 (((i12 : Nat) : Int) + ((1 : Nat) : Int))))]) (fun φ60 => [((φ7 0), .cells #[.slice a1 A.length c1, .slice a2 D.length c2] 30), ((φ15 0), .cells #[.int .i64 ((List.getD A i12 Fe.z).k), .string ⟨((List.getD A i12 Fe.z).a).toArray⟩, .string ⟨((List.getD A i12 Fe.z).v).toArray⟩] 42)]) (fun φ60 => []) s trivial (fun φ60 => by kernel_rfl) ?_
                intro φ60 w60 s
                rw [nat_addI (a := i12) (b := 1) (by have e8 := hi12_0; have hq0 := of_decide_eq_false hc3; have hq1 := of_decide_eq_false hc5; have hq2 := of_decide_eq_true hc14; have hq4 := of_decide_eq_false hc33; have hq6 := of_decide_eq_false hc55; omega)]
                refine ops_done (by kernel_rfl) ?_
                have ha61 : (decide (255 < (((List.getD A i12 Fe.z).v).length))) = (u12 || lgB (List.getD A i12 Fe.z)) := by
                            have hq0 := of_decide_eq_false hc3
                            have hq1 := of_decide_eq_false hc5
                            have hq2 := of_decide_eq_true hc14
                            have hq3 := of_decide_eq_false hc33
                            have hq4 := of_decide_eq_false hc55
                            rw [hc17]
                            unfold lgB
                            rw [Bool.eq_iff_iff]
                            try simp only [Bool.or_eq_true, decide_eq_true_eq, Bool.false_eq_true, false_or, true_iff, false_iff, iff_true, eq_self_iff_true]
                            try omega
                have hb61 : (decide (((List.getD A i12 Fe.z).k) > ((255 : Nat) : Int))) = (v12 || skB (List.getD A i12 Fe.z)) := by
                            have hq0 := of_decide_eq_false hc3
                            have hq1 := of_decide_eq_false hc5
                            have hq2 := of_decide_eq_true hc14
                            have hq3 := of_decide_eq_false hc33
                            have hq4 := of_decide_eq_false hc55
                            rw [hc50]
                            unfold skB
                            rw [Bool.eq_iff_iff]
                            try simp only [Bool.or_eq_true, decide_eq_true_eq, Bool.false_eq_true, false_or, true_iff, false_iff, iff_true, eq_self_iff_true]
                            try omega
                exact ⟨⟨m12 - 1, (i12 + 1, (decide (255 < (((List.getD A i12 Fe.z).v).length))), (decide (((List.getD A i12 Fe.z).k) > ((255 : Nat) : Int)))), _, _, _, by have hq0 := of_decide_eq_false hc3; have hq1 := of_decide_eq_false hc5; have hq2 := of_decide_eq_true hc14; have hq3 := of_decide_eq_false hc33; have hq4 := of_decide_eq_false hc55; have := hi12_0; omega, rfl, s, (List.Sublist.cons₂ _ (List.Sublist.cons _ List.Sublist.slnil)), by kernel_rfl, hle11, by have hq0 := of_decide_eq_false hc3; have hq1 := of_decide_eq_false hc5; have hq2 := of_decide_eq_true hc14; have hq3 := of_decide_eq_false hc33; have hq4 := of_decide_eq_false hc55; have := hi12_0; show i12 + 1 + (m12 - 1) = A.length; omega, (by rw [any_snocF (by have hq0 := of_decide_eq_false hc3; have hq1 := of_decide_eq_false hc5; have hq2 := of_decide_eq_true hc14; have hq3 := of_decide_eq_false hc33; have hq4 := of_decide_eq_false hc55; have := hi12_0; omega)]; exact flag_next hi12_1 ha61), (by rw [any_snocF (by have hq0 := of_decide_eq_false hc3; have hq1 := of_decide_eq_false hc5; have hq2 := of_decide_eq_true hc14; have hq3 := of_decide_eq_false hc33; have hq4 := of_decide_eq_false hc55; have := hi12_0; omega)]; exact flag_next hi12_2 hb61)⟩⟩
      ·
        rw [hc14]
        refine cond_false_rule (b := false) (by kernel_rfl) rfl ?_
        refine wp_exit ?_
        have ei62 : A.take i12 = A := List.take_of_length_le (by have hq0 := of_decide_eq_false hc3; have hq1 := of_decide_eq_false hc5; have hq2 := of_decide_eq_false hc14; have := hi12_0; omega)
        have hf862 := hi12_1
        have hf962 := hi12_2
        rw [ei62] at hf862 hf962
        refine region_rule ?_
        refine ops_rule (C := []) [((φ7 0), .cells #[.slice a1 A.length c1, .slice a2 D.length c2] 30)] [] 2 [] 0 (fun φ63 => [(36, .int .i64 1), (71, .int .i64 1)]) (fun φ63 => [((φ7 0), .cells #[.slice a1 A.length c1, .slice a2 D.length c2] 30)]) (fun φ63 => []) s trivial (fun φ63 => by kernel_rfl) ?_
        intro φ63 w63 s
        refine ops_done (by kernel_rfl) ?_
        refine rounds_step (n := 1) ?_
        refine wp_seq ?_
        refine region_rule ?_
        refine ops_rule (C := []) [((φ7 0), .cells #[.slice a1 A.length c1, .slice a2 D.length c2] 30)] [] 1 [] 0 (fun φ64 => [(37, .bool true)]) (fun φ64 => [((φ7 0), .cells #[.slice a1 A.length c1, .slice a2 D.length c2] 30)]) (fun φ64 => []) s trivial (fun φ64 => by kernel_rfl) ?_
        intro φ64 w64 s
        refine ops_done (by kernel_rfl) ?_
        refine wp_seq ?_
        refine cond_true_rule (b := true) (by kernel_rfl) rfl ?_
        refine wp_skip ?_
        refine wp_seq ?_
        refine wp_block ?_
        refine wp_seq ?_
        refine region_rule ?_
        refine ops_rule (C := []) [((φ7 0), .cells #[.slice a1 A.length c1, .slice a2 D.length c2] 30)] [] 3 [.o 0] 0 (fun φ65 => [(11, .slice a2 D.length c2), (39, .slice a2 D.length c2), (38, .pointer (some ⟨(φ7 0), 1, none⟩))]) (fun φ65 => [((φ7 0), .cells #[.slice a1 A.length c1, .slice a2 D.length c2] 30)]) (fun φ65 => [(φ7 0)]) s trivial (fun φ65 => by kernel_rfl) ?_
        intro φ65 w65 s
        refine ops_done (by kernel_rfl) ?_
        refine wp_seq ?_
        refine region_rule ?_
        refine ops_rule (C := []) [((φ7 0), .cells #[.slice a1 A.length c1, .slice a2 D.length c2] 30)] [] 3 [] 0 (fun φ66 => [(42, .int .i64 0), (41, .int .i64 ((D.length : Nat) : Int)), (40, .slice a2 D.length c2)]) (fun φ66 => [((φ7 0), .cells #[.slice a1 A.length c1, .slice a2 D.length c2] 30)]) (fun φ66 => []) s trivial (fun φ66 => by kernel_rfl) ?_
        intro φ66 w66 s
        refine ops_done (by kernel_rfl) ?_
        refine wp_block ?_
        have hle67 := IM.Le.refl I12
        refine loop_rule (fun (x : Nat × Bool × Bool) => [(0, .slice a1 A.length c1), (1, .slice a2 D.length c2), (2, .slice a3 K.length c3), (6, .slice none 0 0), (7, .int .i64 0), (32, .slice a1 A.length c1), (33, .slice a2 D.length c2), (34, .slice (some ⟨(φ7 0), 0, none⟩) 2 2), (35, .int .i64 2), (36, .int .i64 1), (11, .slice a2 D.length c2), (40, .slice a2 D.length c2), (41, .int .i64 ((D.length : Nat) : Int)), (42, .int .i64 ((x.1 : Nat) : Int)), (8, .bool x.2.1), (9, .bool x.2.2)]) (fun (x : Nat × Bool × Bool) => [((φ7 0), .cells #[.slice a1 A.length c1, .slice a2 D.length c2] 30)]) (fun m (x : Nat × Bool × Bool) J => IM.Le I12 J ∧ x.1 + m = D.length ∧ x.2.1 = (A.any lgB || ((D.take x.1).any lgB)) ∧ x.2.2 = (A.any skB || ((D.take x.1).any skB))) (D.length) (0, u12, v12) s (by kernel_rfl) (List.Sublist.cons₂ _ List.Sublist.slnil) ⟨IM.Le.refl _, Nat.zero_add _, (by rw [hf862, List.take_zero]; simp), (by rw [hf962, List.take_zero]; simp)⟩ ?_
        rintro m68 ⟨i68, u68, v68⟩ I68 w68 ev68 s ⟨le68, hi68_0, hi68_1, hi68_2⟩
        try dsimp only at s hi68_0 hi68_1 hi68_2 ⊢
        replace hA := FSl.mono le68 hA
        replace hD := FSl.mono le68 hD
        replace hK := ISl.mono le68 hK
        replace hle11 := leMono le68 hle11
        replace hle67 := leMono le68 hle67
        refine wp_seq ?_
        refine region_rule ?_
        refine ops_rule (C := []) [((φ7 0), .cells #[.slice a1 A.length c1, .slice a2 D.length c2] 30)] [] 1 [] 0 (fun φ69 => [(43, .bool (decide (((i68 : Nat) : Int) < ((D.length : Nat) : Int))))]) (fun φ69 => [((φ7 0), .cells #[.slice a1 A.length c1, .slice a2 D.length c2] 30)]) (fun φ69 => []) s trivial (fun φ69 => by kernel_rfl) ?_
        intro φ69 w69 s
        rw [nat_lss (a := i68) (b := D.length)]
        refine ops_done (by kernel_rfl) ?_
        refine wp_seq ?_
        rcases Bool.eq_false_or_eq_true (decide (i68 < D.length)) with hc70 | hc70
        ·
          rw [hc70]
          refine cond_true_rule (b := true) (by kernel_rfl) rfl ?_
          refine wp_skip ?_
          refine wp_seq ?_
          refine wp_block ?_
          refine wp_seq ?_
          refine region_rule ?_
          refine sem_rule (Instr.indexAt 30 (.slice a2 D.length c2) (.int .i64 ((i68 : Nat) : Int))) (some 44) (.pointer (pAt a2 (i68 * 3))) (by kernel_rfl) (fsl_idx30 hD (by have e8 := hi68_0; have hq0 := of_decide_eq_false hc3; have hq1 := of_decide_eq_false hc5; have hq2 := of_decide_eq_false hc14; have hq3 := of_decide_eq_true hc70; omega)) ?_
          refine sem_rule (Instr.loadAt 42 (.pointer (pAt a2 (i68 * 3)))) (some 45) (.agg #[.int .i64 ((List.getD D i68 Fe.z).k), .string ⟨((List.getD D i68 Fe.z).a).toArray⟩, .string ⟨((List.getD D i68 Fe.z).v).toArray⟩]) (by kernel_rfl) (fsl_ld42 s.sub hD (by have e8 := hi68_0; have hq0 := of_decide_eq_false hc3; have hq1 := of_decide_eq_false hc5; have hq2 := of_decide_eq_false hc14; have hq3 := of_decide_eq_true hc70; omega)) ?_
          refine ops_rule (C := []) [((φ7 0), .cells #[.slice a1 A.length c1, .slice a2 D.length c2] 30)] [] 2 [.o 1, .o 1, .o 1] 1 (fun φ71 => [(13, .pointer (some ⟨(φ71 0), 0, none⟩))]) (fun φ71 => [((φ7 0), .cells #[.slice a1 A.length c1, .slice a2 D.length c2] 30), ((φ71 0), .cells #[.int .i64 ((List.getD D i68 Fe.z).k), .string ⟨((List.getD D i68 Fe.z).a).toArray⟩, .string ⟨((List.getD D i68 Fe.z).v).toArray⟩] 42)]) (fun φ71 => [(φ71 0), (φ71 0), (φ71 0)]) s trivial (fun φ71 => by kernel_rfl) ?_
          intro φ71 w71 s
          refine ops_done (by kernel_rfl) ?_
          refine wp_seq ?_
          refine region_rule ?_
          refine ops_rule (C := []) [((φ7 0), .cells #[.slice a1 A.length c1, .slice a2 D.length c2] 30), ((φ71 0), .cells #[.int .i64 ((List.getD D i68 Fe.z).k), .string ⟨((List.getD D i68 Fe.z).a).toArray⟩, .string ⟨((List.getD D i68 Fe.z).v).toArray⟩] 42)] [] 2 [] 0 (fun φ72 => [(47, .bool u68), (46, .bool u68)]) (fun φ72 => [((φ7 0), .cells #[.slice a1 A.length c1, .slice a2 D.length c2] 30), ((φ71 0), .cells #[.int .i64 ((List.getD D i68 Fe.z).k), .string ⟨((List.getD D i68 Fe.z).a).toArray⟩, .string ⟨((List.getD D i68 Fe.z).v).toArray⟩] 42)]) (fun φ72 => []) s trivial (fun φ72 => by kernel_rfl) ?_
          intro φ72 w72 s
          rcases Bool.eq_false_or_eq_true (u68) with hc73 | hc73
          ·
            rw [hc73]
            refine ops_rule (C := []) [((φ7 0), .cells #[.slice a1 A.length c1, .slice a2 D.length c2] 30), ((φ71 0), .cells #[.int .i64 ((List.getD D i68 Fe.z).k), .string ⟨((List.getD D i68 Fe.z).a).toArray⟩, .string ⟨((List.getD D i68 Fe.z).v).toArray⟩] 42)] [] 12 [] 0 (fun φ74 => [(8, .bool true), (58, .bool true), (57, undef), (56, undef), (55, undef), (54, undef), (53, .bool true), (52, .bool true), (51, undef), (50, undef), (49, undef), (48, undef)]) (fun φ74 => [((φ7 0), .cells #[.slice a1 A.length c1, .slice a2 D.length c2] 30), ((φ71 0), .cells #[.int .i64 ((List.getD D i68 Fe.z).k), .string ⟨((List.getD D i68 Fe.z).a).toArray⟩, .string ⟨((List.getD D i68 Fe.z).v).toArray⟩] 42)]) (fun φ74 => []) s trivial (fun φ74 => by kernel_rfl) ?_
            intro φ74 w74 s
            refine ops_done (by kernel_rfl) ?_
            refine region_rule ?_
            refine ops_rule (C := []) [((φ7 0), .cells #[.slice a1 A.length c1, .slice a2 D.length c2] 30), ((φ71 0), .cells #[.int .i64 ((List.getD D i68 Fe.z).k), .string ⟨((List.getD D i68 Fe.z).a).toArray⟩, .string ⟨((List.getD D i68 Fe.z).v).toArray⟩] 42)] [] 2 [] 0 (fun φ75 => [(60, .bool v68), (59, .bool v68)]) (fun φ75 => [((φ7 0), .cells #[.slice a1 A.length c1, .slice a2 D.length c2] 30), ((φ71 0), .cells #[.int .i64 ((List.getD D i68 Fe.z).k), .string ⟨((List.getD D i68 Fe.z).a).toArray⟩, .string ⟨((List.getD D i68 Fe.z).v).toArray⟩] 42)]) (fun φ75 => []) s trivial (fun φ75 => by kernel_rfl) ?_
            intro φ75 w75 s
            rcases Bool.eq_false_or_eq_true (v68) with hc76 | hc76
            ·
              rw [hc76]
              refine ops_rule (C := []) [((φ7 0), .cells #[.slice a1 A.length c1, .slice a2 D.length c2] 30), ((φ71 0), .cells #[.int .i64 ((List.getD D i68 Fe.z).k), .string ⟨((List.getD D i68 Fe.z).a).toArray⟩, .string ⟨((List.getD D i68 Fe.z).v).toArray⟩] 42)] [] 10 [] 0 (fun φ77 => [(9, .bool true), (69, .bool true), (68, undef), (67, undef), (66, undef), (65, .bool true), (64, .bool true), (63, undef), (62, undef), (61, undef)]) (fun φ77 => [((φ7 0), .cells #[.slice a1 A.length c1, .slice a2 D.length c2] 30), ((φ71 0), .cells #[.int .i64 ((List.getD D i68 Fe.z).k), .string ⟨((List.getD D i68 Fe.z).a).toArray⟩, .string ⟨((List.getD D i68 Fe.z).v).toArray⟩] 42)]) (fun φ77 => []) s trivial (fun φ77 => by kernel_rfl) ?_
              intro φ77 w77 s
              refine ops_done (by kernel_rfl) ?_
              refine region_rule ?_
              refine ops_rule (C := []) [((φ7 0), .cells #[.slice a1 A.length c1, .slice a2 D.length c2] 30), ((φ71 0), .cells #[.int .i64 ((List.getD D i68 Fe.z).k), .string ⟨((List.getD D i68 Fe.z).a).toArray⟩, .string ⟨((List.getD D i68 Fe.z).v).toArray⟩] 42)] [] 2 [] 0 (fun φ78 => [(42, .int .i64 (IntKind.wrap .i64 (((i68 : Nat) : Int) + ((1 : Nat) : Int)))), (70, .int .i64 (IntKind.wrap .i64 (((i68 : Nat) : Int) + ((1 : Nat) : Int))))]) (fun φ78 => [((φ7 0), .cells #[.slice a1 A.length c1, .slice a2 D.length c2] 30), ((φ71 0), .cells #[.int .i64 ((List.getD D i68 Fe.z).k), .string ⟨((List.getD D i68 Fe.z).a).toArray⟩, .string ⟨((List.getD D i68 Fe.z).v).toArray⟩] 42)]) (fun φ78 => []) s trivial (fun φ78 => by kernel_rfl) ?_
              intro φ78 w78 s
              rw [nat_addI (a := i68) (b := 1) (by have e8 := hi68_0; have hq0 := of_decide_eq_false hc3; have hq1 := of_decide_eq_false hc5; have hq2 := of_decide_eq_false hc14; have hq3 := of_decide_eq_true hc70; omega)]
              refine ops_done (by kernel_rfl) ?_
              have ha79 : true = (u68 || lgB (List.getD D i68 Fe.z)) := by
                          rw [hc73]; rfl
              have hb79 : true = (v68 || skB (List.getD D i68 Fe.z)) := by
                          rw [hc76]; rfl
              exact ⟨⟨m68 - 1, (i68 + 1, true, true), _, _, _, by have hq0 := of_decide_eq_false hc3; have hq1 := of_decide_eq_false hc5; have hq2 := of_decide_eq_false hc14; have hq3 := of_decide_eq_true hc70; have := hi68_0; omega, rfl, s, (List.Sublist.cons₂ _ (List.Sublist.cons _ List.Sublist.slnil)), by kernel_rfl, hle67, by have hq0 := of_decide_eq_false hc3; have hq1 := of_decide_eq_false hc5; have hq2 := of_decide_eq_false hc14; have hq3 := of_decide_eq_true hc70; have := hi68_0; show i68 + 1 + (m68 - 1) = D.length; omega, (by rw [any_snocF (by have hq0 := of_decide_eq_false hc3; have hq1 := of_decide_eq_false hc5; have hq2 := of_decide_eq_false hc14; have hq3 := of_decide_eq_true hc70; have := hi68_0; omega)]; exact flag_next hi68_1 ha79), (by rw [any_snocF (by have hq0 := of_decide_eq_false hc3; have hq1 := of_decide_eq_false hc5; have hq2 := of_decide_eq_false hc14; have hq3 := of_decide_eq_true hc70; have := hi68_0; omega)]; exact flag_next hi68_2 hb79)⟩⟩
            ·
              rw [hc76]
              refine ops_rule (C := []) [((φ7 0), .cells #[.slice a1 A.length c1, .slice a2 D.length c2] 30), ((φ71 0), .cells #[.int .i64 ((List.getD D i68 Fe.z).k), .string ⟨((List.getD D i68 Fe.z).a).toArray⟩, .string ⟨((List.getD D i68 Fe.z).v).toArray⟩] 42)] [] 5 [.o 1] 0 (fun φ80 => [(65, .bool (decide (((List.getD D i68 Fe.z).k) < ((0 : Nat) : Int)))), (64, .bool (decide (((List.getD D i68 Fe.z).k) < ((0 : Nat) : Int)))), (63, .bool (decide (((List.getD D i68 Fe.z).k) < ((0 : Nat) : Int)))), (62, .int .i64 ((List.getD D i68 Fe.z).k)), (61, .pointer (some ⟨(φ71 0), 0, none⟩))]) (fun φ80 => [((φ7 0), .cells #[.slice a1 A.length c1, .slice a2 D.length c2] 30), ((φ71 0), .cells #[.int .i64 ((List.getD D i68 Fe.z).k), .string ⟨((List.getD D i68 Fe.z).a).toArray⟩, .string ⟨((List.getD D i68 Fe.z).v).toArray⟩] 42)]) (fun φ80 => [(φ71 0)]) s trivial (fun φ80 => by kernel_rfl) ?_
              intro φ80 w80 s
              rcases Bool.eq_false_or_eq_true (decide (((List.getD D i68 Fe.z).k) < ((0 : Nat) : Int))) with hc81 | hc81
              ·
                rw [hc81]
                refine ops_rule (C := []) [((φ7 0), .cells #[.slice a1 A.length c1, .slice a2 D.length c2] 30), ((φ71 0), .cells #[.int .i64 ((List.getD D i68 Fe.z).k), .string ⟨((List.getD D i68 Fe.z).a).toArray⟩, .string ⟨((List.getD D i68 Fe.z).v).toArray⟩] 42)] [] 5 [] 0 (fun φ82 => [(9, .bool true), (69, .bool true), (68, undef), (67, undef), (66, undef)]) (fun φ82 => [((φ7 0), .cells #[.slice a1 A.length c1, .slice a2 D.length c2] 30), ((φ71 0), .cells #[.int .i64 ((List.getD D i68 Fe.z).k), .string ⟨((List.getD D i68 Fe.z).a).toArray⟩, .string ⟨((List.getD D i68 Fe.z).v).toArray⟩] 42)]) (fun φ82 => []) s trivial (fun φ82 => by kernel_rfl) ?_
                intro φ82 w82 s
                refine ops_done (by kernel_rfl) ?_
                refine region_rule ?_
                refine ops_rule (C := []) [((φ7 0), .cells #[.slice a1 A.length c1, .slice a2 D.length c2] 30), ((φ71 0), .cells #[.int .i64 ((List.getD D i68 Fe.z).k), .string ⟨((List.getD D i68 Fe.z).a).toArray⟩, .string ⟨((List.getD D i68 Fe.z).v).toArray⟩] 42)] [] 2 [] 0 (fun φ83 => [(42, .int .i64 (IntKind.wrap .i64 (((i68 : Nat) : Int) + ((1 : Nat) : Int)))), (70, .int .i64 (IntKind.wrap .i64 (((i68 : Nat) : Int) + ((1 : Nat) : Int))))]) (fun φ83 => [((φ7 0), .cells #[.slice a1 A.length c1, .slice a2 D.length c2] 30), ((φ71 0), .cells #[.int .i64 ((List.getD D i68 Fe.z).k), .string ⟨((List.getD D i68 Fe.z).a).toArray⟩, .string ⟨((List.getD D i68 Fe.z).v).toArray⟩] 42)]) (fun φ83 => []) s trivial (fun φ83 => by kernel_rfl) ?_
                intro φ83 w83 s
                rw [nat_addI (a := i68) (b := 1) (by have e8 := hi68_0; have hq0 := of_decide_eq_false hc3; have hq1 := of_decide_eq_false hc5; have hq2 := of_decide_eq_false hc14; have hq3 := of_decide_eq_true hc70; have hq6 := of_decide_eq_true hc81; omega)]
                refine ops_done (by kernel_rfl) ?_
                have ha84 : true = (u68 || lgB (List.getD D i68 Fe.z)) := by
                            rw [hc73]; rfl
                have hb84 : true = (v68 || skB (List.getD D i68 Fe.z)) := by
                            have hq0 := of_decide_eq_false hc3
                            have hq1 := of_decide_eq_false hc5
                            have hq2 := of_decide_eq_false hc14
                            have hq3 := of_decide_eq_true hc70
                            have hq4 := of_decide_eq_true hc81
                            rw [hc76]
                            unfold skB
                            rw [Bool.eq_iff_iff]
                            try simp only [Bool.or_eq_true, decide_eq_true_eq, Bool.false_eq_true, false_or, true_iff, false_iff, iff_true, eq_self_iff_true]
                            try omega
                exact ⟨⟨m68 - 1, (i68 + 1, true, true), _, _, _, by have hq0 := of_decide_eq_false hc3; have hq1 := of_decide_eq_false hc5; have hq2 := of_decide_eq_false hc14; have hq3 := of_decide_eq_true hc70; have hq4 := of_decide_eq_true hc81; have := hi68_0; omega, rfl, s, (List.Sublist.cons₂ _ (List.Sublist.cons _ List.Sublist.slnil)), by kernel_rfl, hle67, by have hq0 := of_decide_eq_false hc3; have hq1 := of_decide_eq_false hc5; have hq2 := of_decide_eq_false hc14; have hq3 := of_decide_eq_true hc70; have hq4 := of_decide_eq_true hc81; have := hi68_0; show i68 + 1 + (m68 - 1) = D.length; omega, (by rw [any_snocF (by have hq0 := of_decide_eq_false hc3; have hq1 := of_decide_eq_false hc5; have hq2 := of_decide_eq_false hc14; have hq3 := of_decide_eq_true hc70; have hq4 := of_decide_eq_true hc81; have := hi68_0; omega)]; exact flag_next hi68_1 ha84), (by rw [any_snocF (by have hq0 := of_decide_eq_false hc3; have hq1 := of_decide_eq_false hc5; have hq2 := of_decide_eq_false hc14; have hq3 := of_decide_eq_true hc70; have hq4 := of_decide_eq_true hc81; have := hi68_0; omega)]; exact flag_next hi68_2 hb84)⟩⟩
              ·
                rw [hc81]
                refine ops_rule (C := []) [((φ7 0), .cells #[.slice a1 A.length c1, .slice a2 D.length c2] 30), ((φ71 0), .cells #[.int .i64 ((List.getD D i68 Fe.z).k), .string ⟨((List.getD D i68 Fe.z).a).toArray⟩, .string ⟨((List.getD D i68 Fe.z).v).toArray⟩] 42)] [] 5 [.o 1] 0 (fun φ85 => [(9, .bool (decide (((List.getD D i68 Fe.z).k) > ((255 : Nat) : Int)))), (69, .bool (decide (((List.getD D i68 Fe.z).k) > ((255 : Nat) : Int)))), (68, .bool (decide (((List.getD D i68 Fe.z).k) > ((255 : Nat) : Int)))), (67, .int .i64 ((List.getD D i68 Fe.z).k)), (66, .pointer (some ⟨(φ71 0), 0, none⟩))]) (fun φ85 => [((φ7 0), .cells #[.slice a1 A.length c1, .slice a2 D.length c2] 30), ((φ71 0), .cells #[.int .i64 ((List.getD D i68 Fe.z).k), .string ⟨((List.getD D i68 Fe.z).a).toArray⟩, .string ⟨((List.getD D i68 Fe.z).v).toArray⟩] 42)]) (fun φ85 => [(φ71 0)]) s trivial (fun φ85 => by kernel_rfl) ?_
                intro φ85 w85 s
                refine ops_done (by kernel_rfl) ?_
                refine region_rule ?_
                refine ops_rule (C := []) [((φ7 0), .cells #[.slice a1 A.length c1, .slice a2 D.length c2] 30), ((φ71 0), .cells #[.int .i64 ((List.getD D i68 Fe.z).k), .string ⟨((List.getD D i68 Fe.z).a).toArray⟩, .string ⟨((List.getD D i68 Fe.z).v).toArray⟩] 42)] [] 2 [] 0 (fun φ86 => [(42, .int .i64 (IntKind.wrap .i64 (((i68 : Nat) : Int) + ((1 : Nat) : Int)))), (70, .int .i64 (IntKind.wrap .i64 (((i68 : Nat) : Int) + ((1 : Nat) : Int))))]) (fun φ86 => [((φ7 0), .cells #[.slice a1 A.length c1, .slice a2 D.length c2] 30), ((φ71 0), .cells #[.int .i64 ((List.getD D i68 Fe.z).k), .string ⟨((List.getD D i68 Fe.z).a).toArray⟩, .string ⟨((List.getD D i68 Fe.z).v).toArray⟩] 42)]) (fun φ86 => []) s trivial (fun φ86 => by kernel_rfl) ?_
                intro φ86 w86 s
                rw [nat_addI (a := i68) (b := 1) (by have e8 := hi68_0; have hq0 := of_decide_eq_false hc3; have hq1 := of_decide_eq_false hc5; have hq2 := of_decide_eq_false hc14; have hq3 := of_decide_eq_true hc70; have hq6 := of_decide_eq_false hc81; omega)]
                refine ops_done (by kernel_rfl) ?_
                have ha87 : true = (u68 || lgB (List.getD D i68 Fe.z)) := by
                            rw [hc73]; rfl
                have hb87 : (decide (((List.getD D i68 Fe.z).k) > ((255 : Nat) : Int))) = (v68 || skB (List.getD D i68 Fe.z)) := by
                            have hq0 := of_decide_eq_false hc3
                            have hq1 := of_decide_eq_false hc5
                            have hq2 := of_decide_eq_false hc14
                            have hq3 := of_decide_eq_true hc70
                            have hq4 := of_decide_eq_false hc81
                            rw [hc76]
                            unfold skB
                            rw [Bool.eq_iff_iff]
                            try simp only [Bool.or_eq_true, decide_eq_true_eq, Bool.false_eq_true, false_or, true_iff, false_iff, iff_true, eq_self_iff_true]
                            try omega
                exact ⟨⟨m68 - 1, (i68 + 1, true, (decide (((List.getD D i68 Fe.z).k) > ((255 : Nat) : Int)))), _, _, _, by have hq0 := of_decide_eq_false hc3; have hq1 := of_decide_eq_false hc5; have hq2 := of_decide_eq_false hc14; have hq3 := of_decide_eq_true hc70; have hq4 := of_decide_eq_false hc81; have := hi68_0; omega, rfl, s, (List.Sublist.cons₂ _ (List.Sublist.cons _ List.Sublist.slnil)), by kernel_rfl, hle67, by have hq0 := of_decide_eq_false hc3; have hq1 := of_decide_eq_false hc5; have hq2 := of_decide_eq_false hc14; have hq3 := of_decide_eq_true hc70; have hq4 := of_decide_eq_false hc81; have := hi68_0; show i68 + 1 + (m68 - 1) = D.length; omega, (by rw [any_snocF (by have hq0 := of_decide_eq_false hc3; have hq1 := of_decide_eq_false hc5; have hq2 := of_decide_eq_false hc14; have hq3 := of_decide_eq_true hc70; have hq4 := of_decide_eq_false hc81; have := hi68_0; omega)]; exact flag_next hi68_1 ha87), (by rw [any_snocF (by have hq0 := of_decide_eq_false hc3; have hq1 := of_decide_eq_false hc5; have hq2 := of_decide_eq_false hc14; have hq3 := of_decide_eq_true hc70; have hq4 := of_decide_eq_false hc81; have := hi68_0; omega)]; exact flag_next hi68_2 hb87)⟩⟩
          ·
            rw [hc73]
            refine ops_rule (C := []) [((φ7 0), .cells #[.slice a1 A.length c1, .slice a2 D.length c2] 30), ((φ71 0), .cells #[.int .i64 ((List.getD D i68 Fe.z).k), .string ⟨((List.getD D i68 Fe.z).a).toArray⟩, .string ⟨((List.getD D i68 Fe.z).v).toArray⟩] 42)] [] 6 [.o 1] 0 (fun φ88 => [(53, .bool (decide (((((List.getD D i68 Fe.z).a).length : Nat) : Int) > ((255 : Nat) : Int)))), (52, .bool (decide (((((List.getD D i68 Fe.z).a).length : Nat) : Int) > ((255 : Nat) : Int)))), (51, .bool (decide (((((List.getD D i68 Fe.z).a).length : Nat) : Int) > ((255 : Nat) : Int)))), (50, .int .i64 ((((List.getD D i68 Fe.z).a).length : Nat) : Int)), (49, .string ⟨((List.getD D i68 Fe.z).a).toArray⟩), (48, .pointer (some ⟨(φ71 0), 1, none⟩))]) (fun φ88 => [((φ7 0), .cells #[.slice a1 A.length c1, .slice a2 D.length c2] 30), ((φ71 0), .cells #[.int .i64 ((List.getD D i68 Fe.z).k), .string ⟨((List.getD D i68 Fe.z).a).toArray⟩, .string ⟨((List.getD D i68 Fe.z).v).toArray⟩] 42)]) (fun φ88 => [(φ71 0)]) s trivial (fun φ88 => by kernel_rfl) ?_
            intro φ88 w88 s
            rw [nat_gtr (a := (((List.getD D i68 Fe.z).a).length)) (b := 255)]
            rcases Bool.eq_false_or_eq_true (decide (255 < (((List.getD D i68 Fe.z).a).length))) with hc89 | hc89
            ·
              rw [hc89]
              refine ops_rule (C := []) [((φ7 0), .cells #[.slice a1 A.length c1, .slice a2 D.length c2] 30), ((φ71 0), .cells #[.int .i64 ((List.getD D i68 Fe.z).k), .string ⟨((List.getD D i68 Fe.z).a).toArray⟩, .string ⟨((List.getD D i68 Fe.z).v).toArray⟩] 42)] [] 6 [] 0 (fun φ90 => [(8, .bool true), (58, .bool true), (57, undef), (56, undef), (55, undef), (54, undef)]) (fun φ90 => [((φ7 0), .cells #[.slice a1 A.length c1, .slice a2 D.length c2] 30), ((φ71 0), .cells #[.int .i64 ((List.getD D i68 Fe.z).k), .string ⟨((List.getD D i68 Fe.z).a).toArray⟩, .string ⟨((List.getD D i68 Fe.z).v).toArray⟩] 42)]) (fun φ90 => []) s trivial (fun φ90 => by kernel_rfl) ?_
              intro φ90 w90 s
              refine ops_done (by kernel_rfl) ?_
              refine region_rule ?_
              refine ops_rule (C := []) [((φ7 0), .cells #[.slice a1 A.length c1, .slice a2 D.length c2] 30), ((φ71 0), .cells #[.int .i64 ((List.getD D i68 Fe.z).k), .string ⟨((List.getD D i68 Fe.z).a).toArray⟩, .string ⟨((List.getD D i68 Fe.z).v).toArray⟩] 42)] [] 2 [] 0 (fun φ91 => [(60, .bool v68), (59, .bool v68)]) (fun φ91 => [((φ7 0), .cells #[.slice a1 A.length c1, .slice a2 D.length c2] 30), ((φ71 0), .cells #[.int .i64 ((List.getD D i68 Fe.z).k), .string ⟨((List.getD D i68 Fe.z).a).toArray⟩, .string ⟨((List.getD D i68 Fe.z).v).toArray⟩] 42)]) (fun φ91 => []) s trivial (fun φ91 => by kernel_rfl) ?_
              intro φ91 w91 s
              rcases Bool.eq_false_or_eq_true (v68) with hc92 | hc92
              ·
                rw [hc92]
                refine ops_rule (C := []) [((φ7 0), .cells #[.slice a1 A.length c1, .slice a2 D.length c2] 30), ((φ71 0), .cells #[.int .i64 ((List.getD D i68 Fe.z).k), .string ⟨((List.getD D i68 Fe.z).a).toArray⟩, .string ⟨((List.getD D i68 Fe.z).v).toArray⟩] 42)] [] 10 [] 0 (fun φ93 => [(9, .bool true), (69, .bool true), (68, undef), (67, undef), (66, undef), (65, .bool true), (64, .bool true), (63, undef), (62, undef), (61, undef)]) (fun φ93 => [((φ7 0), .cells #[.slice a1 A.length c1, .slice a2 D.length c2] 30), ((φ71 0), .cells #[.int .i64 ((List.getD D i68 Fe.z).k), .string ⟨((List.getD D i68 Fe.z).a).toArray⟩, .string ⟨((List.getD D i68 Fe.z).v).toArray⟩] 42)]) (fun φ93 => []) s trivial (fun φ93 => by kernel_rfl) ?_
                intro φ93 w93 s
                refine ops_done (by kernel_rfl) ?_
                refine region_rule ?_
                refine ops_rule (C := []) [((φ7 0), .cells #[.slice a1 A.length c1, .slice a2 D.length c2] 30), ((φ71 0), .cells #[.int .i64 ((List.getD D i68 Fe.z).k), .string ⟨((List.getD D i68 Fe.z).a).toArray⟩, .string ⟨((List.getD D i68 Fe.z).v).toArray⟩] 42)] [] 2 [] 0 (fun φ94 => [(42, .int .i64 (IntKind.wrap .i64 (((i68 : Nat) : Int) + ((1 : Nat) : Int)))), (70, .int .i64 (IntKind.wrap .i64 (((i68 : Nat) : Int) + ((1 : Nat) : Int))))]) (fun φ94 => [((φ7 0), .cells #[.slice a1 A.length c1, .slice a2 D.length c2] 30), ((φ71 0), .cells #[.int .i64 ((List.getD D i68 Fe.z).k), .string ⟨((List.getD D i68 Fe.z).a).toArray⟩, .string ⟨((List.getD D i68 Fe.z).v).toArray⟩] 42)]) (fun φ94 => []) s trivial (fun φ94 => by kernel_rfl) ?_
                intro φ94 w94 s
                rw [nat_addI (a := i68) (b := 1) (by have e8 := hi68_0; have hq0 := of_decide_eq_false hc3; have hq1 := of_decide_eq_false hc5; have hq2 := of_decide_eq_false hc14; have hq3 := of_decide_eq_true hc70; have hq5 := of_decide_eq_true hc89; omega)]
                refine ops_done (by kernel_rfl) ?_
                have ha95 : true = (u68 || lgB (List.getD D i68 Fe.z)) := by
                            have hq0 := of_decide_eq_false hc3
                            have hq1 := of_decide_eq_false hc5
                            have hq2 := of_decide_eq_false hc14
                            have hq3 := of_decide_eq_true hc70
                            have hq4 := of_decide_eq_true hc89
                            rw [hc73]
                            unfold lgB
                            rw [Bool.eq_iff_iff]
                            try simp only [Bool.or_eq_true, decide_eq_true_eq, Bool.false_eq_true, false_or, true_iff, false_iff, iff_true, eq_self_iff_true]
                            try omega
                have hb95 : true = (v68 || skB (List.getD D i68 Fe.z)) := by
                            rw [hc92]; rfl
                exact ⟨⟨m68 - 1, (i68 + 1, true, true), _, _, _, by have hq0 := of_decide_eq_false hc3; have hq1 := of_decide_eq_false hc5; have hq2 := of_decide_eq_false hc14; have hq3 := of_decide_eq_true hc70; have hq4 := of_decide_eq_true hc89; have := hi68_0; omega, rfl, s, (List.Sublist.cons₂ _ (List.Sublist.cons _ List.Sublist.slnil)), by kernel_rfl, hle67, by have hq0 := of_decide_eq_false hc3; have hq1 := of_decide_eq_false hc5; have hq2 := of_decide_eq_false hc14; have hq3 := of_decide_eq_true hc70; have hq4 := of_decide_eq_true hc89; have := hi68_0; show i68 + 1 + (m68 - 1) = D.length; omega, (by rw [any_snocF (by have hq0 := of_decide_eq_false hc3; have hq1 := of_decide_eq_false hc5; have hq2 := of_decide_eq_false hc14; have hq3 := of_decide_eq_true hc70; have hq4 := of_decide_eq_true hc89; have := hi68_0; omega)]; exact flag_next hi68_1 ha95), (by rw [any_snocF (by have hq0 := of_decide_eq_false hc3; have hq1 := of_decide_eq_false hc5; have hq2 := of_decide_eq_false hc14; have hq3 := of_decide_eq_true hc70; have hq4 := of_decide_eq_true hc89; have := hi68_0; omega)]; exact flag_next hi68_2 hb95)⟩⟩
              ·
                rw [hc92]
                refine ops_rule (C := []) [((φ7 0), .cells #[.slice a1 A.length c1, .slice a2 D.length c2] 30), ((φ71 0), .cells #[.int .i64 ((List.getD D i68 Fe.z).k), .string ⟨((List.getD D i68 Fe.z).a).toArray⟩, .string ⟨((List.getD D i68 Fe.z).v).toArray⟩] 42)] [] 5 [.o 1] 0 (fun φ96 => [(65, .bool (decide (((List.getD D i68 Fe.z).k) < ((0 : Nat) : Int)))), (64, .bool (decide (((List.getD D i68 Fe.z).k) < ((0 : Nat) : Int)))), (63, .bool (decide (((List.getD D i68 Fe.z).k) < ((0 : Nat) : Int)))), (62, .int .i64 ((List.getD D i68 Fe.z).k)), (61, .pointer (some ⟨(φ71 0), 0, none⟩))]) (fun φ96 => [((φ7 0), .cells #[.slice a1 A.length c1, .slice a2 D.length c2] 30), ((φ71 0), .cells #[.int .i64 ((List.getD D i68 Fe.z).k), .string ⟨((List.getD D i68 Fe.z).a).toArray⟩, .string ⟨((List.getD D i68 Fe.z).v).toArray⟩] 42)]) (fun φ96 => [(φ71 0)]) s trivial (fun φ96 => by kernel_rfl) ?_
                intro φ96 w96 s
                rcases Bool.eq_false_or_eq_true (decide (((List.getD D i68 Fe.z).k) < ((0 : Nat) : Int))) with hc97 | hc97
                ·
                  rw [hc97]
                  refine ops_rule (C := []) [((φ7 0), .cells #[.slice a1 A.length c1, .slice a2 D.length c2] 30), ((φ71 0), .cells #[.int .i64 ((List.getD D i68 Fe.z).k), .string ⟨((List.getD D i68 Fe.z).a).toArray⟩, .string ⟨((List.getD D i68 Fe.z).v).toArray⟩] 42)] [] 5 [] 0 (fun φ98 => [(9, .bool true), (69, .bool true), (68, undef), (67, undef), (66, undef)]) (fun φ98 => [((φ7 0), .cells #[.slice a1 A.length c1, .slice a2 D.length c2] 30), ((φ71 0), .cells #[.int .i64 ((List.getD D i68 Fe.z).k), .string ⟨((List.getD D i68 Fe.z).a).toArray⟩, .string ⟨((List.getD D i68 Fe.z).v).toArray⟩] 42)]) (fun φ98 => []) s trivial (fun φ98 => by kernel_rfl) ?_
                  intro φ98 w98 s
                  refine ops_done (by kernel_rfl) ?_
                  refine region_rule ?_
                  refine ops_rule (C := []) [((φ7 0), .cells #[.slice a1 A.length c1, .slice a2 D.length c2] 30), ((φ71 0), .cells #[.int .i64 ((List.getD D i68 Fe.z).k), .string ⟨((List.getD D i68 Fe.z).a).toArray⟩, .string ⟨((List.getD D i68 Fe.z).v).toArray⟩] 42)] [] 2 [] 0 (fun φ99 => [(42, .int .i64 (IntKind.wrap .i64 (((i68 : Nat) : Int) + ((1 : Nat) : Int)))), (70, .int .i64 (IntKind.wrap .i64 (((i68 : Nat) : Int) + ((1 : Nat) : Int))))]) (fun φ99 => [((φ7 0), .cells #[.slice a1 A.length c1, .slice a2 D.length c2] 30), ((φ71 0), .cells #[.int .i64 ((List.getD D i68 Fe.z).k), .string ⟨((List.getD D i68 Fe.z).a).toArray⟩, .string ⟨((List.getD D i68 Fe.z).v).toArray⟩] 42)]) (fun φ99 => []) s trivial (fun φ99 => by kernel_rfl) ?_
                  intro φ99 w99 s
                  rw [nat_addI (a := i68) (b := 1) (by have e8 := hi68_0; have hq0 := of_decide_eq_false hc3; have hq1 := of_decide_eq_false hc5; have hq2 := of_decide_eq_false hc14; have hq3 := of_decide_eq_true hc70; have hq5 := of_decide_eq_true hc89; have hq7 := of_decide_eq_true hc97; omega)]
                  refine ops_done (by kernel_rfl) ?_
                  have ha100 : true = (u68 || lgB (List.getD D i68 Fe.z)) := by
                              have hq0 := of_decide_eq_false hc3
                              have hq1 := of_decide_eq_false hc5
                              have hq2 := of_decide_eq_false hc14
                              have hq3 := of_decide_eq_true hc70
                              have hq4 := of_decide_eq_true hc89
                              have hq5 := of_decide_eq_true hc97
                              rw [hc73]
                              unfold lgB
                              rw [Bool.eq_iff_iff]
                              try simp only [Bool.or_eq_true, decide_eq_true_eq, Bool.false_eq_true, false_or, true_iff, false_iff, iff_true, eq_self_iff_true]
                              try omega
                  have hb100 : true = (v68 || skB (List.getD D i68 Fe.z)) := by
                              have hq0 := of_decide_eq_false hc3
                              have hq1 := of_decide_eq_false hc5
                              have hq2 := of_decide_eq_false hc14
                              have hq3 := of_decide_eq_true hc70
                              have hq4 := of_decide_eq_true hc89
                              have hq5 := of_decide_eq_true hc97
                              rw [hc92]
                              unfold skB
                              rw [Bool.eq_iff_iff]
                              try simp only [Bool.or_eq_true, decide_eq_true_eq, Bool.false_eq_true, false_or, true_iff, false_iff, iff_true, eq_self_iff_true]
                              try omega
                  exact ⟨⟨m68 - 1, (i68 + 1, true, true), _, _, _, by have hq0 := of_decide_eq_false hc3; have hq1 := of_decide_eq_false hc5; have hq2 := of_decide_eq_false hc14; have hq3 := of_decide_eq_true hc70; have hq4 := of_decide_eq_true hc89; have hq5 := of_decide_eq_true hc97; have := hi68_0; omega, rfl, s, (List.Sublist.cons₂ _ (List.Sublist.cons _ List.Sublist.slnil)), by kernel_rfl, hle67, by have hq0 := of_decide_eq_false hc3; have hq1 := of_decide_eq_false hc5; have hq2 := of_decide_eq_false hc14; have hq3 := of_decide_eq_true hc70; have hq4 := of_decide_eq_true hc89; have hq5 := of_decide_eq_true hc97; have := hi68_0; show i68 + 1 + (m68 - 1) = D.length; omega, (by rw [any_snocF (by have hq0 := of_decide_eq_false hc3; have hq1 := of_decide_eq_false hc5; have hq2 := of_decide_eq_false hc14; have hq3 := of_decide_eq_true hc70; have hq4 := of_decide_eq_true hc89; have hq5 := of_decide_eq_true hc97; have := hi68_0; omega)]; exact flag_next hi68_1 ha100), (by rw [any_snocF (by have hq0 := of_decide_eq_false hc3; have hq1 := of_decide_eq_false hc5; have hq2 := of_decide_eq_false hc14; have hq3 := of_decide_eq_true hc70; have hq4 := of_decide_eq_true hc89; have hq5 := of_decide_eq_true hc97; have := hi68_0; omega)]; exact flag_next hi68_2 hb100)⟩⟩
                ·
                  rw [hc97]
                  refine ops_rule (C := []) [((φ7 0), .cells #[.slice a1 A.length c1, .slice a2 D.length c2] 30), ((φ71 0), .cells #[.int .i64 ((List.getD D i68 Fe.z).k), .string ⟨((List.getD D i68 Fe.z).a).toArray⟩, .string ⟨((List.getD D i68 Fe.z).v).toArray⟩] 42)] [] 5 [.o 1] 0 (fun φ101 => [(9, .bool (decide (((List.getD D i68 Fe.z).k) > ((255 : Nat) : Int)))), (69, .bool (decide (((List.getD D i68 Fe.z).k) > ((255 : Nat) : Int)))), (68, .bool (decide (((List.getD D i68 Fe.z).k) > ((255 : Nat) : Int)))), (67, .int .i64 ((List.getD D i68 Fe.z).k)), (66, .pointer (some ⟨(φ71 0), 0, none⟩))]) (fun φ101 => [((φ7 0), .cells #[.slice a1 A.length c1, .slice a2 D.length c2] 30), ((φ71 0), .cells #[.int .i64 ((List.getD D i68 Fe.z).k), .string ⟨((List.getD D i68 Fe.z).a).toArray⟩, .string ⟨((List.getD D i68 Fe.z).v).toArray⟩] 42)]) (fun φ101 => [(φ71 0)]) s trivial (fun φ101 => by kernel_rfl) ?_
                  intro φ101 w101 s
                  refine ops_done (by kernel_rfl) ?_
                  refine region_rule ?_
                  refine ops_rule (C := []) [((φ7 0), .cells #[.slice a1 A.length c1, .slice a2 D.length c2] 30), ((φ71 0), .cells #[.int .i64 ((List.getD D i68 Fe.z).k), .string ⟨((List.getD D i68 Fe.z).a).toArray⟩, .string ⟨((List.getD D i68 Fe.z).v).toArray⟩] 42)] [] 2 [] 0 (fun φ102 => [(42, .int .i64 (IntKind.wrap .i64 (((i68 : Nat) : Int) + ((1 : Nat) : Int)))), (70, .int .i64 (IntKind.wrap .i64 (((i68 : Nat) : Int) + ((1 : Nat) : Int))))]) (fun φ102 => [((φ7 0), .cells #[.slice a1 A.length c1, .slice a2 D.length c2] 30), ((φ71 0), .cells #[.int .i64 ((List.getD D i68 Fe.z).k), .string ⟨((List.getD D i68 Fe.z).a).toArray⟩, .string ⟨((List.getD D i68 Fe.z).v).toArray⟩] 42)]) (fun φ102 => []) s trivial (fun φ102 => by kernel_rfl) ?_
                  intro φ102 w102 s
                  rw [nat_addI (a := i68) (b := 1) (by have e8 := hi68_0; have hq0 := of_decide_eq_false hc3; have hq1 := of_decide_eq_false hc5; have hq2 := of_decide_eq_false hc14; have hq3 := of_decide_eq_true hc70; have hq5 := of_decide_eq_true hc89; have hq7 := of_decide_eq_false hc97; omega)]
                  refine ops_done (by kernel_rfl) ?_
                  have ha103 : true = (u68 || lgB (List.getD D i68 Fe.z)) := by
                              have hq0 := of_decide_eq_false hc3
                              have hq1 := of_decide_eq_false hc5
                              have hq2 := of_decide_eq_false hc14
                              have hq3 := of_decide_eq_true hc70
                              have hq4 := of_decide_eq_true hc89
                              have hq5 := of_decide_eq_false hc97
                              rw [hc73]
                              unfold lgB
                              rw [Bool.eq_iff_iff]
                              try simp only [Bool.or_eq_true, decide_eq_true_eq, Bool.false_eq_true, false_or, true_iff, false_iff, iff_true, eq_self_iff_true]
                              try omega
                  have hb103 : (decide (((List.getD D i68 Fe.z).k) > ((255 : Nat) : Int))) = (v68 || skB (List.getD D i68 Fe.z)) := by
                              have hq0 := of_decide_eq_false hc3
                              have hq1 := of_decide_eq_false hc5
                              have hq2 := of_decide_eq_false hc14
                              have hq3 := of_decide_eq_true hc70
                              have hq4 := of_decide_eq_true hc89
                              have hq5 := of_decide_eq_false hc97
                              rw [hc92]
                              unfold skB
                              rw [Bool.eq_iff_iff]
                              try simp only [Bool.or_eq_true, decide_eq_true_eq, Bool.false_eq_true, false_or, true_iff, false_iff, iff_true, eq_self_iff_true]
                              try omega
                  exact ⟨⟨m68 - 1, (i68 + 1, true, (decide (((List.getD D i68 Fe.z).k) > ((255 : Nat) : Int)))), _, _, _, by have hq0 := of_decide_eq_false hc3; have hq1 := of_decide_eq_false hc5; have hq2 := of_decide_eq_false hc14; have hq3 := of_decide_eq_true hc70; have hq4 := of_decide_eq_true hc89; have hq5 := of_decide_eq_false hc97; have := hi68_0; omega, rfl, s, (List.Sublist.cons₂ _ (List.Sublist.cons _ List.Sublist.slnil)), by kernel_rfl, hle67, by have hq0 := of_decide_eq_false hc3; have hq1 := of_decide_eq_false hc5; have hq2 := of_decide_eq_false hc14; have hq3 := of_decide_eq_true hc70; have hq4 := of_decide_eq_true hc89; have hq5 := of_decide_eq_false hc97; have := hi68_0; show i68 + 1 + (m68 - 1) = D.length; omega, (by rw [any_snocF (by have hq0 := of_decide_eq_false hc3; have hq1 := of_decide_eq_false hc5; have hq2 := of_decide_eq_false hc14; have hq3 := of_decide_eq_true hc70; have hq4 := of_decide_eq_true hc89; have hq5 := of_decide_eq_false hc97; have := hi68_0; omega)]; exact flag_next hi68_1 ha103), (by rw [any_snocF (by have hq0 := of_decide_eq_false hc3; have hq1 := of_decide_eq_false hc5; have hq2 := of_decide_eq_false hc14; have hq3 := of_decide_eq_true hc70; have hq4 := of_decide_eq_true hc89; have hq5 := of_decide_eq_false hc97; have := hi68_0; omega)]; exact flag_next hi68_2 hb103)⟩⟩
            ·
              rw [hc89]
              refine ops_rule (C := []) [((φ7 0), .cells #[.slice a1 A.length c1, .slice a2 D.length c2] 30), ((φ71 0), .cells #[.int .i64 ((List.getD D i68 Fe.z).k), .string ⟨((List.getD D i68 Fe.z).a).toArray⟩, .string ⟨((List.getD D i68 Fe.z).v).toArray⟩] 42)] [] 6 [.o 1] 0 (fun φ104 => [(8, .bool (decide (((((List.getD D i68 Fe.z).v).length : Nat) : Int) > ((255 : Nat) : Int)))), (58, .bool (decide (((((List.getD D i68 Fe.z).v).length : Nat) : Int) > ((255 : Nat) : Int)))), (57, .bool (decide (((((List.getD D i68 Fe.z).v).length : Nat) : Int) > ((255 : Nat) : Int)))), (56, .int .i64 ((((List.getD D i68 Fe.z).v).length : Nat) : Int)), (55, .string ⟨((List.getD D i68 Fe.z).v).toArray⟩), (54, .pointer (some ⟨(φ71 0), 2, none⟩))]) (fun φ104 => [((φ7 0), .cells #[.slice a1 A.length c1, .slice a2 D.length c2] 30), ((φ71 0), .cells #[.int .i64 ((List.getD D i68 Fe.z).k), .string ⟨((List.getD D i68 Fe.z).a).toArray⟩, .string ⟨((List.getD D i68 Fe.z).v).toArray⟩] 42)]) (fun φ104 => [(φ71 0)]) s trivial (fun φ104 => by kernel_rfl) ?_
              intro φ104 w104 s
              rw [nat_gtr (a := (((List.getD D i68 Fe.z).v).length)) (b := 255)]
              refine ops_done (by kernel_rfl) ?_
              refine region_rule ?_
              refine ops_rule (C := []) [((φ7 0), .cells #[.slice a1 A.length c1, .slice a2 D.length c2] 30), ((φ71 0), .cells #[.int .i64 ((List.getD D i68 Fe.z).k), .string ⟨((List.getD D i68 Fe.z).a).toArray⟩, .string ⟨((List.getD D i68 Fe.z).v).toArray⟩] 42)] [] 2 [] 0 (fun φ105 => [(60, .bool v68), (59, .bool v68)]) (fun φ105 => [((φ7 0), .cells #[.slice a1 A.length c1, .slice a2 D.length c2] 30), ((φ71 0), .cells #[.int .i64 ((List.getD D i68 Fe.z).k), .string ⟨((List.getD D i68 Fe.z).a).toArray⟩, .string ⟨((List.getD D i68 Fe.z).v).toArray⟩] 42)]) (fun φ105 => []) s trivial (fun φ105 => by kernel_rfl) ?_
              intro φ105 w105 s
              rcases Bool.eq_false_or_eq_true (v68) with hc106 | hc106
              ·
                rw [hc106]
                refine ops_rule (C := []) [((φ7 0), .cells #[.slice a1 A.length c1, .slice a2 D.length c2] 30), ((φ71 0), .cells #[.int .i64 ((List.getD D i68 Fe.z).k), .string ⟨((List.getD D i68 Fe.z).a).toArray⟩, .string ⟨((List.getD D i68 Fe.z).v).toArray⟩] 42)] [] 10 [] 0 (fun φ107 => [(9, .bool true), (69, .bool true), (68, undef), (67, undef), (66, undef), (65, .bool true), (64, .bool true), (63, undef), (62, undef), (61, undef)]) (fun φ107 => [((φ7 0), .cells #[.slice a1 A.length c1, .slice a2 D.length c2] 30), ((φ71 0), .cells #[.int .i64 ((List.getD D i68 Fe.z).k), .string ⟨((List.getD D i68 Fe.z).a).toArray⟩, .string ⟨((List.getD D i68 Fe.z).v).toArray⟩] 42)]) (fun φ107 => []) s trivial (fun φ107 => by kernel_rfl) ?_
                intro φ107 w107 s
                refine ops_done (by kernel_rfl) ?_
                refine region_rule ?_
                refine ops_rule (C := []) [((φ7 0), .cells #[.slice a1 A.length c1, .slice a2 D.length c2] 30), ((φ71 0), .cells #[.int .i64 ((List.getD D i68 Fe.z).k), .string ⟨((List.getD D i68 Fe.z).a).toArray⟩, .string ⟨((List.getD D i68 Fe.z).v).toArray⟩] 42)] [] 2 [] 0 (fun φ108 => [(42, .int .i64 (IntKind.wrap .i64 (((i68 : Nat) : Int) + ((1 : Nat) : Int)))), (70, .int .i64 (IntKind.wrap .i64 (((i68 : Nat) : Int) + ((1 : Nat) : Int))))]) (fun φ108 => [((φ7 0), .cells #[.slice a1 A.length c1, .slice a2 D.length c2] 30), ((φ71 0), .cells #[.int .i64 ((List.getD D i68 Fe.z).k), .string ⟨((List.getD D i68 Fe.z).a).toArray⟩, .string ⟨((List.getD D i68 Fe.z).v).toArray⟩] 42)]) (fun φ108 => []) s trivial (fun φ108 => by kernel_rfl) ?_
                intro φ108 w108 s
                rw [nat_addI (a := i68) (b := 1) (by have e8 := hi68_0; have hq0 := of_decide_eq_false hc3; have hq1 := of_decide_eq_false hc5; have hq2 := of_decide_eq_false hc14; have hq3 := of_decide_eq_true hc70; have hq5 := of_decide_eq_false hc89; omega)]
                refine ops_done (by kernel_rfl) ?_
                have ha109 : (decide (255 < (((List.getD D i68 Fe.z).v).length))) = (u68 || lgB (List.getD D i68 Fe.z)) := by
                            have hq0 := of_decide_eq_false hc3
                            have hq1 := of_decide_eq_false hc5
                            have hq2 := of_decide_eq_false hc14
                            have hq3 := of_decide_eq_true hc70
                            have hq4 := of_decide_eq_false hc89
                            rw [hc73]
                            unfold lgB
                            rw [Bool.eq_iff_iff]
                            try simp only [Bool.or_eq_true, decide_eq_true_eq, Bool.false_eq_true, false_or, true_iff, false_iff, iff_true, eq_self_iff_true]
                            try omega
                have hb109 : true = (v68 || skB (List.getD D i68 Fe.z)) := by
                            rw [hc106]; rfl
                exact ⟨⟨m68 - 1, (i68 + 1, (decide (255 < (((List.getD D i68 Fe.z).v).length))), true), _, _, _, by have hq0 := of_decide_eq_false hc3; have hq1 := of_decide_eq_false hc5; have hq2 := of_decide_eq_false hc14; have hq3 := of_decide_eq_true hc70; have hq4 := of_decide_eq_false hc89; have := hi68_0; omega, rfl, s, (List.Sublist.cons₂ _ (List.Sublist.cons _ List.Sublist.slnil)), by kernel_rfl, hle67, by have hq0 := of_decide_eq_false hc3; have hq1 := of_decide_eq_false hc5; have hq2 := of_decide_eq_false hc14; have hq3 := of_decide_eq_true hc70; have hq4 := of_decide_eq_false hc89; have := hi68_0; show i68 + 1 + (m68 - 1) = D.length; omega, (by rw [any_snocF (by have hq0 := of_decide_eq_false hc3; have hq1 := of_decide_eq_false hc5; have hq2 := of_decide_eq_false hc14; have hq3 := of_decide_eq_true hc70; have hq4 := of_decide_eq_false hc89; have := hi68_0; omega)]; exact flag_next hi68_1 ha109), (by rw [any_snocF (by have hq0 := of_decide_eq_false hc3; have hq1 := of_decide_eq_false hc5; have hq2 := of_decide_eq_false hc14; have hq3 := of_decide_eq_true hc70; have hq4 := of_decide_eq_false hc89; have := hi68_0; omega)]; exact flag_next hi68_2 hb109)⟩⟩
              ·
                rw [hc106]
                refine ops_rule (C := []) [((φ7 0), .cells #[.slice a1 A.length c1, .slice a2 D.length c2] 30), ((φ71 0), .cells #[.int .i64 ((List.getD D i68 Fe.z).k), .string ⟨((List.getD D i68 Fe.z).a).toArray⟩, .string ⟨((List.getD D i68 Fe.z).v).toArray⟩] 42)] [] 5 [.o 1] 0 (fun φ110 => [(65, .bool (decide (((List.getD D i68 Fe.z).k) < ((0 : Nat) : Int)))), (64, .bool (decide (((List.getD D i68 Fe.z).k) < ((0 : Nat) : Int)))), (63, .bool (decide (((List.getD D i68 Fe.z).k) < ((0 : Nat) : Int)))), (62, .int .i64 ((List.getD D i68 Fe.z).k)), (61, .pointer (some ⟨(φ71 0), 0, none⟩))]) (fun φ110 => [((φ7 0), .cells #[.slice a1 A.length c1, .slice a2 D.length c2] 30), ((φ71 0), .cells #[.int .i64 ((List.getD D i68 Fe.z).k), .string ⟨((List.getD D i68 Fe.z).a).toArray⟩, .string ⟨((List.getD D i68 Fe.z).v).toArray⟩] 42)]) (fun φ110 => [(φ71 0)]) s trivial (fun φ110 => by kernel_rfl) ?_
                intro φ110 w110 s
                rcases Bool.eq_false_or_eq_true (decide (((List.getD D i68 Fe.z).k) < ((0 : Nat) : Int))) with hc111 | hc111
                ·
                  rw [hc111]
                  refine ops_rule (C := []) [((φ7 0), .cells #[.slice a1 A.length c1, .slice a2 D.length c2] 30), ((φ71 0), .cells #[.int .i64 ((List.getD D i68 Fe.z).k), .string ⟨((List.getD D i68 Fe.z).a).toArray⟩, .string ⟨((List.getD D i68 Fe.z).v).toArray⟩] 42)] [] 5 [] 0 (fun φ112 => [(9, .bool true), (69, .bool true), (68, undef), (67, undef), (66, undef)]) (fun φ112 => [((φ7 0), .cells #[.slice a1 A.length c1, .slice a2 D.length c2] 30), ((φ71 0), .cells #[.int .i64 ((List.getD D i68 Fe.z).k), .string ⟨((List.getD D i68 Fe.z).a).toArray⟩, .string ⟨((List.getD D i68 Fe.z).v).toArray⟩] 42)]) (fun φ112 => []) s trivial (fun φ112 => by kernel_rfl) ?_
                  intro φ112 w112 s
                  refine ops_done (by kernel_rfl) ?_
                  refine region_rule ?_
                  refine ops_rule (C := []) [((φ7 0), .cells #[.slice a1 A.length c1, .slice a2 D.length c2] 30), ((φ71 0), .cells #[.int .i64 ((List.getD D i68 Fe.z).k), .string ⟨((List.getD D i68 Fe.z).a).toArray⟩, .string ⟨((List.getD D i68 Fe.z).v).toArray⟩] 42)] [] 2 [] 0 (fun φ113 => [(42, .int .i64 (IntKind.wrap .i64 (((i68 : Nat) : Int) + ((1 : Nat) : Int)))), (70, .int .i64 (IntKind.wrap .i64 (((i68 : Nat) : Int) + ((1 : Nat) : Int))))]) (fun φ113 => [((φ7 0), .cells #[.slice a1 A.length c1, .slice a2 D.length c2] 30), ((φ71 0), .cells #[.int .i64 ((List.getD D i68 Fe.z).k), .string ⟨((List.getD D i68 Fe.z).a).toArray⟩, .string ⟨((List.getD D i68 Fe.z).v).toArray⟩] 42)]) (fun φ113 => []) s trivial (fun φ113 => by kernel_rfl) ?_
                  intro φ113 w113 s
                  rw [nat_addI (a := i68) (b := 1) (by have e8 := hi68_0; have hq0 := of_decide_eq_false hc3; have hq1 := of_decide_eq_false hc5; have hq2 := of_decide_eq_false hc14; have hq3 := of_decide_eq_true hc70; have hq5 := of_decide_eq_false hc89; have hq7 := of_decide_eq_true hc111; omega)]
                  refine ops_done (by kernel_rfl) ?_
                  have ha114 : (decide (255 < (((List.getD D i68 Fe.z).v).length))) = (u68 || lgB (List.getD D i68 Fe.z)) := by
                              have hq0 := of_decide_eq_false hc3
                              have hq1 := of_decide_eq_false hc5
                              have hq2 := of_decide_eq_false hc14
                              have hq3 := of_decide_eq_true hc70
                              have hq4 := of_decide_eq_false hc89
                              have hq5 := of_decide_eq_true hc111
                              rw [hc73]
                              unfold lgB
                              rw [Bool.eq_iff_iff]
                              try simp only [Bool.or_eq_true, decide_eq_true_eq, Bool.false_eq_true, false_or, true_iff, false_iff, iff_true, eq_self_iff_true]
                              try omega
                  have hb114 : true = (v68 || skB (List.getD D i68 Fe.z)) := by
                              have hq0 := of_decide_eq_false hc3
                              have hq1 := of_decide_eq_false hc5
                              have hq2 := of_decide_eq_false hc14
                              have hq3 := of_decide_eq_true hc70
                              have hq4 := of_decide_eq_false hc89
                              have hq5 := of_decide_eq_true hc111
                              rw [hc106]
                              unfold skB
                              rw [Bool.eq_iff_iff]
                              try simp only [Bool.or_eq_true, decide_eq_true_eq, Bool.false_eq_true, false_or, true_iff, false_iff, iff_true, eq_self_iff_true]
                              try omega
                  exact ⟨⟨m68 - 1, (i68 + 1, (decide (255 < (((List.getD D i68 Fe.z).v).length))), true), _, _, _, by have hq0 := of_decide_eq_false hc3; have hq1 := of_decide_eq_false hc5; have hq2 := of_decide_eq_false hc14; have hq3 := of_decide_eq_true hc70; have hq4 := of_decide_eq_false hc89; have hq5 := of_decide_eq_true hc111; have := hi68_0; omega, rfl, s, (List.Sublist.cons₂ _ (List.Sublist.cons _ List.Sublist.slnil)), by kernel_rfl, hle67, by have hq0 := of_decide_eq_false hc3; have hq1 := of_decide_eq_false hc5; have hq2 := of_decide_eq_false hc14; have hq3 := of_decide_eq_true hc70; have hq4 := of_decide_eq_false hc89; have hq5 := of_decide_eq_true hc111; have := hi68_0; show i68 + 1 + (m68 - 1) = D.length; omega, (by rw [any_snocF (by have hq0 := of_decide_eq_false hc3; have hq1 := of_decide_eq_false hc5; have hq2 := of_decide_eq_false hc14; have hq3 := of_decide_eq_true hc70; have hq4 := of_decide_eq_false hc89; have hq5 := of_decide_eq_true hc111; have := hi68_0; omega)]; exact flag_next hi68_1 ha114), (by rw [any_snocF (by have hq0 := of_decide_eq_false hc3; have hq1 := of_decide_eq_false hc5; have hq2 := of_decide_eq_false hc14; have hq3 := of_decide_eq_true hc70; have hq4 := of_decide_eq_false hc89; have hq5 := of_decide_eq_true hc111; have := hi68_0; omega)]; exact flag_next hi68_2 hb114)⟩⟩
                ·
                  rw [hc111]
                  refine ops_rule (C := []) [((φ7 0), .cells #[.slice a1 A.length c1, .slice a2 D.length c2] 30), ((φ71 0), .cells #[.int .i64 ((List.getD D i68 Fe.z).k), .string ⟨((List.getD D i68 Fe.z).a).toArray⟩, .string ⟨((List.getD D i68 Fe.z).v).toArray⟩] 42)] [] 5 [.o 1] 0 (fun φ115 => [(9, .bool (decide (((List.getD D i68 Fe.z).k) > ((255 : Nat) : Int)))), (69, .bool (decide (((List.getD D i68 Fe.z).k) > ((255 : Nat) : Int)))), (68, .bool (decide (((List.getD D i68 Fe.z).k) > ((255 : Nat) : Int)))), (67, .int .i64 ((List.getD D i68 Fe.z).k)), (66, .pointer (some ⟨(φ71 0), 0, none⟩))]) (fun φ115 => [((φ7 0), .cells #[.slice a1 A.length c1, .slice a2 D.length c2] 30), ((φ71 0), .cells #[.int .i64 ((List.getD D i68 Fe.z).k), .string ⟨((List.getD D i68 Fe.z).a).toArray⟩, .string ⟨((List.getD D i68 Fe.z).v).toArray⟩] 42)]) (fun φ115 => [(φ71 0)]) s trivial (fun φ115 => by kernel_rfl) ?_
                  intro φ115 w115 s
                  refine ops_done (by kernel_rfl) ?_
                  refine region_rule ?_
                  refine ops_rule (C := []) [((φ7 0), .cells #[.slice a1 A.length c1, .slice a2 D.length c2] 30), ((φ71 0), .cells #[.int .i64 ((List.getD D i68 Fe.z).k), .string ⟨((List.getD D i68 Fe.z).a).toArray⟩, .string ⟨((List.getD D i68 Fe.z).v).toArray⟩] 42)] [] 2 [] 0 (fun φ116 => [(42, .int .i64 (IntKind.wrap .i64 (((i68 : Nat) : Int) + ((1 : Nat) : Int)))), (70, .int .i64 (IntKind.wrap .i64 (((i68 : Nat) : Int) + ((1 : Nat) : Int))))]) (fun φ116 => [((φ7 0), .cells #[.slice a1 A.length c1, .slice a2 D.length c2] 30), ((φ71 0), .cells #[.int .i64 ((List.getD D i68 Fe.z).k), .string ⟨((List.getD D i68 Fe.z).a).toArray⟩, .string ⟨((List.getD D i68 Fe.z).v).toArray⟩] 42)]) (fun φ116 => []) s trivial (fun φ116 => by kernel_rfl) ?_
                  intro φ116 w116 s
                  rw [nat_addI (a := i68) (b := 1) (by have e8 := hi68_0; have hq0 := of_decide_eq_false hc3; have hq1 := of_decide_eq_false hc5; have hq2 := of_decide_eq_false hc14; have hq3 := of_decide_eq_true hc70; have hq5 := of_decide_eq_false hc89; have hq7 := of_decide_eq_false hc111; omega)]
                  refine ops_done (by kernel_rfl) ?_
                  have ha117 : (decide (255 < (((List.getD D i68 Fe.z).v).length))) = (u68 || lgB (List.getD D i68 Fe.z)) := by
                              have hq0 := of_decide_eq_false hc3
                              have hq1 := of_decide_eq_false hc5
                              have hq2 := of_decide_eq_false hc14
                              have hq3 := of_decide_eq_true hc70
                              have hq4 := of_decide_eq_false hc89
                              have hq5 := of_decide_eq_false hc111
                              rw [hc73]
                              unfold lgB
                              rw [Bool.eq_iff_iff]
                              try simp only [Bool.or_eq_true, decide_eq_true_eq, Bool.false_eq_true, false_or, true_iff, false_iff, iff_true, eq_self_iff_true]
                              try omega
                  have hb117 : (decide (((List.getD D i68 Fe.z).k) > ((255 : Nat) : Int))) = (v68 || skB (List.getD D i68 Fe.z)) := by
                              have hq0 := of_decide_eq_false hc3
                              have hq1 := of_decide_eq_false hc5
                              have hq2 := of_decide_eq_false hc14
                              have hq3 := of_decide_eq_true hc70
                              have hq4 := of_decide_eq_false hc89
                              have hq5 := of_decide_eq_false hc111
                              rw [hc106]
                              unfold skB
                              rw [Bool.eq_iff_iff]
                              try simp only [Bool.or_eq_true, decide_eq_true_eq, Bool.false_eq_true, false_or, true_iff, false_iff, iff_true, eq_self_iff_true]
                              try omega
                  exact ⟨⟨m68 - 1, (i68 + 1, (decide (255 < (((List.getD D i68 Fe.z).v).length))), (decide (((List.getD D i68 Fe.z).k) > ((255 : Nat) : Int)))), _, _, _, by have hq0 := of_decide_eq_false hc3; have hq1 := of_decide_eq_false hc5; have hq2 := of_decide_eq_false hc14; have hq3 := of_decide_eq_true hc70; have hq4 := of_decide_eq_false hc89; have hq5 := of_decide_eq_false hc111; have := hi68_0; omega, rfl, s, (List.Sublist.cons₂ _ (List.Sublist.cons _ List.Sublist.slnil)), by kernel_rfl, hle67, by have hq0 := of_decide_eq_false hc3; have hq1 := of_decide_eq_false hc5; have hq2 := of_decide_eq_false hc14; have hq3 := of_decide_eq_true hc70; have hq4 := of_decide_eq_false hc89; have hq5 := of_decide_eq_false hc111; have := hi68_0; show i68 + 1 + (m68 - 1) = D.length; omega, (by rw [any_snocF (by have hq0 := of_decide_eq_false hc3; have hq1 := of_decide_eq_false hc5; have hq2 := of_decide_eq_false hc14; have hq3 := of_decide_eq_true hc70; have hq4 := of_decide_eq_false hc89; have hq5 := of_decide_eq_false hc111; have := hi68_0; omega)]; exact flag_next hi68_1 ha117), (by rw [any_snocF (by have hq0 := of_decide_eq_false hc3; have hq1 := of_decide_eq_false hc5; have hq2 := of_decide_eq_false hc14; have hq3 := of_decide_eq_true hc70; have hq4 := of_decide_eq_false hc89; have hq5 := of_decide_eq_false hc111; have := hi68_0; omega)]; exact flag_next hi68_2 hb117)⟩⟩
        ·
          rw [hc70]
          refine cond_false_rule (b := false) (by kernel_rfl) rfl ?_
          refine wp_exit ?_
          have ei118 : D.take i68 = D := List.take_of_length_le (by have hq0 := of_decide_eq_false hc3; have hq1 := of_decide_eq_false hc5; have hq2 := of_decide_eq_false hc14; have hq3 := of_decide_eq_false hc70; have := hi68_0; omega)
          have hf8118 := hi68_1
          have hf9118 := hi68_2
          rw [ei118] at hf8118 hf9118
          refine region_rule ?_
          refine ops_rule (C := []) [((φ7 0), .cells #[.slice a1 A.length c1, .slice a2 D.length c2] 30)] [] 2 [] 0 (fun φ119 => [(36, .int .i64 2), (71, .int .i64 2)]) (fun φ119 => [((φ7 0), .cells #[.slice a1 A.length c1, .slice a2 D.length c2] 30)]) (fun φ119 => []) s trivial (fun φ119 => by kernel_rfl) ?_
          intro φ119 w119 s
          refine ops_done (by kernel_rfl) ?_
          refine rounds_step (n := 0) ?_
          refine wp_seq ?_
          refine region_rule ?_
          refine ops_rule (C := []) [((φ7 0), .cells #[.slice a1 A.length c1, .slice a2 D.length c2] 30)] [] 1 [] 0 (fun φ120 => [(37, .bool false)]) (fun φ120 => [((φ7 0), .cells #[.slice a1 A.length c1, .slice a2 D.length c2] 30)]) (fun φ120 => []) s trivial (fun φ120 => by kernel_rfl) ?_
          intro φ120 w120 s
          refine ops_done (by kernel_rfl) ?_
          refine wp_seq ?_
          refine cond_false_rule (b := false) (by kernel_rfl) rfl ?_
          refine wp_exit ?_
          refine wp_seq ?_
          refine wp_seq ?_
          refine region_rule ?_
          refine ops_rule (C := []) [((φ7 0), .cells #[.slice a1 A.length c1, .slice a2 D.length c2] 30)] [] 3 [] 0 (fun φ121 => [(74, .int .i64 0), (73, .int .i64 ((K.length : Nat) : Int)), (72, .slice a3 K.length c3)]) (fun φ121 => [((φ7 0), .cells #[.slice a1 A.length c1, .slice a2 D.length c2] 30)]) (fun φ121 => []) s trivial (fun φ121 => by kernel_rfl) ?_
          intro φ121 w121 s
          refine ops_done (by kernel_rfl) ?_
          refine wp_block ?_
          have hle122 := IM.Le.refl I68
          refine loop_rule (fun (x : Nat × Bool) => [(0, .slice a1 A.length c1), (1, .slice a2 D.length c2), (2, .slice a3 K.length c3), (6, .slice none 0 0), (7, .int .i64 0), (8, .bool u68), (72, .slice a3 K.length c3), (73, .int .i64 ((K.length : Nat) : Int)), (74, .int .i64 ((x.1 : Nat) : Int)), (9, .bool x.2)]) (fun (x : Nat × Bool) => [((φ7 0), .cells #[.slice a1 A.length c1, .slice a2 D.length c2] 30)]) (fun m (x : Nat × Bool) J => IM.Le I68 J ∧ x.1 + m = K.length ∧ x.2 = ((A.any skB || D.any skB) || ((K.take x.1).any siB))) (K.length) (0, v68) s (by kernel_rfl) (List.Sublist.cons₂ _ List.Sublist.slnil) ⟨IM.Le.refl _, Nat.zero_add _, (by rw [hf9118, List.take_zero]; simp)⟩ ?_
          rintro m123 ⟨i123, v123⟩ I123 w123 ev123 s ⟨le123, hi123_0, hi123_1⟩
          try dsimp only at s hi123_0 hi123_1 ⊢
          replace hA := FSl.mono le123 hA
          replace hD := FSl.mono le123 hD
          replace hK := ISl.mono le123 hK
          replace hle11 := leMono le123 hle11
          replace hle67 := leMono le123 hle67
          replace hle122 := leMono le123 hle122
          refine wp_seq ?_
          refine region_rule ?_
          refine ops_rule (C := []) [((φ7 0), .cells #[.slice a1 A.length c1, .slice a2 D.length c2] 30)] [] 1 [] 0 (fun φ124 => [(75, .bool (decide (((i123 : Nat) : Int) < ((K.length : Nat) : Int))))]) (fun φ124 => [((φ7 0), .cells #[.slice a1 A.length c1, .slice a2 D.length c2] 30)]) (fun φ124 => []) s trivial (fun φ124 => by kernel_rfl) ?_
          intro φ124 w124 s
          rw [nat_lss (a := i123) (b := K.length)]
          refine ops_done (by kernel_rfl) ?_
          refine wp_seq ?_
          rcases Bool.eq_false_or_eq_true (decide (i123 < K.length)) with hc125 | hc125
          ·
            rw [hc125]
            refine cond_true_rule (b := true) (by kernel_rfl) rfl ?_
            refine wp_skip ?_
            refine wp_seq ?_
            refine wp_block ?_
            refine wp_seq ?_
            refine region_rule ?_
            refine sem_rule (Instr.indexAt 52 (.slice a3 K.length c3) (.int .i64 ((i123 : Nat) : Int))) (some 76) (.pointer (pAt a3 i123)) (by kernel_rfl) (isl_idx hK (by have e8 := hi123_0; have hq0 := of_decide_eq_false hc3; have hq1 := of_decide_eq_false hc5; have hq2 := of_decide_eq_false hc14; have hq3 := of_decide_eq_false hc70; have hq4 := of_decide_eq_true hc125; omega)) ?_
            refine sem_rule (Instr.loadAt 3 (.pointer (pAt a3 i123))) (some 77) (.int .i64 (List.getD K i123 0)) (by kernel_rfl) (isl_ld s.sub hK (by have e8 := hi123_0; have hq0 := of_decide_eq_false hc3; have hq1 := of_decide_eq_false hc5; have hq2 := of_decide_eq_false hc14; have hq3 := of_decide_eq_false hc70; have hq4 := of_decide_eq_true hc125; omega)) ?_
            refine ops_rule (C := []) [((φ7 0), .cells #[.slice a1 A.length c1, .slice a2 D.length c2] 30)] [] 1 [] 0 (fun φ126 => [(15, .int .i64 (List.getD K i123 0))]) (fun φ126 => [((φ7 0), .cells #[.slice a1 A.length c1, .slice a2 D.length c2] 30)]) (fun φ126 => []) s trivial (fun φ126 => by kernel_rfl) ?_
            intro φ126 w126 s
            refine ops_done (by kernel_rfl) ?_
            refine region_rule ?_
            refine ops_rule (C := []) [((φ7 0), .cells #[.slice a1 A.length c1, .slice a2 D.length c2] 30)] [] 2 [] 0 (fun φ127 => [(79, .bool v123), (78, .bool v123)]) (fun φ127 => [((φ7 0), .cells #[.slice a1 A.length c1, .slice a2 D.length c2] 30)]) (fun φ127 => []) s trivial (fun φ127 => by kernel_rfl) ?_
            intro φ127 w127 s
            rcases Bool.eq_false_or_eq_true (v123) with hc128 | hc128
            ·
              rw [hc128]
              refine ops_rule (C := []) [((φ7 0), .cells #[.slice a1 A.length c1, .slice a2 D.length c2] 30)] [] 8 [] 0 (fun φ129 => [(9, .bool true), (86, .bool true), (85, undef), (84, undef), (83, .bool true), (82, .bool true), (81, undef), (80, undef)]) (fun φ129 => [((φ7 0), .cells #[.slice a1 A.length c1, .slice a2 D.length c2] 30)]) (fun φ129 => []) s trivial (fun φ129 => by kernel_rfl) ?_
              intro φ129 w129 s
              refine ops_done (by kernel_rfl) ?_
              refine region_rule ?_
              refine ops_rule (C := []) [((φ7 0), .cells #[.slice a1 A.length c1, .slice a2 D.length c2] 30)] [] 2 [] 0 (fun φ130 => [(74, .int .i64 (IntKind.wrap .i64 (((i123 : Nat) : Int) + ((1 : Nat) : Int)))), (87, .int .i64 (IntKind.wrap .i64 (((i123 : Nat) : Int) + ((1 : Nat) : Int))))]) (fun φ130 => [((φ7 0), .cells #[.slice a1 A.length c1, .slice a2 D.length c2] 30)]) (fun φ130 => []) s trivial (fun φ130 => by kernel_rfl) ?_
              intro φ130 w130 s
              rw [nat_addI (a := i123) (b := 1) (by have e8 := hi123_0; have hq0 := of_decide_eq_false hc3; have hq1 := of_decide_eq_false hc5; have hq2 := of_decide_eq_false hc14; have hq3 := of_decide_eq_false hc70; have hq4 := of_decide_eq_true hc125; omega)]
              refine ops_done (by kernel_rfl) ?_
              have hb131 : true = (v123 || siB (List.getD K i123 0)) := by
                          rw [hc128]; rfl
              exact ⟨⟨m123 - 1, (i123 + 1, true), _, _, _, by have hq0 := of_decide_eq_false hc3; have hq1 := of_decide_eq_false hc5; have hq2 := of_decide_eq_false hc14; have hq3 := of_decide_eq_false hc70; have hq4 := of_decide_eq_true hc125; have := hi123_0; omega, rfl, s, (List.Sublist.cons₂ _ List.Sublist.slnil), by kernel_rfl, hle122, by have hq0 := of_decide_eq_false hc3; have hq1 := of_decide_eq_false hc5; have hq2 := of_decide_eq_false hc14; have hq3 := of_decide_eq_false hc70; have hq4 := of_decide_eq_true hc125; have := hi123_0; show i123 + 1 + (m123 - 1) = K.length; omega, (by rw [any_snocI (by have hq0 := of_decide_eq_false hc3; have hq1 := of_decide_eq_false hc5; have hq2 := of_decide_eq_false hc14; have hq3 := of_decide_eq_false hc70; have hq4 := of_decide_eq_true hc125; have := hi123_0; omega)]; exact flag_next hi123_1 hb131)⟩⟩
            ·
              rw [hc128]
              refine ops_rule (C := []) [((φ7 0), .cells #[.slice a1 A.length c1, .slice a2 D.length c2] 30)] [] 4 [] 0 (fun φ132 => [(83, .bool (decide ((List.getD K i123 0) < ((0 : Nat) : Int)))), (82, .bool (decide ((List.getD K i123 0) < ((0 : Nat) : Int)))), (81, .bool (decide ((List.getD K i123 0) < ((0 : Nat) : Int)))), (80, .int .i64 (List.getD K i123 0))]) (fun φ132 => [((φ7 0), .cells #[.slice a1 A.length c1, .slice a2 D.length c2] 30)]) (fun φ132 => []) s trivial (fun φ132 => by kernel_rfl) ?_
              intro φ132 w132 s
              rcases Bool.eq_false_or_eq_true (decide ((List.getD K i123 0) < ((0 : Nat) : Int))) with hc133 | hc133
              ·
                rw [hc133]
                refine ops_rule (C := []) [((φ7 0), .cells #[.slice a1 A.length c1, .slice a2 D.length c2] 30)] [] 4 [] 0 (fun φ134 => [(9, .bool true), (86, .bool true), (85, undef), (84, undef)]) (fun φ134 => [((φ7 0), .cells #[.slice a1 A.length c1, .slice a2 D.length c2] 30)]) (fun φ134 => []) s trivial (fun φ134 => by kernel_rfl) ?_
                intro φ134 w134 s
                refine ops_done (by kernel_rfl) ?_
                refine region_rule ?_
                refine ops_rule (C := []) [((φ7 0), .cells #[.slice a1 A.length c1, .slice a2 D.length c2] 30)] [] 2 [] 0 (fun φ135 => [(74, .int .i64 (IntKind.wrap .i64 (((i123 : Nat) : Int) + ((1 : Nat) : Int)))), (87, .int .i64 (IntKind.wrap .i64 (((i123 : Nat) : Int) + ((1 : Nat) : Int))))]) (fun φ135 => [((φ7 0), .cells #[.slice a1 A.length c1, .slice a2 D.length c2] 30)]) (fun φ135 => []) s trivial (fun φ135 => by kernel_rfl) ?_
                intro φ135 w135 s
                rw [nat_addI (a := i123) (b := 1) (by have e8 := hi123_0; have hq0 := of_decide_eq_false hc3; have hq1 := of_decide_eq_false hc5; have hq2 := of_decide_eq_false hc14; have hq3 := of_decide_eq_false hc70; have hq4 := of_decide_eq_true hc125; have hq6 := of_decide_eq_true hc133; omega)]
                refine ops_done (by kernel_rfl) ?_
                have hb136 : true = (v123 || siB (List.getD K i123 0)) := by
                            have hq0 := of_decide_eq_false hc3
                            have hq1 := of_decide_eq_false hc5
                            have hq2 := of_decide_eq_false hc14
                            have hq3 := of_decide_eq_false hc70
                            have hq4 := of_decide_eq_true hc125
                            have hq5 := of_decide_eq_true hc133
                            rw [hc128]
                            unfold siB
                            rw [Bool.eq_iff_iff]
                            try simp only [Bool.or_eq_true, decide_eq_true_eq, Bool.false_eq_true, false_or, true_iff, false_iff, iff_true, eq_self_iff_true]
                            try omega
                exact ⟨⟨m123 - 1, (i123 + 1, true), _, _, _, by have hq0 := of_decide_eq_false hc3; have hq1 := of_decide_eq_false hc5; have hq2 := of_decide_eq_false hc14; have hq3 := of_decide_eq_false hc70; have hq4 := of_decide_eq_true hc125; have hq5 := of_decide_eq_true hc133; have := hi123_0; omega, rfl, s, (List.Sublist.cons₂ _ List.Sublist.slnil), by kernel_rfl, hle122, by have hq0 := of_decide_eq_false hc3; have hq1 := of_decide_eq_false hc5; have hq2 := of_decide_eq_false hc14; have hq3 := of_decide_eq_false hc70; have hq4 := of_decide_eq_true hc125; have hq5 := of_decide_eq_true hc133; have := hi123_0; show i123 + 1 + (m123 - 1) = K.length; omega, (by rw [any_snocI (by have hq0 := of_decide_eq_false hc3; have hq1 := of_decide_eq_false hc5; have hq2 := of_decide_eq_false hc14; have hq3 := of_decide_eq_false hc70; have hq4 := of_decide_eq_true hc125; have hq5 := of_decide_eq_true hc133; have := hi123_0; omega)]; exact flag_next hi123_1 hb136)⟩⟩
              ·
                rw [hc133]
                refine ops_rule (C := []) [((φ7 0), .cells #[.slice a1 A.length c1, .slice a2 D.length c2] 30)] [] 4 [] 0 (fun φ137 => [(9, .bool (decide ((List.getD K i123 0) > ((255 : Nat) : Int)))), (86, .bool (decide ((List.getD K i123 0) > ((255 : Nat) : Int)))), (85, .bool (decide ((List.getD K i123 0) > ((255 : Nat) : Int)))), (84, .int .i64 (List.getD K i123 0))]) (fun φ137 => [((φ7 0), .cells #[.slice a1 A.length c1, .slice a2 D.length c2] 30)]) (fun φ137 => []) s trivial (fun φ137 => by kernel_rfl) ?_
                intro φ137 w137 s
                refine ops_done (by kernel_rfl) ?_
                refine region_rule ?_
                refine ops_rule (C := []) [((φ7 0), .cells #[.slice a1 A.length c1, .slice a2 D.length c2] 30)] [] 2 [] 0 (fun φ138 => [(74, .int .i64 (IntKind.wrap .i64 (((i123 : Nat) : Int) + ((1 : Nat) : Int)))), (87, .int .i64 (IntKind.wrap .i64 (((i123 : Nat) : Int) + ((1 : Nat) : Int))))]) (fun φ138 => [((φ7 0), .cells #[.slice a1 A.length c1, .slice a2 D.length c2] 30)]) (fun φ138 => []) s trivial (fun φ138 => by kernel_rfl) ?_
                intro φ138 w138 s
                rw [nat_addI (a := i123) (b := 1) (by have e8 := hi123_0; have hq0 := of_decide_eq_false hc3; have hq1 := of_decide_eq_false hc5; have hq2 := of_decide_eq_false hc14; have hq3 := of_decide_eq_false hc70; have hq4 := of_decide_eq_true hc125; have hq6 := of_decide_eq_false hc133; omega)]
                refine ops_done (by kernel_rfl) ?_
                have hb139 : (decide ((List.getD K i123 0) > ((255 : Nat) : Int))) = (v123 || siB (List.getD K i123 0)) := by
                            have hq0 := of_decide_eq_false hc3
                            have hq1 := of_decide_eq_false hc5
                            have hq2 := of_decide_eq_false hc14
                            have hq3 := of_decide_eq_false hc70
                            have hq4 := of_decide_eq_true hc125
                            have hq5 := of_decide_eq_false hc133
                            rw [hc128]
                            unfold siB
                            rw [Bool.eq_iff_iff]
                            try simp only [Bool.or_eq_true, decide_eq_true_eq, Bool.false_eq_true, false_or, true_iff, false_iff, iff_true, eq_self_iff_true]
                            try omega
                exact ⟨⟨m123 - 1, (i123 + 1, (decide ((List.getD K i123 0) > ((255 : Nat) : Int)))), _, _, _, by have hq0 := of_decide_eq_false hc3; have hq1 := of_decide_eq_false hc5; have hq2 := of_decide_eq_false hc14; have hq3 := of_decide_eq_false hc70; have hq4 := of_decide_eq_true hc125; have hq5 := of_decide_eq_false hc133; have := hi123_0; omega, rfl, s, (List.Sublist.cons₂ _ List.Sublist.slnil), by kernel_rfl, hle122, by have hq0 := of_decide_eq_false hc3; have hq1 := of_decide_eq_false hc5; have hq2 := of_decide_eq_false hc14; have hq3 := of_decide_eq_false hc70; have hq4 := of_decide_eq_true hc125; have hq5 := of_decide_eq_false hc133; have := hi123_0; show i123 + 1 + (m123 - 1) = K.length; omega, (by rw [any_snocI (by have hq0 := of_decide_eq_false hc3; have hq1 := of_decide_eq_false hc5; have hq2 := of_decide_eq_false hc14; have hq3 := of_decide_eq_false hc70; have hq4 := of_decide_eq_true hc125; have hq5 := of_decide_eq_false hc133; have := hi123_0; omega)]; exact flag_next hi123_1 hb139)⟩⟩
          ·
            rw [hc125]
            refine cond_false_rule (b := false) (by kernel_rfl) rfl ?_
            refine wp_exit ?_
            have ei140 : K.take i123 = K := List.take_of_length_le (by have hq0 := of_decide_eq_false hc3; have hq1 := of_decide_eq_false hc5; have hq2 := of_decide_eq_false hc14; have hq3 := of_decide_eq_false hc70; have hq4 := of_decide_eq_false hc125; have := hi123_0; omega)
            have hf9140 := hi123_1
            rw [ei140] at hf9140
            refine wp_seq ?_
            refine wp_seq ?_
            refine region_rule ?_
            refine ops_rule (C := []) [((φ7 0), .cells #[.slice a1 A.length c1, .slice a2 D.length c2] 30)] [] 1 [] 0 (fun φ141 => [(88, .bool u68)]) (fun φ141 => [((φ7 0), .cells #[.slice a1 A.length c1, .slice a2 D.length c2] 30)]) (fun φ141 => []) s trivial (fun φ141 => by kernel_rfl) ?_
            intro φ141 w141 s
            refine ops_done (by kernel_rfl) ?_
            rcases Bool.eq_false_or_eq_true (u68) with hc142 | hc142
            ·
              rw [hc142]
              refine cond_true_rule (b := true) (by kernel_rfl) rfl ?_
              refine wp_seq ?_
              refine region_rule ?_
              refine ops_rule (C := []) [((φ7 0), .cells #[.slice a1 A.length c1, .slice a2 D.length c2] 30)] [] 2 [] 0 (fun φ143 => [(7, .int .i64 9), (6, .slice none 0 0)]) (fun φ143 => [((φ7 0), .cells #[.slice a1 A.length c1, .slice a2 D.length c2] 30)]) (fun φ143 => []) s trivial (fun φ143 => by kernel_rfl) ?_
              intro φ143 w143 s
              refine ops_done (by kernel_rfl) ?_
              refine wp_ret ?_
              refine ret_rule (C := []) [((φ7 0), .cells #[.slice a1 A.length c1, .slice a2 D.length c2] 30)] [] (.tuple #[.slice none 0 0, .int .i64 9]) [] [] s trivial (by kernel_rfl) ?_
              exact ⟨_, _, _, rfl, s, (by rw [pt_long (hf8118.symm.trans hc142)]; rfl)⟩
            ·
              rw [hc142]
              refine cond_false_rule (b := false) (by kernel_rfl) rfl ?_
              refine wp_skip ?_
              refine wp_seq ?_
              refine wp_seq ?_
              refine region_rule ?_
              refine ops_rule (C := []) [((φ7 0), .cells #[.slice a1 A.length c1, .slice a2 D.length c2] 30)] [] 1 [] 0 (fun φ144 => [(89, .bool v123)]) (fun φ144 => [((φ7 0), .cells #[.slice a1 A.length c1, .slice a2 D.length c2] 30)]) (fun φ144 => []) s trivial (fun φ144 => by kernel_rfl) ?_
              intro φ144 w144 s
              refine ops_done (by kernel_rfl) ?_
              rcases Bool.eq_false_or_eq_true (v123) with hc145 | hc145
              ·
                rw [hc145]
                refine cond_true_rule (b := true) (by kernel_rfl) rfl ?_
                refine wp_seq ?_
                refine region_rule ?_
                refine ops_rule (C := []) [((φ7 0), .cells #[.slice a1 A.length c1, .slice a2 D.length c2] 30)] [] 2 [] 0 (fun φ146 => [(7, .int .i64 1), (6, .slice none 0 0)]) (fun φ146 => [((φ7 0), .cells #[.slice a1 A.length c1, .slice a2 D.length c2] 30)]) (fun φ146 => []) s trivial (fun φ146 => by kernel_rfl) ?_
                intro φ146 w146 s
                refine ops_done (by kernel_rfl) ?_
                refine wp_ret ?_
                refine ret_rule (C := []) [((φ7 0), .cells #[.slice a1 A.length c1, .slice a2 D.length c2] 30)] [] (.tuple #[.slice none 0 0, .int .i64 1]) [] [] s trivial (by kernel_rfl) ?_
                exact ⟨_, _, _, rfl, s, (by rw [pt_odd (hf8118.symm.trans hc142) (hf9140.symm.trans hc145)]; rfl)⟩
              ·
                rw [hc145]
                refine cond_false_rule (b := false) (by kernel_rfl) rfl ?_
                refine wp_skip ?_
                refine wp_seq ?_
                exact absurd (show ptE A D K = 0 from pt_none (hf8118.symm.trans hc142) (hf9140.symm.trans hc145)) he

end Go.Proofs.YtcpmjogeafhpnaaDoor
