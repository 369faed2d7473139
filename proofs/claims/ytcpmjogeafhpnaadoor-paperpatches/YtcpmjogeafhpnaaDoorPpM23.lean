/- The document writes a patch. -/
import Derived.Test.YtcpmjogeafhpnaaDoorPpM21
import Derived.Test.YtcpmjogeafhpnaaDoorPpM20
import Derived.Test.YtcpmjogeafhpnaaDoorPpRf
import Derived.Laws.MakeOwn
set_option linter.all false
set_option maxRecDepth 100000
namespace Go.Proofs.YtcpmjogeafhpnaaDoor
open Go.RowKit Go.Sep
attribute [local irreducible] Go.wpList Go.Code.wp

set_option maxHeartbeats 8000000 in
theorem refWrite_c {I : IM} {A D : List Fe} {K : List Nat} {a1 a2 a3 : Option Addr} {c1 c2 c3 : Nat} (hA : FSl I A (.slice a1 A.length c1)) (hD : FSl I D (.slice a2 D.length c2)) (hK : KSl I K (.slice a3 K.length c3)) (hlA : A.length ≤ 255) (hlD : D.length ≤ 255) (hlK : K.length ≤ 255) (okA : okL A) (okD : okL D) (hok : ∀ i, i < K.length → K.getD i 0 ≤ 255) : Fun Tryd.prog 45 #[.slice a1 A.length c1, .slice a2 D.length c2, .slice a3 K.length c3] I (fun v J => ∃ a c, v = .tuple #[.slice a (encP A D K).length c, .int .i64 0] ∧ BSl J (encP A D K) (.slice a (encP A D K).length c)) := by
  refine enter_rule 113 [(0, .slice a1 A.length c1), (1, .slice a2 D.length c2), (2, .slice a3 K.length c3)] Tryd.func45 rfl (by kernel_rfl) ?_
  intro w s
  refine wp_seq ?_
  refine region_rule ?_
  refine ops_rule (C := []) [] [] 2 [] 0 (fun φ1 => [(7, .int .i64 0), (6, .slice none 0 0)]) (fun φ1 => []) (fun φ1 => []) s trivial (fun φ1 => by kernel_rfl) ?_
  intro φ1 w1 s
  refine ops_done (by kernel_rfl) ?_
  refine wp_seq ?_
  refine region_rule ?_
  refine ops_rule (C := []) [] [] 4 [] 0 (fun φ2 => [(22, .bool (decide (((A.length : Nat) : Int) > ((255 : Nat) : Int)))), (21, .bool (decide (((A.length : Nat) : Int) > ((255 : Nat) : Int)))), (20, .int .i64 ((A.length : Nat) : Int)), (19, .slice a1 A.length c1)]) (fun φ2 => []) (fun φ2 => []) s trivial (fun φ2 => by kernel_rfl) ?_
  intro φ2 w2 s
  rw [nat_gtr (a := A.length) (b := 255)]
  rcases Bool.eq_false_or_eq_true (decide (255 < A.length)) with hc3 | hc3
  ·
    exact absurd (of_decide_eq_true hc3) (by omega)
  ·
    rw [hc3]
    refine ops_rule (C := []) [] [] 5 [] 0 (fun φ4 => [(27, .bool (decide (((D.length : Nat) : Int) > ((255 : Nat) : Int)))), (26, .bool (decide (((D.length : Nat) : Int) > ((255 : Nat) : Int)))), (25, .bool (decide (((D.length : Nat) : Int) > ((255 : Nat) : Int)))), (24, .int .i64 ((D.length : Nat) : Int)), (23, .slice a2 D.length c2)]) (fun φ4 => []) (fun φ4 => []) s trivial (fun φ4 => by kernel_rfl) ?_
    intro φ4 w4 s
    rw [nat_gtr (a := D.length) (b := 255)]
    rcases Bool.eq_false_or_eq_true (decide (255 < D.length)) with hc5 | hc5
    ·
      exact absurd (of_decide_eq_true hc5) (by omega)
    ·
      rw [hc5]
      refine ops_rule (C := []) [] [] 6 [] 0 (fun φ6 => [(9, .bool false), (8, .bool (decide (((K.length : Nat) : Int) > ((255 : Nat) : Int)))), (31, .bool (decide (((K.length : Nat) : Int) > ((255 : Nat) : Int)))), (30, .bool (decide (((K.length : Nat) : Int) > ((255 : Nat) : Int)))), (29, .int .i64 ((K.length : Nat) : Int)), (28, .slice a3 K.length c3)]) (fun φ6 => []) (fun φ6 => []) s trivial (fun φ6 => by kernel_rfl) ?_
      intro φ6 w6 s
      rw [nat_gtr (a := K.length) (b := 255)]
      refine ops_done (by kernel_rfl) ?_
      refine wp_seq ?_
      refine wp_seq ?_
      refine region_rule ?_
      refine ops_rule (C := []) [] [] 5 [] 1 (fun φ7 => [(36, .int .i64 0), (35, .int .i64 2), (34, .slice (some ⟨(φ7 0), 0, none⟩) 2 2), (33, .slice a2 D.length c2), (32, .slice a1 A.length c1)]) (fun φ7 => [((φ7 0), .cells #[.slice a1 A.length c1, .slice a2 D.length c2] 30)]) (fun φ7 => []) s trivial (fun φ7 => by kernel_rfl) ?_
      intro φ7 w7 s
      refine ops_done (by kernel_rfl) ?_
      refine wp_block ?_
      refine Go.wp_loop_rounds 3 ?_
      refine rounds_step (n := 2) ?_
      refine wp_seq ?_
      refine region_rule ?_
      refine ops_rule (C := []) [((φ7 0), .cells #[.slice a1 A.length c1, .slice a2 D.length c2] 30)] [] 1 [] 0 (fun φ8 => [(37, .bool true)]) (fun φ8 => [((φ7 0), .cells #[.slice a1 A.length c1, .slice a2 D.length c2] 30)]) (fun φ8 => []) s trivial (fun φ8 => by kernel_rfl) ?_
      intro φ8 w8 s
      refine ops_done (by kernel_rfl) ?_
      refine wp_seq ?_
      refine cond_true_rule (b := true) (by kernel_rfl) rfl ?_
      refine wp_skip ?_
      refine wp_seq ?_
      refine wp_block ?_
      refine wp_seq ?_
      refine region_rule ?_
      refine ops_rule (C := []) [((φ7 0), .cells #[.slice a1 A.length c1, .slice a2 D.length c2] 30)] [] 3 [.o 0] 0 (fun φ9 => [(11, .slice a1 A.length c1), (39, .slice a1 A.length c1), (38, .pointer (some ⟨(φ7 0), 0, none⟩))]) (fun φ9 => [((φ7 0), .cells #[.slice a1 A.length c1, .slice a2 D.length c2] 30)]) (fun φ9 => [(φ7 0)]) s trivial (fun φ9 => by kernel_rfl) ?_
      intro φ9 w9 s
      refine ops_done (by kernel_rfl) ?_
      refine wp_seq ?_
      refine region_rule ?_
      refine ops_rule (C := []) [((φ7 0), .cells #[.slice a1 A.length c1, .slice a2 D.length c2] 30)] [] 3 [] 0 (fun φ10 => [(42, .int .i64 0), (41, .int .i64 ((A.length : Nat) : Int)), (40, .slice a1 A.length c1)]) (fun φ10 => [((φ7 0), .cells #[.slice a1 A.length c1, .slice a2 D.length c2] 30)]) (fun φ10 => []) s trivial (fun φ10 => by kernel_rfl) ?_
      intro φ10 w10 s
      refine ops_done (by kernel_rfl) ?_
      refine wp_block ?_
      have hle11 := IM.Le.refl I
      refine loop_rule (fun (x : Nat × Bool × Bool) => [(0, .slice a1 A.length c1), (1, .slice a2 D.length c2), (2, .slice a3 K.length c3), (6, .slice none 0 0), (7, .int .i64 0), (32, .slice a1 A.length c1), (33, .slice a2 D.length c2), (34, .slice (some ⟨(φ7 0), 0, none⟩) 2 2), (35, .int .i64 2), (36, .int .i64 0), (11, .slice a1 A.length c1), (40, .slice a1 A.length c1), (41, .int .i64 ((A.length : Nat) : Int)), (42, .int .i64 ((x.1 : Nat) : Int)), (8, .bool x.2.1), (9, .bool x.2.2)]) (fun (x : Nat × Bool × Bool) => [((φ7 0), .cells #[.slice a1 A.length c1, .slice a2 D.length c2] 30)]) (fun m (x : Nat × Bool × Bool) J => IM.Le I J ∧ x.1 + m = A.length ∧ x.2.1 = false ∧ x.2.2 = false) (A.length) (0, (decide (255 < K.length)), false) s (by kernel_rfl) (List.Sublist.cons₂ _ List.Sublist.slnil) ⟨IM.Le.refl _, Nat.zero_add _, (decide_eq_false (by have hq0 := of_decide_eq_false hc3; have hq1 := of_decide_eq_false hc5;  omega)), rfl⟩ ?_
      rintro m12 ⟨i12, u12, v12⟩ I12 w12 ev12 s ⟨le12, hi12_0, hi12_1, hi12_2⟩
      try dsimp only at s hi12_0 hi12_1 hi12_2 ⊢
      replace hA := FSl.mono le12 hA
      replace hD := FSl.mono le12 hD
      replace hK := KSl.mono le12 hK
      replace hle11 := leMono le12 hle11
      obtain rfl : u12 = false := hi12_1
      obtain rfl : v12 = false := hi12_2
      refine wp_seq ?_
      refine region_rule ?_
      refine ops_rule (C := []) [((φ7 0), .cells #[.slice a1 A.length c1, .slice a2 D.length c2] 30)] [] 1 [] 0 (fun φ13 => [(43, .bool (decide (((i12 : Nat) : Int) < ((A.length : Nat) : Int))))]) (fun φ13 => [((φ7 0), .cells #[.slice a1 A.length c1, .slice a2 D.length c2] 30)]) (fun φ13 => []) s trivial (fun φ13 => by kernel_rfl) ?_
      intro φ13 w13 s
      rw [nat_lss (a := i12) (b := A.length)]
      refine ops_done (by kernel_rfl) ?_
      refine wp_seq ?_
      rcases Bool.eq_false_or_eq_true (decide (i12 < A.length)) with hc14 | hc14
      ·
        rw [hc14]
        refine cond_true_rule (b := true) (by kernel_rfl) rfl ?_
        refine wp_skip ?_
        refine wp_seq ?_
        refine wp_block ?_
        refine wp_seq ?_
        refine region_rule ?_
        refine sem_rule (Instr.indexAt 30 (.slice a1 A.length c1) (.int .i64 ((i12 : Nat) : Int))) (some 44) (.pointer (pAt a1 (i12 * 3))) (by kernel_rfl) (fsl_idx30 hA (by have e8 := hi12_0; have hq0 := of_decide_eq_false hc3; have hq1 := of_decide_eq_false hc5; have hq2 := of_decide_eq_true hc14; omega)) ?_
        refine sem_rule (Instr.loadAt 42 (.pointer (pAt a1 (i12 * 3)))) (some 45) (.agg #[.int .i64 ((List.getD A i12 Fe.z).k), .string ⟨((List.getD A i12 Fe.z).a).toArray⟩, .string ⟨((List.getD A i12 Fe.z).v).toArray⟩]) (by kernel_rfl) (fsl_ld42 s.sub hA (by have e8 := hi12_0; have hq0 := of_decide_eq_false hc3; have hq1 := of_decide_eq_false hc5; have hq2 := of_decide_eq_true hc14; omega)) ?_
        refine ops_rule (C := []) [((φ7 0), .cells #[.slice a1 A.length c1, .slice a2 D.length c2] 30)] [] 2 [.o 1, .o 1, .o 1] 1 (fun φ15 => [(13, .pointer (some ⟨(φ15 0), 0, none⟩))]) (fun φ15 => [((φ7 0), .cells #[.slice a1 A.length c1, .slice a2 D.length c2] 30), ((φ15 0), .cells #[.int .i64 ((List.getD A i12 Fe.z).k), .string ⟨((List.getD A i12 Fe.z).a).toArray⟩, .string ⟨((List.getD A i12 Fe.z).v).toArray⟩] 42)]) (fun φ15 => [(φ15 0), (φ15 0), (φ15 0)]) s trivial (fun φ15 => by kernel_rfl) ?_
        intro φ15 w15 s
        refine ops_done (by kernel_rfl) ?_
        refine wp_seq ?_
        refine region_rule ?_
        refine ops_rule (C := []) [((φ7 0), .cells #[.slice a1 A.length c1, .slice a2 D.length c2] 30), ((φ15 0), .cells #[.int .i64 ((List.getD A i12 Fe.z).k), .string ⟨((List.getD A i12 Fe.z).a).toArray⟩, .string ⟨((List.getD A i12 Fe.z).v).toArray⟩] 42)] [] 8 [.o 1] 0 (fun φ16 => [(53, .bool (decide (((((List.getD A i12 Fe.z).a).length : Nat) : Int) > ((255 : Nat) : Int)))), (52, .bool (decide (((((List.getD A i12 Fe.z).a).length : Nat) : Int) > ((255 : Nat) : Int)))), (51, .bool (decide (((((List.getD A i12 Fe.z).a).length : Nat) : Int) > ((255 : Nat) : Int)))), (50, .int .i64 ((((List.getD A i12 Fe.z).a).length : Nat) : Int)), (49, .string ⟨((List.getD A i12 Fe.z).a).toArray⟩), (48, .pointer (some ⟨(φ15 0), 1, none⟩)), (47, .bool false), (46, .bool false)]) (fun φ16 => [((φ7 0), .cells #[.slice a1 A.length c1, .slice a2 D.length c2] 30), ((φ15 0), .cells #[.int .i64 ((List.getD A i12 Fe.z).k), .string ⟨((List.getD A i12 Fe.z).a).toArray⟩, .string ⟨((List.getD A i12 Fe.z).v).toArray⟩] 42)]) (fun φ16 => [(φ15 0)]) s trivial (fun φ16 => by kernel_rfl) ?_
        intro φ16 w16 s
        rw [nat_gtr (a := (((List.getD A i12 Fe.z).a).length)) (b := 255)]
        rcases Bool.eq_false_or_eq_true (decide (255 < (((List.getD A i12 Fe.z).a).length))) with hc17 | hc17
        ·
          exact absurd (of_decide_eq_true hc17) (by have h9 := okA i12 (by have hq0 := of_decide_eq_false hc3; have hq1 := of_decide_eq_false hc5; have hq2 := of_decide_eq_true hc14; have e8 := hi12_0; omega); obtain ⟨h1, h2, h3, h4⟩ := h9; omega)
        ·
          rw [hc17]
          refine ops_rule (C := []) [((φ7 0), .cells #[.slice a1 A.length c1, .slice a2 D.length c2] 30), ((φ15 0), .cells #[.int .i64 ((List.getD A i12 Fe.z).k), .string ⟨((List.getD A i12 Fe.z).a).toArray⟩, .string ⟨((List.getD A i12 Fe.z).v).toArray⟩] 42)] [] 6 [.o 1] 0 (fun φ18 => [(8, .bool (decide (((((List.getD A i12 Fe.z).v).length : Nat) : Int) > ((255 : Nat) : Int)))), (58, .bool (decide (((((List.getD A i12 Fe.z).v).length : Nat) : Int) > ((255 : Nat) : Int)))), (57, .bool (decide (((((List.getD A i12 Fe.z).v).length : Nat) : Int) > ((255 : Nat) : Int)))), (56, .int .i64 ((((List.getD A i12 Fe.z).v).length : Nat) : Int)), (55, .string ⟨((List.getD A i12 Fe.z).v).toArray⟩), (54, .pointer (some ⟨(φ15 0), 2, none⟩))]) (fun φ18 => [((φ7 0), .cells #[.slice a1 A.length c1, .slice a2 D.length c2] 30), ((φ15 0), .cells #[.int .i64 ((List.getD A i12 Fe.z).k), .string ⟨((List.getD A i12 Fe.z).a).toArray⟩, .string ⟨((List.getD A i12 Fe.z).v).toArray⟩] 42)]) (fun φ18 => [(φ15 0)]) s trivial (fun φ18 => by kernel_rfl) ?_
          intro φ18 w18 s
          rw [nat_gtr (a := (((List.getD A i12 Fe.z).v).length)) (b := 255)]
          refine ops_done (by kernel_rfl) ?_
          refine region_rule ?_
          refine ops_rule (C := []) [((φ7 0), .cells #[.slice a1 A.length c1, .slice a2 D.length c2] 30), ((φ15 0), .cells #[.int .i64 ((List.getD A i12 Fe.z).k), .string ⟨((List.getD A i12 Fe.z).a).toArray⟩, .string ⟨((List.getD A i12 Fe.z).v).toArray⟩] 42)] [] 7 [.o 1] 0 (fun φ19 => [(65, .bool (decide (((List.getD A i12 Fe.z).k) < ((0 : Nat) : Int)))), (64, .bool (decide (((List.getD A i12 Fe.z).k) < ((0 : Nat) : Int)))), (63, .bool (decide (((List.getD A i12 Fe.z).k) < ((0 : Nat) : Int)))), (62, .int .i64 ((List.getD A i12 Fe.z).k)), (61, .pointer (some ⟨(φ15 0), 0, none⟩)), (60, .bool false), (59, .bool false)]) (fun φ19 => [((φ7 0), .cells #[.slice a1 A.length c1, .slice a2 D.length c2] 30), ((φ15 0), .cells #[.int .i64 ((List.getD A i12 Fe.z).k), .string ⟨((List.getD A i12 Fe.z).a).toArray⟩, .string ⟨((List.getD A i12 Fe.z).v).toArray⟩] 42)]) (fun φ19 => [(φ15 0)]) s trivial (fun φ19 => by kernel_rfl) ?_
          intro φ19 w19 s
          rcases Bool.eq_false_or_eq_true (decide (((List.getD A i12 Fe.z).k) < ((0 : Nat) : Int))) with hc20 | hc20
          ·
            exact absurd (of_decide_eq_true hc20) (by have h9 := okA i12 (by have hq0 := of_decide_eq_false hc3; have hq1 := of_decide_eq_false hc5; have hq2 := of_decide_eq_true hc14; have hq3 := of_decide_eq_false hc17; have e8 := hi12_0; omega); obtain ⟨h1, h2, h3, h4⟩ := h9; omega)
          ·
            rw [hc20]
            refine ops_rule (C := []) [((φ7 0), .cells #[.slice a1 A.length c1, .slice a2 D.length c2] 30), ((φ15 0), .cells #[.int .i64 ((List.getD A i12 Fe.z).k), .string ⟨((List.getD A i12 Fe.z).a).toArray⟩, .string ⟨((List.getD A i12 Fe.z).v).toArray⟩] 42)] [] 5 [.o 1] 0 (fun φ21 => [(9, .bool (decide (((List.getD A i12 Fe.z).k) > ((255 : Nat) : Int)))), (69, .bool (decide (((List.getD A i12 Fe.z).k) > ((255 : Nat) : Int)))), (68, .bool (decide (((List.getD A i12 Fe.z).k) > ((255 : Nat) : Int)))), (67, .int .i64 ((List.getD A i12 Fe.z).k)), (66, .pointer (some ⟨(φ15 0), 0, none⟩))]) (fun φ21 => [((φ7 0), .cells #[.slice a1 A.length c1, .slice a2 D.length c2] 30), ((φ15 0), .cells #[.int .i64 ((List.getD A i12 Fe.z).k), .string ⟨((List.getD A i12 Fe.z).a).toArray⟩, .string ⟨((List.getD A i12 Fe.z).v).toArray⟩] 42)]) (fun φ21 => [(φ15 0)]) s trivial (fun φ21 => by kernel_rfl) ?_
            intro φ21 w21 s
            refine ops_done (by kernel_rfl) ?_
            refine region_rule ?_
            refine ops_rule (C := []) [((φ7 0), .cells #[.slice a1 A.length c1, .slice a2 D.length c2] 30), ((φ15 0), .cells #[.int .i64 ((List.getD A i12 Fe.z).k), .string ⟨((List.getD A i12 Fe.z).a).toArray⟩, .string ⟨((List.getD A i12 Fe.z).v).toArray⟩] 42)] [] 2 [] 0 (fun φ22 => [(42, .int .i64 (IntKind.wrap .i64 (((i12 : Nat) : Int) + ((1 : Nat) : Int)))), (70, .int .i64 (IntKind.wrap .i64 (((i12 : Nat) : Int) + ((1 : Nat) : Int))))]) (fun φ22 => [((φ7 0), .cells #[.slice a1 A.length c1, .slice a2 D.length c2] 30), ((φ15 0), .cells #[.int .i64 ((List.getD A i12 Fe.z).k), .string ⟨((List.getD A i12 Fe.z).a).toArray⟩, .string ⟨((List.getD A i12 Fe.z).v).toArray⟩] 42)]) (fun φ22 => []) s trivial (fun φ22 => by kernel_rfl) ?_
            intro φ22 w22 s
            rw [nat_addI (a := i12) (b := 1) (by have e8 := hi12_0; have hq0 := of_decide_eq_false hc3; have hq1 := of_decide_eq_false hc5; have hq2 := of_decide_eq_true hc14; have hq3 := of_decide_eq_false hc17; have hq4 := of_decide_eq_false hc20; omega)]
            refine ops_done (by kernel_rfl) ?_
            exact ⟨⟨m12 - 1, (i12 + 1, (decide (255 < (((List.getD A i12 Fe.z).v).length))), (decide (((List.getD A i12 Fe.z).k) > ((255 : Nat) : Int)))), _, _, _, by have hq0 := of_decide_eq_false hc3; have hq1 := of_decide_eq_false hc5; have hq2 := of_decide_eq_true hc14; have hq3 := of_decide_eq_false hc17; have hq4 := of_decide_eq_false hc20; have := hi12_0; omega, rfl, s, (List.Sublist.cons₂ _ (List.Sublist.cons _ List.Sublist.slnil)), by kernel_rfl, hle11, by have hq0 := of_decide_eq_false hc3; have hq1 := of_decide_eq_false hc5; have hq2 := of_decide_eq_true hc14; have hq3 := of_decide_eq_false hc17; have hq4 := of_decide_eq_false hc20; have := hi12_0; show i12 + 1 + (m12 - 1) = A.length; omega, (decide_eq_false (by have hq0 := of_decide_eq_false hc3; have hq1 := of_decide_eq_false hc5; have hq2 := of_decide_eq_true hc14; have hq3 := of_decide_eq_false hc17; have hq4 := of_decide_eq_false hc20; have h9 := okA i12 (by have := hi12_0; omega); obtain ⟨h1, h2, h3, h4⟩ := h9; omega)), (decide_eq_false (by have hq0 := of_decide_eq_false hc3; have hq1 := of_decide_eq_false hc5; have hq2 := of_decide_eq_true hc14; have hq3 := of_decide_eq_false hc17; have hq4 := of_decide_eq_false hc20; have h9 := okA i12 (by have := hi12_0; omega); obtain ⟨h1, h2, h3, h4⟩ := h9; omega))⟩⟩
      ·
        rw [hc14]
        refine cond_false_rule (b := false) (by kernel_rfl) rfl ?_
        refine wp_exit ?_
        refine region_rule ?_
        refine ops_rule (C := []) [((φ7 0), .cells #[.slice a1 A.length c1, .slice a2 D.length c2] 30)] [] 2 [] 0 (fun φ23 => [(36, .int .i64 1), (71, .int .i64 1)]) (fun φ23 => [((φ7 0), .cells #[.slice a1 A.length c1, .slice a2 D.length c2] 30)]) (fun φ23 => []) s trivial (fun φ23 => by kernel_rfl) ?_
        intro φ23 w23 s
        refine ops_done (by kernel_rfl) ?_
        refine rounds_step (n := 1) ?_
        refine wp_seq ?_
        refine region_rule ?_
        refine ops_rule (C := []) [((φ7 0), .cells #[.slice a1 A.length c1, .slice a2 D.length c2] 30)] [] 1 [] 0 (fun φ24 => [(37, .bool true)]) (fun φ24 => [((φ7 0), .cells #[.slice a1 A.length c1, .slice a2 D.length c2] 30)]) (fun φ24 => []) s trivial (fun φ24 => by kernel_rfl) ?_
        intro φ24 w24 s
        refine ops_done (by kernel_rfl) ?_
        refine wp_seq ?_
        refine cond_true_rule (b := true) (by kernel_rfl) rfl ?_
        refine wp_skip ?_
        refine wp_seq ?_
        refine wp_block ?_
        refine wp_seq ?_
        refine region_rule ?_
        refine ops_rule (C := []) [((φ7 0), .cells #[.slice a1 A.length c1, .slice a2 D.length c2] 30)] [] 3 [.o 0] 0 (fun φ25 => [(11, .slice a2 D.length c2), (39, .slice a2 D.length c2), (38, .pointer (some ⟨(φ7 0), 1, none⟩))]) (fun φ25 => [((φ7 0), .cells #[.slice a1 A.length c1, .slice a2 D.length c2] 30)]) (fun φ25 => [(φ7 0)]) s trivial (fun φ25 => by kernel_rfl) ?_
        intro φ25 w25 s
        refine ops_done (by kernel_rfl) ?_
        refine wp_seq ?_
        refine region_rule ?_
        refine ops_rule (C := []) [((φ7 0), .cells #[.slice a1 A.length c1, .slice a2 D.length c2] 30)] [] 3 [] 0 (fun φ26 => [(42, .int .i64 0), (41, .int .i64 ((D.length : Nat) : Int)), (40, .slice a2 D.length c2)]) (fun φ26 => [((φ7 0), .cells #[.slice a1 A.length c1, .slice a2 D.length c2] 30)]) (fun φ26 => []) s trivial (fun φ26 => by kernel_rfl) ?_
        intro φ26 w26 s
        refine ops_done (by kernel_rfl) ?_
        refine wp_block ?_
        have hle27 := IM.Le.refl I12
        refine loop_rule (fun (x : Nat × Bool × Bool) => [(0, .slice a1 A.length c1), (1, .slice a2 D.length c2), (2, .slice a3 K.length c3), (6, .slice none 0 0), (7, .int .i64 0), (32, .slice a1 A.length c1), (33, .slice a2 D.length c2), (34, .slice (some ⟨(φ7 0), 0, none⟩) 2 2), (35, .int .i64 2), (36, .int .i64 1), (11, .slice a2 D.length c2), (40, .slice a2 D.length c2), (41, .int .i64 ((D.length : Nat) : Int)), (42, .int .i64 ((x.1 : Nat) : Int)), (8, .bool x.2.1), (9, .bool x.2.2)]) (fun (x : Nat × Bool × Bool) => [((φ7 0), .cells #[.slice a1 A.length c1, .slice a2 D.length c2] 30)]) (fun m (x : Nat × Bool × Bool) J => IM.Le I12 J ∧ x.1 + m = D.length ∧ x.2.1 = false ∧ x.2.2 = false) (D.length) (0, false, false) s (by kernel_rfl) (List.Sublist.cons₂ _ List.Sublist.slnil) ⟨IM.Le.refl _, Nat.zero_add _, rfl, rfl⟩ ?_
        rintro m28 ⟨i28, u28, v28⟩ I28 w28 ev28 s ⟨le28, hi28_0, hi28_1, hi28_2⟩
        try dsimp only at s hi28_0 hi28_1 hi28_2 ⊢
        replace hA := FSl.mono le28 hA
        replace hD := FSl.mono le28 hD
        replace hK := KSl.mono le28 hK
        replace hle11 := leMono le28 hle11
        replace hle27 := leMono le28 hle27
        obtain rfl : u28 = false := hi28_1
        obtain rfl : v28 = false := hi28_2
        refine wp_seq ?_
        refine region_rule ?_
        refine ops_rule (C := []) [((φ7 0), .cells #[.slice a1 A.length c1, .slice a2 D.length c2] 30)] [] 1 [] 0 (fun φ29 => [(43, .bool (decide (((i28 : Nat) : Int) < ((D.length : Nat) : Int))))]) (fun φ29 => [((φ7 0), .cells #[.slice a1 A.length c1, .slice a2 D.length c2] 30)]) (fun φ29 => []) s trivial (fun φ29 => by kernel_rfl) ?_
        intro φ29 w29 s
        rw [nat_lss (a := i28) (b := D.length)]
        refine ops_done (by kernel_rfl) ?_
        refine wp_seq ?_
        rcases Bool.eq_false_or_eq_true (decide (i28 < D.length)) with hc30 | hc30
        ·
          rw [hc30]
          refine cond_true_rule (b := true) (by kernel_rfl) rfl ?_
          refine wp_skip ?_
          refine wp_seq ?_
          refine wp_block ?_
          refine wp_seq ?_
          refine region_rule ?_
          refine sem_rule (Instr.indexAt 30 (.slice a2 D.length c2) (.int .i64 ((i28 : Nat) : Int))) (some 44) (.pointer (pAt a2 (i28 * 3))) (by kernel_rfl) (fsl_idx30 hD (by have e8 := hi28_0; have hq0 := of_decide_eq_false hc3; have hq1 := of_decide_eq_false hc5; have hq2 := of_decide_eq_false hc14; have hq3 := of_decide_eq_true hc30; omega)) ?_
          refine sem_rule (Instr.loadAt 42 (.pointer (pAt a2 (i28 * 3)))) (some 45) (.agg #[.int .i64 ((List.getD D i28 Fe.z).k), .string ⟨((List.getD D i28 Fe.z).a).toArray⟩, .string ⟨((List.getD D i28 Fe.z).v).toArray⟩]) (by kernel_rfl) (fsl_ld42 s.sub hD (by have e8 := hi28_0; have hq0 := of_decide_eq_false hc3; have hq1 := of_decide_eq_false hc5; have hq2 := of_decide_eq_false hc14; have hq3 := of_decide_eq_true hc30; omega)) ?_
          refine ops_rule (C := []) [((φ7 0), .cells #[.slice a1 A.length c1, .slice a2 D.length c2] 30)] [] 2 [.o 1, .o 1, .o 1] 1 (fun φ31 => [(13, .pointer (some ⟨(φ31 0), 0, none⟩))]) (fun φ31 => [((φ7 0), .cells #[.slice a1 A.length c1, .slice a2 D.length c2] 30), ((φ31 0), .cells #[.int .i64 ((List.getD D i28 Fe.z).k), .string ⟨((List.getD D i28 Fe.z).a).toArray⟩, .string ⟨((List.getD D i28 Fe.z).v).toArray⟩] 42)]) (fun φ31 => [(φ31 0), (φ31 0), (φ31 0)]) s trivial (fun φ31 => by kernel_rfl) ?_
          intro φ31 w31 s
          refine ops_done (by kernel_rfl) ?_
          refine wp_seq ?_
          refine region_rule ?_
          refine ops_rule (C := []) [((φ7 0), .cells #[.slice a1 A.length c1, .slice a2 D.length c2] 30), ((φ31 0), .cells #[.int .i64 ((List.getD D i28 Fe.z).k), .string ⟨((List.getD D i28 Fe.z).a).toArray⟩, .string ⟨((List.getD D i28 Fe.z).v).toArray⟩] 42)] [] 8 [.o 1] 0 (fun φ32 => [(53, .bool (decide (((((List.getD D i28 Fe.z).a).length : Nat) : Int) > ((255 : Nat) : Int)))), (52, .bool (decide (((((List.getD D i28 Fe.z).a).length : Nat) : Int) > ((255 : Nat) : Int)))), (51, .bool (decide (((((List.getD D i28 Fe.z).a).length : Nat) : Int) > ((255 : Nat) : Int)))), (50, .int .i64 ((((List.getD D i28 Fe.z).a).length : Nat) : Int)), (49, .string ⟨((List.getD D i28 Fe.z).a).toArray⟩), (48, .pointer (some ⟨(φ31 0), 1, none⟩)), (47, .bool false), (46, .bool false)]) (fun φ32 => [((φ7 0), .cells #[.slice a1 A.length c1, .slice a2 D.length c2] 30), ((φ31 0), .cells #[.int .i64 ((List.getD D i28 Fe.z).k), .string ⟨((List.getD D i28 Fe.z).a).toArray⟩, .string ⟨((List.getD D i28 Fe.z).v).toArray⟩] 42)]) (fun φ32 => [(φ31 0)]) s trivial (fun φ32 => by kernel_rfl) ?_
          intro φ32 w32 s
          rw [nat_gtr (a := (((List.getD D i28 Fe.z).a).length)) (b := 255)]
          rcases Bool.eq_false_or_eq_true (decide (255 < (((List.getD D i28 Fe.z).a).length))) with hc33 | hc33
          ·
            exact absurd (of_decide_eq_true hc33) (by have h9 := okD i28 (by have hq0 := of_decide_eq_false hc3; have hq1 := of_decide_eq_false hc5; have hq2 := of_decide_eq_false hc14; have hq3 := of_decide_eq_true hc30; have e8 := hi28_0; omega); obtain ⟨h1, h2, h3, h4⟩ := h9; omega)
          ·
            rw [hc33]
            refine ops_rule (C := []) [((φ7 0), .cells #[.slice a1 A.length c1, .slice a2 D.length c2] 30), ((φ31 0), .cells #[.int .i64 ((List.getD D i28 Fe.z).k), .string ⟨((List.getD D i28 Fe.z).a).toArray⟩, .string ⟨((List.getD D i28 Fe.z).v).toArray⟩] 42)] [] 6 [.o 1] 0 (fun φ34 => [(8, .bool (decide (((((List.getD D i28 Fe.z).v).length : Nat) : Int) > ((255 : Nat) : Int)))), (58, .bool (decide (((((List.getD D i28 Fe.z).v).length : Nat) : Int) > ((255 : Nat) : Int)))), (57, .bool (decide (((((List.getD D i28 Fe.z).v).length : Nat) : Int) > ((255 : Nat) : Int)))), (56, .int .i64 ((((List.getD D i28 Fe.z).v).length : Nat) : Int)), (55, .string ⟨((List.getD D i28 Fe.z).v).toArray⟩), (54, .pointer (some ⟨(φ31 0), 2, none⟩))]) (fun φ34 => [((φ7 0), .cells #[.slice a1 A.length c1, .slice a2 D.length c2] 30), ((φ31 0), .cells #[.int .i64 ((List.getD D i28 Fe.z).k), .string ⟨((List.getD D i28 Fe.z).a).toArray⟩, .string ⟨((List.getD D i28 Fe.z).v).toArray⟩] 42)]) (fun φ34 => [(φ31 0)]) s trivial (fun φ34 => by kernel_rfl) ?_
            intro φ34 w34 s
            rw [nat_gtr (a := (((List.getD D i28 Fe.z).v).length)) (b := 255)]
            refine ops_done (by kernel_rfl) ?_
            refine region_rule ?_
            refine ops_rule (C := []) [((φ7 0), .cells #[.slice a1 A.length c1, .slice a2 D.length c2] 30), ((φ31 0), .cells #[.int .i64 ((List.getD D i28 Fe.z).k), .string ⟨((List.getD D i28 Fe.z).a).toArray⟩, .string ⟨((List.getD D i28 Fe.z).v).toArray⟩] 42)] [] 7 [.o 1] 0 (fun φ35 => [(65, .bool (decide (((List.getD D i28 Fe.z).k) < ((0 : Nat) : Int)))), (64, .bool (decide (((List.getD D i28 Fe.z).k) < ((0 : Nat) : Int)))), (63, .bool (decide (((List.getD D i28 Fe.z).k) < ((0 : Nat) : Int)))), (62, .int .i64 ((List.getD D i28 Fe.z).k)), (61, .pointer (some ⟨(φ31 0), 0, none⟩)), (60, .bool false), (59, .bool false)]) (fun φ35 => [((φ7 0), .cells #[.slice a1 A.length c1, .slice a2 D.length c2] 30), ((φ31 0), .cells #[.int .i64 ((List.getD D i28 Fe.z).k), .string ⟨((List.getD D i28 Fe.z).a).toArray⟩, .string ⟨((List.getD D i28 Fe.z).v).toArray⟩] 42)]) (fun φ35 => [(φ31 0)]) s trivial (fun φ35 => by kernel_rfl) ?_
            intro φ35 w35 s
            rcases Bool.eq_false_or_eq_true (decide (((List.getD D i28 Fe.z).k) < ((0 : Nat) : Int))) with hc36 | hc36
            ·
              exact absurd (of_decide_eq_true hc36) (by have h9 := okD i28 (by have hq0 := of_decide_eq_false hc3; have hq1 := of_decide_eq_false hc5; have hq2 := of_decide_eq_false hc14; have hq3 := of_decide_eq_true hc30; have hq4 := of_decide_eq_false hc33; have e8 := hi28_0; omega); obtain ⟨h1, h2, h3, h4⟩ := h9; omega)
            ·
              rw [hc36]
              refine ops_rule (C := []) [((φ7 0), .cells #[.slice a1 A.length c1, .slice a2 D.length c2] 30), ((φ31 0), .cells #[.int .i64 ((List.getD D i28 Fe.z).k), .string ⟨((List.getD D i28 Fe.z).a).toArray⟩, .string ⟨((List.getD D i28 Fe.z).v).toArray⟩] 42)] [] 5 [.o 1] 0 (fun φ37 => [(9, .bool (decide (((List.getD D i28 Fe.z).k) > ((255 : Nat) : Int)))), (69, .bool (decide (((List.getD D i28 Fe.z).k) > ((255 : Nat) : Int)))), (68, .bool (decide (((List.getD D i28 Fe.z).k) > ((255 : Nat) : Int)))), (67, .int .i64 ((List.getD D i28 Fe.z).k)), (66, .pointer (some ⟨(φ31 0), 0, none⟩))]) (fun φ37 => [((φ7 0), .cells #[.slice a1 A.length c1, .slice a2 D.length c2] 30), ((φ31 0), .cells #[.int .i64 ((List.getD D i28 Fe.z).k), .string ⟨((List.getD D i28 Fe.z).a).toArray⟩, .string ⟨((List.getD D i28 Fe.z).v).toArray⟩] 42)]) (fun φ37 => [(φ31 0)]) s trivial (fun φ37 => by kernel_rfl) ?_
              intro φ37 w37 s
              refine ops_done (by kernel_rfl) ?_
              refine region_rule ?_
              refine ops_rule (C := []) [((φ7 0), .cells #[.slice a1 A.length c1, .slice a2 D.length c2] 30), ((φ31 0), .cells #[.int .i64 ((List.getD D i28 Fe.z).k), .string ⟨((List.getD D i28 Fe.z).a).toArray⟩, .string ⟨((List.getD D i28 Fe.z).v).toArray⟩] 42)] [] 2 [] 0 (fun φ38 => [(42, .int .i64 (IntKind.wrap .i64 (((i28 : Nat) : Int) + ((1 : Nat) : Int)))), (70, .int .i64 (IntKind.wrap .i64 (((i28 : Nat) : Int) + ((1 : Nat) : Int))))]) (fun φ38 => [((φ7 0), .cells #[.slice a1 A.length c1, .slice a2 D.length c2] 30), ((φ31 0), .cells #[.int .i64 ((List.getD D i28 Fe.z).k), .string ⟨((List.getD D i28 Fe.z).a).toArray⟩, .string ⟨((List.getD D i28 Fe.z).v).toArray⟩] 42)]) (fun φ38 => []) s trivial (fun φ38 => by kernel_rfl) ?_
              intro φ38 w38 s
              rw [nat_addI (a := i28) (b := 1) (by have e8 := hi28_0; have hq0 := of_decide_eq_false hc3; have hq1 := of_decide_eq_false hc5; have hq2 := of_decide_eq_false hc14; have hq3 := of_decide_eq_true hc30; have hq4 := of_decide_eq_false hc33; have hq5 := of_decide_eq_false hc36; omega)]
              refine ops_done (by kernel_rfl) ?_
              exact ⟨⟨m28 - 1, (i28 + 1, (decide (255 < (((List.getD D i28 Fe.z).v).length))), (decide (((List.getD D i28 Fe.z).k) > ((255 : Nat) : Int)))), _, _, _, by have hq0 := of_decide_eq_false hc3; have hq1 := of_decide_eq_false hc5; have hq2 := of_decide_eq_false hc14; have hq3 := of_decide_eq_true hc30; have hq4 := of_decide_eq_false hc33; have hq5 := of_decide_eq_false hc36; have := hi28_0; omega, rfl, s, (List.Sublist.cons₂ _ (List.Sublist.cons _ List.Sublist.slnil)), by kernel_rfl, hle27, by have hq0 := of_decide_eq_false hc3; have hq1 := of_decide_eq_false hc5; have hq2 := of_decide_eq_false hc14; have hq3 := of_decide_eq_true hc30; have hq4 := of_decide_eq_false hc33; have hq5 := of_decide_eq_false hc36; have := hi28_0; show i28 + 1 + (m28 - 1) = D.length; omega, (decide_eq_false (by have hq0 := of_decide_eq_false hc3; have hq1 := of_decide_eq_false hc5; have hq2 := of_decide_eq_false hc14; have hq3 := of_decide_eq_true hc30; have hq4 := of_decide_eq_false hc33; have hq5 := of_decide_eq_false hc36; have h9 := okD i28 (by have := hi28_0; omega); obtain ⟨h1, h2, h3, h4⟩ := h9; omega)), (decide_eq_false (by have hq0 := of_decide_eq_false hc3; have hq1 := of_decide_eq_false hc5; have hq2 := of_decide_eq_false hc14; have hq3 := of_decide_eq_true hc30; have hq4 := of_decide_eq_false hc33; have hq5 := of_decide_eq_false hc36; have h9 := okD i28 (by have := hi28_0; omega); obtain ⟨h1, h2, h3, h4⟩ := h9; omega))⟩⟩
        ·
          rw [hc30]
          refine cond_false_rule (b := false) (by kernel_rfl) rfl ?_
          refine wp_exit ?_
          refine region_rule ?_
          refine ops_rule (C := []) [((φ7 0), .cells #[.slice a1 A.length c1, .slice a2 D.length c2] 30)] [] 2 [] 0 (fun φ39 => [(36, .int .i64 2), (71, .int .i64 2)]) (fun φ39 => [((φ7 0), .cells #[.slice a1 A.length c1, .slice a2 D.length c2] 30)]) (fun φ39 => []) s trivial (fun φ39 => by kernel_rfl) ?_
          intro φ39 w39 s
          refine ops_done (by kernel_rfl) ?_
          refine rounds_step (n := 0) ?_
          refine wp_seq ?_
          refine region_rule ?_
          refine ops_rule (C := []) [((φ7 0), .cells #[.slice a1 A.length c1, .slice a2 D.length c2] 30)] [] 1 [] 0 (fun φ40 => [(37, .bool false)]) (fun φ40 => [((φ7 0), .cells #[.slice a1 A.length c1, .slice a2 D.length c2] 30)]) (fun φ40 => []) s trivial (fun φ40 => by kernel_rfl) ?_
          intro φ40 w40 s
          refine ops_done (by kernel_rfl) ?_
          refine wp_seq ?_
          refine cond_false_rule (b := false) (by kernel_rfl) rfl ?_
          refine wp_exit ?_
          refine wp_seq ?_
          refine wp_seq ?_
          refine region_rule ?_
          refine ops_rule (C := []) [((φ7 0), .cells #[.slice a1 A.length c1, .slice a2 D.length c2] 30)] [] 3 [] 0 (fun φ41 => [(74, .int .i64 0), (73, .int .i64 ((K.length : Nat) : Int)), (72, .slice a3 K.length c3)]) (fun φ41 => [((φ7 0), .cells #[.slice a1 A.length c1, .slice a2 D.length c2] 30)]) (fun φ41 => []) s trivial (fun φ41 => by kernel_rfl) ?_
          intro φ41 w41 s
          refine ops_done (by kernel_rfl) ?_
          refine wp_block ?_
          have hle42 := IM.Le.refl I28
          refine loop_rule (fun (x : Nat × Bool) => [(0, .slice a1 A.length c1), (1, .slice a2 D.length c2), (2, .slice a3 K.length c3), (6, .slice none 0 0), (7, .int .i64 0), (8, .bool false), (72, .slice a3 K.length c3), (73, .int .i64 ((K.length : Nat) : Int)), (74, .int .i64 ((x.1 : Nat) : Int)), (9, .bool x.2)]) (fun (x : Nat × Bool) => [((φ7 0), .cells #[.slice a1 A.length c1, .slice a2 D.length c2] 30)]) (fun m (x : Nat × Bool) J => IM.Le I28 J ∧ x.1 + m = K.length ∧ x.2 = false) (K.length) (0, false) s (by kernel_rfl) (List.Sublist.cons₂ _ List.Sublist.slnil) ⟨IM.Le.refl _, Nat.zero_add _, rfl⟩ ?_
          rintro m43 ⟨i43, v43⟩ I43 w43 ev43 s ⟨le43, hi43_0, hi43_1⟩
          try dsimp only at s hi43_0 hi43_1 ⊢
          replace hA := FSl.mono le43 hA
          replace hD := FSl.mono le43 hD
          replace hK := KSl.mono le43 hK
          replace hle11 := leMono le43 hle11
          replace hle27 := leMono le43 hle27
          replace hle42 := leMono le43 hle42
          obtain rfl : v43 = false := hi43_1
          refine wp_seq ?_
          refine region_rule ?_
          refine ops_rule (C := []) [((φ7 0), .cells #[.slice a1 A.length c1, .slice a2 D.length c2] 30)] [] 1 [] 0 (fun φ44 => [(75, .bool (decide (((i43 : Nat) : Int) < ((K.length : Nat) : Int))))]) (fun φ44 => [((φ7 0), .cells #[.slice a1 A.length c1, .slice a2 D.length c2] 30)]) (fun φ44 => []) s trivial (fun φ44 => by kernel_rfl) ?_
          intro φ44 w44 s
          rw [nat_lss (a := i43) (b := K.length)]
          refine ops_done (by kernel_rfl) ?_
          refine wp_seq ?_
          rcases Bool.eq_false_or_eq_true (decide (i43 < K.length)) with hc45 | hc45
          ·
            rw [hc45]
            refine cond_true_rule (b := true) (by kernel_rfl) rfl ?_
            refine wp_skip ?_
            refine wp_seq ?_
            refine wp_block ?_
            refine wp_seq ?_
            refine region_rule ?_
            refine sem_rule (Instr.indexAt 52 (.slice a3 K.length c3) (.int .i64 ((i43 : Nat) : Int))) (some 76) (.pointer (pAt a3 i43)) (by kernel_rfl) (ksl_idx hK (by have e8 := hi43_0; have hq0 := of_decide_eq_false hc3; have hq1 := of_decide_eq_false hc5; have hq2 := of_decide_eq_false hc14; have hq3 := of_decide_eq_false hc30; have hq4 := of_decide_eq_true hc45; omega)) ?_
            refine sem_rule (Instr.loadAt 3 (.pointer (pAt a3 i43))) (some 77) (.int .i64 (((List.getD K i43 0) : Nat) : Int)) (by kernel_rfl) (ksl_ld s.sub hK (by have e8 := hi43_0; have hq0 := of_decide_eq_false hc3; have hq1 := of_decide_eq_false hc5; have hq2 := of_decide_eq_false hc14; have hq3 := of_decide_eq_false hc30; have hq4 := of_decide_eq_true hc45; omega)) ?_
            refine ops_rule (C := []) [((φ7 0), .cells #[.slice a1 A.length c1, .slice a2 D.length c2] 30)] [] 1 [] 0 (fun φ46 => [(15, .int .i64 (((List.getD K i43 0) : Nat) : Int))]) (fun φ46 => [((φ7 0), .cells #[.slice a1 A.length c1, .slice a2 D.length c2] 30)]) (fun φ46 => []) s trivial (fun φ46 => by kernel_rfl) ?_
            intro φ46 w46 s
            refine ops_done (by kernel_rfl) ?_
            refine region_rule ?_
            refine ops_rule (C := []) [((φ7 0), .cells #[.slice a1 A.length c1, .slice a2 D.length c2] 30)] [] 6 [] 0 (fun φ47 => [(83, .bool (decide ((((List.getD K i43 0) : Nat) : Int) < ((0 : Nat) : Int)))), (82, .bool (decide ((((List.getD K i43 0) : Nat) : Int) < ((0 : Nat) : Int)))), (81, .bool (decide ((((List.getD K i43 0) : Nat) : Int) < ((0 : Nat) : Int)))), (80, .int .i64 (((List.getD K i43 0) : Nat) : Int)), (79, .bool false), (78, .bool false)]) (fun φ47 => [((φ7 0), .cells #[.slice a1 A.length c1, .slice a2 D.length c2] 30)]) (fun φ47 => []) s trivial (fun φ47 => by kernel_rfl) ?_
            intro φ47 w47 s
            rw [nat_lss (a := (List.getD K i43 0)) (b := 0)]
            rcases Bool.eq_false_or_eq_true (decide ((List.getD K i43 0) < 0)) with hc48 | hc48
            ·
              exact absurd (of_decide_eq_true hc48) (by have h9 := hok i43 (by have hq0 := of_decide_eq_false hc3; have hq1 := of_decide_eq_false hc5; have hq2 := of_decide_eq_false hc14; have hq3 := of_decide_eq_false hc30; have hq4 := of_decide_eq_true hc45; have e8 := hi43_0; omega); omega)
            ·
              rw [hc48]
              refine ops_rule (C := []) [((φ7 0), .cells #[.slice a1 A.length c1, .slice a2 D.length c2] 30)] [] 4 [] 0 (fun φ49 => [(9, .bool (decide ((((List.getD K i43 0) : Nat) : Int) > ((255 : Nat) : Int)))), (86, .bool (decide ((((List.getD K i43 0) : Nat) : Int) > ((255 : Nat) : Int)))), (85, .bool (decide ((((List.getD K i43 0) : Nat) : Int) > ((255 : Nat) : Int)))), (84, .int .i64 (((List.getD K i43 0) : Nat) : Int))]) (fun φ49 => [((φ7 0), .cells #[.slice a1 A.length c1, .slice a2 D.length c2] 30)]) (fun φ49 => []) s trivial (fun φ49 => by kernel_rfl) ?_
              intro φ49 w49 s
              rw [nat_gtr (a := (List.getD K i43 0)) (b := 255)]
              refine ops_done (by kernel_rfl) ?_
              refine region_rule ?_
              refine ops_rule (C := []) [((φ7 0), .cells #[.slice a1 A.length c1, .slice a2 D.length c2] 30)] [] 2 [] 0 (fun φ50 => [(74, .int .i64 (IntKind.wrap .i64 (((i43 : Nat) : Int) + ((1 : Nat) : Int)))), (87, .int .i64 (IntKind.wrap .i64 (((i43 : Nat) : Int) + ((1 : Nat) : Int))))]) (fun φ50 => [((φ7 0), .cells #[.slice a1 A.length c1, .slice a2 D.length c2] 30)]) (fun φ50 => []) s trivial (fun φ50 => by kernel_rfl) ?_
              intro φ50 w50 s
              rw [nat_addI (a := i43) (b := 1) (by have e8 := hi43_0; have hq0 := of_decide_eq_false hc3; have hq1 := of_decide_eq_false hc5; have hq2 := of_decide_eq_false hc14; have hq3 := of_decide_eq_false hc30; have hq4 := of_decide_eq_true hc45; have hq5 := of_decide_eq_false hc48; omega)]
              refine ops_done (by kernel_rfl) ?_
              exact ⟨⟨m43 - 1, (i43 + 1, (decide (255 < (List.getD K i43 0)))), _, _, _, by have hq0 := of_decide_eq_false hc3; have hq1 := of_decide_eq_false hc5; have hq2 := of_decide_eq_false hc14; have hq3 := of_decide_eq_false hc30; have hq4 := of_decide_eq_true hc45; have hq5 := of_decide_eq_false hc48; have := hi43_0; omega, rfl, s, (List.Sublist.cons₂ _ List.Sublist.slnil), by kernel_rfl, hle42, by have hq0 := of_decide_eq_false hc3; have hq1 := of_decide_eq_false hc5; have hq2 := of_decide_eq_false hc14; have hq3 := of_decide_eq_false hc30; have hq4 := of_decide_eq_true hc45; have hq5 := of_decide_eq_false hc48; have := hi43_0; show i43 + 1 + (m43 - 1) = K.length; omega, (decide_eq_false (by have hq0 := of_decide_eq_false hc3; have hq1 := of_decide_eq_false hc5; have hq2 := of_decide_eq_false hc14; have hq3 := of_decide_eq_false hc30; have hq4 := of_decide_eq_true hc45; have hq5 := of_decide_eq_false hc48; have h9 := hok i43 (by have := hi43_0; omega); omega))⟩⟩
          ·
            rw [hc45]
            refine cond_false_rule (b := false) (by kernel_rfl) rfl ?_
            refine wp_exit ?_
            refine wp_seq ?_
            refine wp_seq ?_
            refine region_rule ?_
            refine ops_rule (C := []) [((φ7 0), .cells #[.slice a1 A.length c1, .slice a2 D.length c2] 30)] [] 1 [] 0 (fun φ51 => [(88, .bool false)]) (fun φ51 => [((φ7 0), .cells #[.slice a1 A.length c1, .slice a2 D.length c2] 30)]) (fun φ51 => []) s trivial (fun φ51 => by kernel_rfl) ?_
            intro φ51 w51 s
            refine ops_done (by kernel_rfl) ?_
            refine cond_false_rule (b := false) (by kernel_rfl) rfl ?_
            refine wp_skip ?_
            refine wp_seq ?_
            refine wp_seq ?_
            refine region_rule ?_
            refine ops_rule (C := []) [((φ7 0), .cells #[.slice a1 A.length c1, .slice a2 D.length c2] 30)] [] 1 [] 0 (fun φ52 => [(89, .bool false)]) (fun φ52 => [((φ7 0), .cells #[.slice a1 A.length c1, .slice a2 D.length c2] 30)]) (fun φ52 => []) s trivial (fun φ52 => by kernel_rfl) ?_
            intro φ52 w52 s
            refine ops_done (by kernel_rfl) ?_
            refine cond_false_rule (b := false) (by kernel_rfl) rfl ?_
            refine wp_skip ?_
            refine wp_seq ?_
            refine region_rule ?_
            refine ops_rule (C := []) [((φ7 0), .cells #[.slice a1 A.length c1, .slice a2 D.length c2] 30)] [] 1 [] 0 (fun φ53 => [(90, .slice a1 A.length c1)]) (fun φ53 => [((φ7 0), .cells #[.slice a1 A.length c1, .slice a2 D.length c2] 30)]) (fun φ53 => []) s trivial (fun φ53 => by kernel_rfl) ?_
            intro φ53 w53 s
            refine call_rule (some 91) s (refCard_c hA hlA okA) (by kernel_rfl) ?_
            intro v54 I54 w54 le54 h54 s
            replace hA := FSl.mono le54 hA
            replace hD := FSl.mono le54 hD
            replace hK := KSl.mono le54 hK
            replace hle11 := leMono le54 hle11
            replace hle27 := leMono le54 hle27
            replace hle42 := leMono le54 hle42
            obtain ⟨a54, c54, rfl, h54_0⟩ := h54
            refine ops_rule (C := []) [((φ7 0), .cells #[.slice a1 A.length c1, .slice a2 D.length c2] 30)] [] 1 [] 0 (fun φ55 => [(92, .slice a2 D.length c2)]) (fun φ55 => [((φ7 0), .cells #[.slice a1 A.length c1, .slice a2 D.length c2] 30)]) (fun φ55 => []) s trivial (fun φ55 => by kernel_rfl) ?_
            intro φ55 w55 s
            refine call_rule (some 93) s (refCard_c hD hlD okD) (by kernel_rfl) ?_
            intro v56 I56 w56 le56 h56 s
            replace hA := FSl.mono le56 hA
            replace hD := FSl.mono le56 hD
            replace hK := KSl.mono le56 hK
            replace hle11 := leMono le56 hle11
            replace hle27 := leMono le56 hle27
            replace hle42 := leMono le56 hle42
            replace h54_0 := BSl.mono le56 h54_0
            obtain ⟨a56, c56, rfl, h56_0⟩ := h56
            refine ops_rule (C := []) [((φ7 0), .cells #[.slice a1 A.length c1, .slice a2 D.length c2] 30)] [] 3 [] 0 (fun φ57 => [(96, .int .u64 (IntKind.wrap .u64 ((K.length : Nat) : Int))), (95, .int .i64 ((K.length : Nat) : Int)), (94, .slice a3 K.length c3)]) (fun φ57 => [((φ7 0), .cells #[.slice a1 A.length c1, .slice a2 D.length c2] 30)]) (fun φ57 => []) s trivial (fun φ57 => by kernel_rfl) ?_
            intro φ57 w57 s
            rw [nat_wrapU (a := K.length) (by have e8 := hi43_0; have hq0 := of_decide_eq_false hc3; have hq1 := of_decide_eq_false hc5; have hq2 := of_decide_eq_false hc14; have hq3 := of_decide_eq_false hc30; have hq4 := of_decide_eq_false hc45; (try simp only [List.length_drop, List.length_take, List.length_append, List.length_cons, List.length_nil]); omega)]
            refine call_rule (some 97) s (refnumX_c (n := K.length) (by omega)) (by kernel_rfl) ?_
            intro v58 I58 w58 le58 h58 s
            replace hA := FSl.mono le58 hA
            replace hD := FSl.mono le58 hD
            replace hK := KSl.mono le58 hK
            replace hle11 := leMono le58 hle11
            replace hle27 := leMono le58 hle27
            replace hle42 := leMono le58 hle42
            replace h54_0 := BSl.mono le58 h54_0
            replace h56_0 := BSl.mono le58 h56_0
            obtain ⟨a58, c58, rfl, h58_0⟩ := h58
            refine ops_rule (C := []) [((φ7 0), .cells #[.slice a1 A.length c1, .slice a2 D.length c2] 30)] [] 1 [] 1 (fun φ59 => [(98, .slice (some ⟨(φ59 0), 0, none⟩) 3 3)]) (fun φ59 => [((φ7 0), .cells #[.slice a1 A.length c1, .slice a2 D.length c2] 30), ((φ59 0), .cells #[.slice a54 (List.length (encL A)) c54, .slice a56 (List.length (encL D)) c56, .slice a58 (List.length (encF 9 K.length)) c58] 61)]) (fun φ59 => []) s trivial (fun φ59 => by kernel_rfl) ?_
            intro φ59 w59 s
            obtain ⟨I60, le60, hk60, s⟩ := s.freezeAt 1 (φ59 0) (.cells #[.slice a54 (List.length (encL A)) c54, .slice a56 (List.length (encL D)) c56, .slice a58 (List.length (encF 9 K.length)) c58] 61) [((φ7 0), .cells #[.slice a1 A.length c1, .slice a2 D.length c2] 30)] (by kernel_rfl) (by kernel_rfl)
            replace hA := FSl.mono le60 hA
            replace hD := FSl.mono le60 hD
            replace hK := KSl.mono le60 hK
            replace hle11 := leMono le60 hle11
            replace hle27 := leMono le60 hle27
            replace hle42 := leMono le60 hle42
            replace h54_0 := BSl.mono le60 h54_0
            replace h56_0 := BSl.mono le60 h56_0
            replace h58_0 := BSl.mono le60 h58_0
            have e1 := encL_len okA hlA
            have e2 := encL_len okD hlD
            have e3 := (encF_len 9 K.length).2
            refine callF_rule (H := [((φ7 0), .cells #[.slice a1 A.length c1, .slice a2 D.length c2] 30)]) (F := []) (some 99) s (join3_r hk60 h54_0 h56_0 h58_0 (by omega) (by omega) (by omega)) (by kernel_rfl) ?_
            intro v61 I61 w61 F61 le61 h61 s
            replace hA := FSl.mono le61 hA
            replace hD := FSl.mono le61 hD
            replace hK := KSl.mono le61 hK
            replace hle11 := leMono le61 hle11
            replace hle27 := leMono le61 hle27
            replace hle42 := leMono le61 hle42
            replace h54_0 := BSl.mono le61 h54_0
            replace h56_0 := BSl.mono le61 h56_0
            replace h58_0 := BSl.mono le61 h58_0
            replace hk60 := le61 _ _ hk60
            refine ops_rule (C := []) [((φ7 0), .cells #[.slice a1 A.length c1, .slice a2 D.length c2] 30)] F61 1 [] 0 (fun φ62 => [(16, v61)]) (fun φ62 => [((φ7 0), .cells #[.slice a1 A.length c1, .slice a2 D.length c2] 30)]) (fun φ62 => []) s trivial (fun φ62 => by kernel_rfl) ?_
            intro φ62 w62 s
            refine ops_done (by kernel_rfl) ?_
            refine wp_seq ?_
            refine wp_seq ?_
            refine region_rule ?_
            refine ops_rule (C := []) [((φ7 0), .cells #[.slice a1 A.length c1, .slice a2 D.length c2] 30)] F61 3 [] 0 (fun φ63 => [(102, .int .i64 0), (101, .int .i64 ((K.length : Nat) : Int)), (100, .slice a3 K.length c3)]) (fun φ63 => [((φ7 0), .cells #[.slice a1 A.length c1, .slice a2 D.length c2] 30)]) (fun φ63 => []) s trivial (fun φ63 => by kernel_rfl) ?_
            intro φ63 w63 s
            refine ops_done (by kernel_rfl) ?_
            refine wp_block ?_
            have hle64 := IM.Le.refl I61
            refine loop_rule (fun (x : Nat × Value × List OB) => [(100, .slice a3 K.length c3), (101, .int .i64 ((K.length : Nat) : Int)), (102, .int .i64 ((x.1 : Nat) : Int)), (16, x.2.1)]) (fun (x : Nat × Value × List OB) => [((φ7 0), .cells #[.slice a1 A.length c1, .slice a2 D.length c2] 30)] ++ x.2.2) (fun m (x : Nat × Value × List OB) J => IM.Le I61 J ∧ x.1 + m = K.length ∧ RowH 5 1 x.2.1 (encL A ++ encL D ++ encF 9 K.length ++ (K.take x.1).map UInt8.ofNat).length ((encL A ++ encL D ++ encF 9 K.length ++ (K.take x.1).map UInt8.ofNat).map bV) x.2.2) (K.length) (0, v61, F61) s (by kernel_rfl) (List.Sublist.refl _) ⟨IM.Le.refl _, Nat.zero_add _, row_eqB h61 (by simp)⟩ ?_
            rintro m65 ⟨i65, v65, F65⟩ I65 w65 ev65 s ⟨le65, hi65_0, hi65_1⟩
            try dsimp only at s hi65_0 hi65_1 ⊢
            replace hA := FSl.mono le65 hA
            replace hD := FSl.mono le65 hD
            replace hK := KSl.mono le65 hK
            replace hle11 := leMono le65 hle11
            replace hle27 := leMono le65 hle27
            replace hle42 := leMono le65 hle42
            replace h54_0 := BSl.mono le65 h54_0
            replace h56_0 := BSl.mono le65 h56_0
            replace h58_0 := BSl.mono le65 h58_0
            replace hle64 := leMono le65 hle64
            replace hk60 := le65 _ _ hk60
            have hs9 : ((K.take i65).map UInt8.ofNat).length ≤ 255 := by rw [List.length_map, List.length_take]; omega
            have hn9 := (encF_len 9 K.length).2
            have hA9 := encL_len okA hlA
            have hD9 := encL_len okD hlD
            have hx9 : i65 < K.length → K.getD i65 0 ≤ 255 := hok i65
            refine wp_seq ?_
            refine region_rule ?_
            refine ops_rule (C := []) [((φ7 0), .cells #[.slice a1 A.length c1, .slice a2 D.length c2] 30)] F65 1 [] 0 (fun φ66 => [(103, .bool (decide (((i65 : Nat) : Int) < ((K.length : Nat) : Int))))]) (fun φ66 => [((φ7 0), .cells #[.slice a1 A.length c1, .slice a2 D.length c2] 30)]) (fun φ66 => []) s trivial (fun φ66 => by kernel_rfl) ?_
            intro φ66 w66 s
            rw [nat_lss (a := i65) (b := K.length)]
            refine ops_done (by kernel_rfl) ?_
            refine wp_seq ?_
            rcases Bool.eq_false_or_eq_true (decide (i65 < K.length)) with hc67 | hc67
            ·
              rw [hc67]
              refine cond_true_rule (b := true) (by kernel_rfl) rfl ?_
              refine wp_skip ?_
              refine wp_seq ?_
              refine wp_block ?_
              refine wp_seq ?_
              refine region_rule ?_
              refine sem_rule (Instr.indexAt 52 (.slice a3 K.length c3) (.int .i64 ((i65 : Nat) : Int))) (some 104) (.pointer (pAt a3 i65)) (by kernel_rfl) (ksl_idx hK (by have e8 := hi65_0; have hq0 := of_decide_eq_false hc3; have hq1 := of_decide_eq_false hc5; have hq2 := of_decide_eq_false hc14; have hq3 := of_decide_eq_false hc30; have hq4 := of_decide_eq_false hc45; have hq5 := of_decide_eq_true hc67; omega)) ?_
              refine sem_rule (Instr.loadAt 3 (.pointer (pAt a3 i65))) (some 105) (.int .i64 (((List.getD K i65 0) : Nat) : Int)) (by kernel_rfl) (ksl_ld s.sub hK (by have e8 := hi65_0; have hq0 := of_decide_eq_false hc3; have hq1 := of_decide_eq_false hc5; have hq2 := of_decide_eq_false hc14; have hq3 := of_decide_eq_false hc30; have hq4 := of_decide_eq_false hc45; have hq5 := of_decide_eq_true hc67; omega)) ?_
              refine ops_rule (C := []) [((φ7 0), .cells #[.slice a1 A.length c1, .slice a2 D.length c2] 30)] F65 1 [] 0 (fun φ68 => [(18, .int .i64 (((List.getD K i65 0) : Nat) : Int))]) (fun φ68 => [((φ7 0), .cells #[.slice a1 A.length c1, .slice a2 D.length c2] 30)]) (fun φ68 => []) s trivial (fun φ68 => by kernel_rfl) ?_
              intro φ68 w68 s
              refine ops_done (by kernel_rfl) ?_
              refine region_rule ?_
              refine ops_rule (C := []) [((φ7 0), .cells #[.slice a1 A.length c1, .slice a2 D.length c2] 30)] F65 2 [] 0 (fun φ69 => [(107, .int .i64 (((List.getD K i65 0) : Nat) : Int)), (106, v65)]) (fun φ69 => [((φ7 0), .cells #[.slice a1 A.length c1, .slice a2 D.length c2] 30)]) (fun φ69 => []) s trivial (fun φ69 => by kernel_rfl) ?_
              intro φ69 w69 s
              refine sem_rule (convert 3 5 (.int .i64 (((List.getD K i65 0) : Nat) : Int))) (some 108) (.int .u8 (((List.getD K i65 0) : Nat) : Int)) (by kernel_rfl) (run_conv35 (by omega) (by have hq0 := of_decide_eq_false hc3; have hq1 := of_decide_eq_false hc5; have hq2 := of_decide_eq_false hc14; have hq3 := of_decide_eq_false hc30; have hq4 := of_decide_eq_false hc45; have hq5 := of_decide_eq_true hc67; have := hok i65 (by omega); omega)) ?_
              refine ops_rule (C := []) [((φ7 0), .cells #[.slice a1 A.length c1, .slice a2 D.length c2] 30)] F65 1 [] 1 (fun φ70 => [(109, .slice (some ⟨(φ70 0), 0, none⟩) 1 1)]) (fun φ70 => [((φ7 0), .cells #[.slice a1 A.length c1, .slice a2 D.length c2] 30), ((φ70 0), .cells #[.int .u8 (((List.getD K i65 0) : Nat) : Int)] 5)]) (fun φ70 => []) s trivial (fun φ70 => by kernel_rfl) ?_
              intro φ70 w70 s
              refine append_rule (H := [((φ7 0), .cells #[.slice a1 A.length c1, .slice a2 D.length c2] 30), ((φ70 0), .cells #[.int .u8 (((List.getD K i65 0) : Nat) : Int)] 5)]) (F := F65) 61 61 5 Tryd.t5 (.int .u8 0) 1 1 (some 110) s Tryd.underlying61 (by kernel_rfl) (by kernel_rfl) (by kernel_rfl) (by kernel_rfl) (by kernel_rfl) (by decide) hi65_1 (src_own (H := [((φ7 0), .cells #[.slice a1 A.length c1, .slice a2 D.length c2] 30), ((φ70 0), .cells #[.int .u8 (((List.getD K i65 0) : Nat) : Int)] 5)]) s 1 (φ70 0) #[.int .u8 (((List.getD K i65 0) : Nat) : Int)] 5 61 5 1 1 1 [.int .u8 (((List.getD K i65 0) : Nat) : Int)] (by kernel_rfl) under34 (by kernel_rfl) (by kernel_rfl) (by kernel_rfl)) (by have hq0 := of_decide_eq_false hc3; have hq1 := of_decide_eq_false hc5; have hq2 := of_decide_eq_false hc14; have hq3 := of_decide_eq_false hc30; have hq4 := of_decide_eq_false hc45; have hq5 := of_decide_eq_true hc67; (try simp only [maxLen, List.length_append, List.length_cons, List.length_nil] at *); omega) (by have hq0 := of_decide_eq_false hc3; have hq1 := of_decide_eq_false hc5; have hq2 := of_decide_eq_false hc14; have hq3 := of_decide_eq_false hc30; have hq4 := of_decide_eq_false hc45; have hq5 := of_decide_eq_true hc67; (try simp only [maxLen, List.length_append, List.length_cons, List.length_nil] at *); omega) (by kernel_rfl) ?_
              intro v71 w71 F71 s h71
              replace h71 : RowH 5 1 v71 ((encL A ++ encL D ++ encF 9 K.length ++ (K.take i65).map UInt8.ofNat ++ ([UInt8.ofNat (List.getD K i65 0)] : List UInt8)).length) ((encL A ++ encL D ++ encF 9 K.length ++ (K.take i65).map UInt8.ofNat ++ ([UInt8.ofNat (List.getD K i65 0)] : List UInt8)).map bV) F71 := row_snoc (x := (encL A ++ encL D ++ encF 9 K.length ++ (K.take i65).map UInt8.ofNat)) (y := ([UInt8.ofNat (List.getD K i65 0)] : List UInt8)) h71 (by simp only [List.map_cons, List.map_nil]; exact cells_bytes1 (by have hq0 := of_decide_eq_false hc3; have hq1 := of_decide_eq_false hc5; have hq2 := of_decide_eq_false hc14; have hq3 := of_decide_eq_false hc30; have hq4 := of_decide_eq_false hc45; have hq5 := of_decide_eq_true hc67; have h9 := hx9 (by omega); omega))
              refine ops_rule (C := []) [((φ7 0), .cells #[.slice a1 A.length c1, .slice a2 D.length c2] 30), ((φ70 0), .cells #[.int .u8 (((List.getD K i65 0) : Nat) : Int)] 5)] F71 1 [] 0 (fun φ72 => [(16, v71)]) (fun φ72 => [((φ7 0), .cells #[.slice a1 A.length c1, .slice a2 D.length c2] 30), ((φ70 0), .cells #[.int .u8 (((List.getD K i65 0) : Nat) : Int)] 5)]) (fun φ72 => []) s trivial (fun φ72 => by kernel_rfl) ?_
              intro φ72 w72 s
              refine ops_done (by kernel_rfl) ?_
              refine region_rule ?_
              refine ops_rule (C := []) [((φ7 0), .cells #[.slice a1 A.length c1, .slice a2 D.length c2] 30), ((φ70 0), .cells #[.int .u8 (((List.getD K i65 0) : Nat) : Int)] 5)] F71 2 [] 0 (fun φ73 => [(102, .int .i64 (IntKind.wrap .i64 (((i65 : Nat) : Int) + ((1 : Nat) : Int)))), (111, .int .i64 (IntKind.wrap .i64 (((i65 : Nat) : Int) + ((1 : Nat) : Int))))]) (fun φ73 => [((φ7 0), .cells #[.slice a1 A.length c1, .slice a2 D.length c2] 30), ((φ70 0), .cells #[.int .u8 (((List.getD K i65 0) : Nat) : Int)] 5)]) (fun φ73 => []) s trivial (fun φ73 => by kernel_rfl) ?_
              intro φ73 w73 s
              rw [nat_addI (a := i65) (b := 1) (by have e8 := hi65_0; have hq0 := of_decide_eq_false hc3; have hq1 := of_decide_eq_false hc5; have hq2 := of_decide_eq_false hc14; have hq3 := of_decide_eq_false hc30; have hq4 := of_decide_eq_false hc45; have hq5 := of_decide_eq_true hc67; omega)]
              refine ops_done (by kernel_rfl) ?_
              exact ⟨⟨m65 - 1, (i65 + 1, v71, F71), _, _, _, by have hq0 := of_decide_eq_false hc3; have hq1 := of_decide_eq_false hc5; have hq2 := of_decide_eq_false hc14; have hq3 := of_decide_eq_false hc30; have hq4 := of_decide_eq_false hc45; have hq5 := of_decide_eq_true hc67; have := hi65_0; omega, rfl, s, (List.Sublist.append (List.Sublist.cons₂ _ (List.Sublist.cons _ List.Sublist.slnil)) (List.Sublist.refl _)), by kernel_rfl, hle64, by have hq0 := of_decide_eq_false hc3; have hq1 := of_decide_eq_false hc5; have hq2 := of_decide_eq_false hc14; have hq3 := of_decide_eq_false hc30; have hq4 := of_decide_eq_false hc45; have hq5 := of_decide_eq_true hc67; have := hi65_0; show i65 + 1 + (m65 - 1) = K.length; omega, row_eqB h71 (putk_next (by have hq0 := of_decide_eq_false hc3; have hq1 := of_decide_eq_false hc5; have hq2 := of_decide_eq_false hc14; have hq3 := of_decide_eq_false hc30; have hq4 := of_decide_eq_false hc45; have hq5 := of_decide_eq_true hc67; have := hi65_0; omega))⟩⟩
            ·
              rw [hc67]
              refine cond_false_rule (b := false) (by kernel_rfl) rfl ?_
              refine wp_exit ?_
              refine wp_seq ?_
              refine region_rule ?_
              refine ops_rule (C := []) [((φ7 0), .cells #[.slice a1 A.length c1, .slice a2 D.length c2] 30)] F65 3 [] 0 (fun φ74 => [(7, .int .i64 0), (6, v65), (112, v65)]) (fun φ74 => [((φ7 0), .cells #[.slice a1 A.length c1, .slice a2 D.length c2] 30)]) (fun φ74 => []) s trivial (fun φ74 => by kernel_rfl) ?_
              intro φ74 w74 s
              refine ops_done (by kernel_rfl) ?_
              refine wp_ret ?_
              refine ret_rule (C := []) [((φ7 0), .cells #[.slice a1 A.length c1, .slice a2 D.length c2] 30)] F65 (.tuple #[v65, .int .i64 0]) [] [] s trivial (by kernel_rfl) ?_
              have ei : i65 = K.length := by have hq0 := of_decide_eq_false hc3; have hq1 := of_decide_eq_false hc5; have hq2 := of_decide_eq_false hc14; have hq3 := of_decide_eq_false hc30; have hq4 := of_decide_eq_false hc45; have hq5 := of_decide_eq_false hc67; have := hi65_0; omega
              have hr9 := row_eqB (l2 := encP A D K) hi65_1 (by rw [ei, List.take_length, encP, List.append_assoc (encL A ++ encL D)])
              obtain ⟨J75, le75, hk75, s⟩ := freeze_row (H := [((φ7 0), .cells #[.slice a1 A.length c1, .slice a2 D.length c2] 30)]) (F := F65) s hr9
              obtain ⟨a75, c75, hv75, -, hk75⟩ := hk75.open
              subst hv75
              exact ⟨_, _, _, rfl, s, ⟨_, _, rfl, hk75⟩⟩

end Go.Proofs.YtcpmjogeafhpnaaDoor
/- For a patch that is written. -/
set_option linter.all false
set_option maxRecDepth 100000
namespace Go.Proofs.YtcpmjogeafhpnaaDoor
open Go.RowKit Go.Sep
attribute [local irreducible] Go.wpList Go.Code.wp

theorem pt_zero {A D : List Fe} {K : List Int} (h : ptE A D K = 0) : (∀ x ∈ A, okFe x) ∧ (∀ x ∈ D, okFe x) ∧ ∀ k ∈ K, 0 ≤ k ∧ k ≤ 255 := by
  unfold ptE at h
  split at h
  · cases h
  · rename_i h1
    split at h
    · cases h
    · rename_i h2
      simp only [Bool.or_eq_true, List.any_eq_true, not_or, not_exists, not_and] at h1 h2
      have fe : ∀ x : Fe, ¬ lgB x = true → ¬ skB x = true → okFe x := fun x q1 q2 => by
        unfold lgB at q1; unfold skB at q2
        simp only [Bool.or_eq_true, decide_eq_true_eq] at q1 q2
        exact ⟨by omega, by omega, by omega, by omega⟩
      refine ⟨fun x hx => fe x (h1.1 x hx) (h2.1.1 x hx), fun x hx => fe x (h1.2 x hx) (h2.1.2 x hx), fun k hk => ?_⟩
      have := h2.2 k hk
      unfold siB at this
      simp only [Bool.or_eq_true, decide_eq_true_eq] at this
      omega
theorem okL_ofM {L : List Fe} (h : ∀ x ∈ L, okFe x) : okL L := fun i hi => h _ (getD_mem hi)
theorem ints_nat {K : List Int} (h : ∀ k ∈ K, 0 ≤ k ∧ k ≤ 255) : ∃ N : List Nat, K = N.map (fun n => ((n : Nat) : Int)) ∧ ∀ n ∈ N, n ≤ 255 := by
  refine ⟨K.map Int.toNat, ?_, fun n hn => ?_⟩
  · rw [List.map_map]
    conv => lhs; rw [← List.map_id K]
    refine List.map_congr_left fun k hk => ?_
    have := h k hk
    show k = ((k.toNat : Nat) : Int)
    omega
  · obtain ⟨k, hk, rfl⟩ := List.mem_map.1 hn
    have := h k hk
    omega
theorem isl_ksl {I : IM} {N : List Nat} {a : Option Addr} {n c : Nat} (h : ISl I (N.map (fun n => ((n : Nat) : Int))) (.slice a n c)) : KSl I N (.slice a n c) := by
  obtain ⟨a', c', hv, hc, hr⟩ := h
  rw [List.length_map] at hv hc
  refine ⟨a', c', hv, hc, fun j x hj => ?_⟩
  obtain ⟨b, o, cs, T, fr, h1, h2, h3⟩ := hr j ((x : Nat) : Int) (by rw [List.getElem?_map, hj]; rfl)
  exact ⟨b, o, cs, T, fr, h1, h2, h3⟩
theorem row_ld9 {w0 : World} {I0 : IM} {m : List Nat} {I : IM} {w : World} {H F : List OB} {g n cap i : Nat} {L : List Fe} (s : St w0 I0 m I w (H ++ F)) (h : RowH 39 3 (.slice (some ⟨g, 0, none⟩) n cap) n (fcs L) F) (hi : i < L.length) :
    (Instr.loadAt 9 (.pointer (some ⟨g, i * 3 + 2, none⟩))).run Tryd.prog w = .ok (.string ⟨((L.getD i Fe.z).v).toArray⟩) w := by
  obtain ⟨f1, f2, f3⟩ := fcs_at (fe_getD hi)
  have c3 := row_cell s h f3
  have e : (Instr.loadAt 9 (.pointer (some ⟨g, i * 3 + 2, none⟩))).run Tryd.prog w = (load ⟨g, i * 3 + 2, none⟩).run Tryd.prog w := by kernel_rfl
  rw [e]; simp only [load, Sem.run, c3]
theorem row_st9 {w0 : World} {I0 : IM} {m : List Nat} {I : IM} {w : World} {H F : List OB} {g n cap i : Nat} {L : List Fe} {y : List UInt8} (s : St w0 I0 m I w (H ++ F)) (h : RowH 39 3 (.slice (some ⟨g, 0, none⟩) n cap) n (fcs L) F) (hi : i < L.length) :
    ∃ w' F', (Instr.storeAt 9 (.pointer (some ⟨g, i * 3 + 2, none⟩)) (.string ⟨y.toArray⟩)).run Tryd.prog w = .ok () w' ∧ St w0 I0 m I w' (H ++ F') ∧ RowH 39 3 (.slice (some ⟨g, 0, none⟩) n cap) n (fcs (L.set i ⟨(L.getD i Fe.z).k, (L.getD i Fe.z).a, y⟩)) F' := by
  have hxl := h.1
  rw [fcs_length] at hxl
  rcases h.2 with ⟨h, _⟩ | ⟨g', cap', cur, hv, hF, hnc, hcm, hcs, ht⟩
  · cases h
  · cases hv
    subst hF
    have hg : w.heap[g]? = some (.cells cur 39 (0, 0)) := s.own (g, _) (by simp)
    have hst := run_storeCells_at Tryd.prog g (i * 3 + 2) 39 [Value.string ⟨y.toArray⟩] 0 cur w hg (by show i * 3 + 2 + 0 + 1 ≤ cur.size; omega) (fun u hu => by simp at hu; subst hu; rfl)
    have e : (Instr.storeAt 9 (.pointer (some ⟨g, i * 3 + 2, none⟩)) (.string ⟨y.toArray⟩)).run Tryd.prog w = (storeCells ⟨g, i * 3 + 2, none⟩ [Value.string ⟨y.toArray⟩] 0).run Tryd.prog w := by kernel_rfl
    rw [← e] at hst
    have hHF : (H ++ [(g, Obj.cells cur 39 (0, 0))])[H.length]? = some (g, .cells cur 39 (0, 0)) := by simp
    have s2 := St.set (w' := w.setRow g (cur.toList.take (i * 3 + 2 + 0) ++ [Value.string ⟨y.toArray⟩] ++ cur.toList.drop (i * 3 + 2 + 0 + 1)).toArray) s hHF rfl rfl rfl (by simp [World.setRow]) (setRow_heap w g cur _ 39 _ hg) (fun q hq => setRow_other w g q _ hq)
    rw [List.set_append_right _ _ (Nat.le_refl _)] at s2
    simp only [Nat.sub_self, List.set_cons_zero] at s2
    refine ⟨_, _, hst, s2, by rw [fcs_length, List.length_set]; omega, .inr ⟨g, cap, _, rfl, rfl, hnc, hcm, ?_, ?_⟩⟩
    · simp only [List.size_toArray, List.length_append, List.length_take, List.length_drop, Array.length_toList, hcs, List.length_cons, List.length_nil]; omega
    · rw [fcs_set L i _ hi, ← ht]
      have hl1 : (cur.toList.take (i * 3 + 2 + 0) ++ [Value.string ⟨y.toArray⟩]).length = (i + 1) * 3 := by rw [List.length_append, List.length_take, Array.length_toList, hcs]; simp; omega
      have hcur : cur.toList.take (i * 3 + 2) = cur.toList.take (i * 3) ++ [.int .i64 (L.getD i Fe.z).k, .string ⟨((L.getD i Fe.z).a).toArray⟩] := by
        obtain ⟨f1, f2, f3⟩ := fcs_at (fe_getD hi)
        rw [← ht, List.getElem?_take] at f1 f2
        rw [if_pos (by omega)] at f1 f2
        rw [List.take_succ, List.take_succ, f1, f2]; simp
      rw [List.take_append, hl1, List.take_of_length_le (by rw [hl1]; omega), Nat.add_zero, hcur, List.take_take, Nat.min_eq_left (by omega), List.drop_take, show (i + 1) * 3 = i * 3 + 2 + 1 by omega]
      simp only [List.append_assoc, fc]; rfl

set_option maxHeartbeats 4000000 in
theorem fewM_c {I : IM} {L : List Fe} {a0 : Option Addr} {c0 : Nat} (h0 : FSl I L (.slice a0 L.length c0)) (hl : L.length ≤ 9223372036854775807) : FunM Tryd.prog 43 #[.slice a0 L.length c0] I [] (fun v J F => RowH 39 3 v (fewF L).length (fcs (fewF L)) F) := by
  refine enterM_rule 37 [(0, .slice a0 L.length c0)] Tryd.func43 rfl (by kernel_rfl) ?_
  intro w s
  refine wp_seq ?_
  refine region_rule ?_
  refine ops_rule (C := []) [] [] 1 [] 0 (fun φ1 => [(2, .slice none 0 0)]) (fun φ1 => []) (fun φ1 => []) s trivial (fun φ1 => by kernel_rfl) ?_
  intro φ1 w1 s
  refine ops_done (by kernel_rfl) ?_
  refine wp_seq ?_
  refine region_rule ?_
  refine ops_rule (C := []) [] [] 1 [] 0 (fun φ2 => [(3, .slice none 0 0)]) (fun φ2 => []) (fun φ2 => []) s trivial (fun φ2 => by kernel_rfl) ?_
  intro φ2 w2 s
  refine ops_done (by kernel_rfl) ?_
  refine wp_seq ?_
  refine wp_seq ?_
  refine region_rule ?_
  refine ops_rule (C := []) [] [] 3 [] 0 (fun φ3 => [(8, .int .i64 0), (7, .int .i64 ((L.length : Nat) : Int)), (6, .slice a0 L.length c0)]) (fun φ3 => []) (fun φ3 => []) s trivial (fun φ3 => by kernel_rfl) ?_
  intro φ3 w3 s
  refine ops_done (by kernel_rfl) ?_
  refine wp_block ?_
  have hle4 := IM.Le.refl I
  refine loop_rule (fun (x : Nat × Value × List OB) => [(0, .slice a0 L.length c0), (2, .slice none 0 0), (6, .slice a0 L.length c0), (7, .int .i64 ((L.length : Nat) : Int)), (8, .int .i64 ((x.1 : Nat) : Int)), (3, x.2.1)]) (fun (x : Nat × Value × List OB) => [] ++ x.2.2) (fun m (x : Nat × Value × List OB) J => IM.Le I J ∧ x.1 + m = L.length ∧ RowH 39 3 x.2.1 (List.length (fewF (L.take x.1))) (fcs (fewF (L.take x.1))) x.2.2) (L.length) (0, (.slice none 0 0), []) s (by kernel_rfl) (List.Sublist.refl _) ⟨IM.Le.refl _, Nat.zero_add _, (RowH.nil 39 3)⟩ ?_
  rintro m5 ⟨i5, v5, F5⟩ I5 w5 ev5 s ⟨le5, hi5_0, hi5_1⟩
  try dsimp only at s hi5_0 hi5_1 ⊢
  replace h0 := FSl.mono le5 h0
  replace hle4 := leMono le5 hle4
  refine wp_seq ?_
  refine region_rule ?_
  refine ops_rule (C := []) [] F5 1 [] 0 (fun φ6 => [(9, .bool (decide (((i5 : Nat) : Int) < ((L.length : Nat) : Int))))]) (fun φ6 => []) (fun φ6 => []) s trivial (fun φ6 => by kernel_rfl) ?_
  intro φ6 w6 s
  rw [nat_lss (a := i5) (b := L.length)]
  refine ops_done (by kernel_rfl) ?_
  refine wp_seq ?_
  rcases Bool.eq_false_or_eq_true (decide (i5 < L.length)) with hc7 | hc7
  ·
    rw [hc7]
    refine cond_true_rule (b := true) (by kernel_rfl) rfl ?_
    refine wp_skip ?_
    refine wp_seq ?_
    refine wp_block ?_
    refine wp_seq ?_
    refine region_rule ?_
    refine ops_rule (C := []) [] F5 1 [] 0 (fun φ8 => [(10, .int .i64 ((i5 : Nat) : Int))]) (fun φ8 => []) (fun φ8 => []) s trivial (fun φ8 => by kernel_rfl) ?_
    intro φ8 w8 s
    refine sem_rule (Instr.indexAt 22 (.slice a0 L.length c0) (.int .i64 ((i5 : Nat) : Int))) (some 11) (.pointer (pAt a0 (i5 * 3))) (by kernel_rfl) (fsl_idx22 h0 (by have e8 := hi5_0; have hq0 := of_decide_eq_true hc7; omega)) ?_
    refine sem_rule (Instr.loadAt 39 (.pointer (pAt a0 (i5 * 3)))) (some 12) (.agg #[.int .i64 ((List.getD L i5 Fe.z).k), .string ⟨((List.getD L i5 Fe.z).a).toArray⟩, .string ⟨((List.getD L i5 Fe.z).v).toArray⟩]) (by kernel_rfl) (fsl_ld39 s.sub h0 (by have e8 := hi5_0; have hq0 := of_decide_eq_true hc7; omega)) ?_
    refine ops_rule (C := []) [] F5 3 [.o 0, .o 0, .o 0] 1 (fun φ9 => [(4, .int .i64 ((i5 : Nat) : Int)), (5, .pointer (some ⟨(φ9 0), 0, none⟩))]) (fun φ9 => [((φ9 0), .cells #[.int .i64 ((List.getD L i5 Fe.z).k), .string ⟨((List.getD L i5 Fe.z).a).toArray⟩, .string ⟨((List.getD L i5 Fe.z).v).toArray⟩] 39)]) (fun φ9 => [(φ9 0), (φ9 0), (φ9 0)]) s trivial (fun φ9 => by kernel_rfl) ?_
    intro φ9 w9 s
    refine ops_done (by kernel_rfl) ?_
    refine wp_seq ?_
    refine region_rule ?_
    refine ops_rule (C := []) [((φ9 0), .cells #[.int .i64 ((List.getD L i5 Fe.z).k), .string ⟨((List.getD L i5 Fe.z).a).toArray⟩, .string ⟨((List.getD L i5 Fe.z).v).toArray⟩] 39)] F5 2 [] 0 (fun φ10 => [(14, .bool (decide (((i5 : Nat) : Int) < ((14 : Nat) : Int)))), (13, .int .i64 ((i5 : Nat) : Int))]) (fun φ10 => [((φ9 0), .cells #[.int .i64 ((List.getD L i5 Fe.z).k), .string ⟨((List.getD L i5 Fe.z).a).toArray⟩, .string ⟨((List.getD L i5 Fe.z).v).toArray⟩] 39)]) (fun φ10 => []) s trivial (fun φ10 => by kernel_rfl) ?_
    intro φ10 w10 s
    rw [nat_lss (a := i5) (b := 14)]
    refine ops_done (by kernel_rfl) ?_
    rcases Bool.eq_false_or_eq_true (decide (i5 < 14)) with hc11 | hc11
    ·
      rw [hc11]
      refine cond_true_rule (b := true) (by kernel_rfl) rfl ?_
      refine wp_seq ?_
      refine drawK_rule (C := []) ⟨(fun φ12 xs12 => [.look 0 [] [], .look 0 [.o 0] [(φ9 0)], .look 0 [] [], .look 0 [.o 0] [(φ9 0)], .look 0 [] [], .sub 0 [] [] (.int .i64 (if ((60 : Nat) : Int) < ((((List.getD L i5 Fe.z).a).length : Nat) : Int) then ((60 : Nat) : Int) else ((((List.getD L i5 Fe.z).a).length : Nat) : Int))), .ran (Instr.sliceAt 9 (.string ⟨((List.getD L i5 Fe.z).a).toArray⟩) none (some (.int .i64 ((min (((List.getD L i5 Fe.z).a).length) 60 : Nat) : Int))) none), .look 0 [] [], .look 0 [.o 0] [(φ9 0)], .look 0 [] [], .look 0 [.o 0] [(φ9 0)], .look 0 [] [], .sub 0 [] [] (.int .i64 (if ((60 : Nat) : Int) < ((((List.getD L i5 Fe.z).v).length : Nat) : Int) then ((60 : Nat) : Int) else ((((List.getD L i5 Fe.z).v).length : Nat) : Int))), .ran (Instr.sliceAt 9 (.string ⟨((List.getD L i5 Fe.z).v).toArray⟩) none (some (.int .i64 ((min (((List.getD L i5 Fe.z).v).length) 60 : Nat) : Int))) none), .look 0 [] [], .store 0 [.o 0] [(φ9 0)], .look 1 [] [], .store 1 [.o 0] [(φ9 0)]]), (fun φ12 xs12 => [.pointer (some ⟨(φ9 0), 1, none⟩), .string ⟨((List.getD L i5 Fe.z).a).toArray⟩, .pointer (some ⟨(φ9 0), 1, none⟩), .string ⟨((List.getD L i5 Fe.z).a).toArray⟩, .int .i64 ((((List.getD L i5 Fe.z).a).length : Nat) : Int), .int .i64 ((min (((List.getD L i5 Fe.z).a).length) 60 : Nat) : Int), .string ⟨((((List.getD L i5 Fe.z).a).take (min (((List.getD L i5 Fe.z).a).length) 60))).toArray⟩, .pointer (some ⟨(φ9 0), 2, none⟩), .string ⟨((List.getD L i5 Fe.z).v).toArray⟩, .pointer (some ⟨(φ9 0), 2, none⟩), .string ⟨((List.getD L i5 Fe.z).v).toArray⟩, .int .i64 ((((List.getD L i5 Fe.z).v).length : Nat) : Int), .int .i64 ((min (((List.getD L i5 Fe.z).v).length) 60 : Nat) : Int), .string ⟨((((List.getD L i5 Fe.z).v).take (min (((List.getD L i5 Fe.z).v).length) 60))).toArray⟩, .pointer (some ⟨(φ9 0), 1, none⟩), undef, .pointer (some ⟨(φ9 0), 2, none⟩), undef]), (fun φ12 xs12 => [[((φ9 0), .cells #[.int .i64 ((List.getD L i5 Fe.z).k), .string ⟨((List.getD L i5 Fe.z).a).toArray⟩, .string ⟨((List.getD L i5 Fe.z).v).toArray⟩] 39)], [((φ9 0), .cells #[.int .i64 ((List.getD L i5 Fe.z).k), .string ⟨((((List.getD L i5 Fe.z).a).take (min (((List.getD L i5 Fe.z).a).length) 60))).toArray⟩, .string ⟨((List.getD L i5 Fe.z).v).toArray⟩] 39)], [((φ9 0), .cells #[.int .i64 ((List.getD L i5 Fe.z).k), .string ⟨((((List.getD L i5 Fe.z).a).take (min (((List.getD L i5 Fe.z).a).length) 60))).toArray⟩, .string ⟨((((List.getD L i5 Fe.z).v).take (min (((List.getD L i5 Fe.z).v).length) 60))).toArray⟩] 39)]]), (fun φ12 xs12 => [[default, default, default, default, default, default, default, default, default, default, default, default, default, default, default, default, default, default], [default, default, default, default, default, default, default, default, default, default, default, default, default, default, default, default, default, default], [default, default, default, default, default, default, default, default, default, default, default, default, default, default, default, default, default, default]]), [15, 17], [1, 1, 1, 1, 1, 5, 6, 1, 1, 1, 1, 1, 5, 6, 1, 4, 1, 4]⟩ (fun j => ([MP.any, MP.any, MP.any, MP.any, MP.any, MP.any, MP.any, MP.any, MP.any, MP.any, MP.any, MP.any, MP.any, MP.any, MP.any, MP.any, MP.any, MP.any] : List MP).getD j MP.any) F5 [] [5, 12] [6, 13] (fun φ12 xs12 => [[none, none, none, none, none, none, none, none, none, none, none, none, none, none, none, none, none, none], [none, none, none, none, none, none, none, none, none, none, none, none, none, none, none, none, none, none]]) (fun φ12 xs12 => [(15, .pointer (some ⟨(φ9 0), 1, none⟩)), (16, .string ⟨((List.getD L i5 Fe.z).a).toArray⟩), (17, .pointer (some ⟨(φ9 0), 1, none⟩)), (18, .string ⟨((List.getD L i5 Fe.z).a).toArray⟩), (19, .int .i64 ((((List.getD L i5 Fe.z).a).length : Nat) : Int)), (20, .int .i64 ((min (((List.getD L i5 Fe.z).a).length) 60 : Nat) : Int)), (21, .string ⟨((((List.getD L i5 Fe.z).a).take (min (((List.getD L i5 Fe.z).a).length) 60))).toArray⟩), (22, .pointer (some ⟨(φ9 0), 2, none⟩)), (23, .string ⟨((List.getD L i5 Fe.z).v).toArray⟩), (24, .pointer (some ⟨(φ9 0), 2, none⟩)), (25, .string ⟨((List.getD L i5 Fe.z).v).toArray⟩), (26, .int .i64 ((((List.getD L i5 Fe.z).v).length : Nat) : Int)), (27, .int .i64 ((min (((List.getD L i5 Fe.z).v).length) 60 : Nat) : Int)), (28, .string ⟨((((List.getD L i5 Fe.z).v).take (min (((List.getD L i5 Fe.z).v).length) 60))).toArray⟩), (29, .pointer (some ⟨(φ9 0), 1, none⟩)), (30, .pointer (some ⟨(φ9 0), 2, none⟩))]) (fun φ12 xs12 => [((φ9 0), .cells #[.int .i64 ((List.getD L i5 Fe.z).k), .string ⟨((((List.getD L i5 Fe.z).a).take (min (((List.getD L i5 Fe.z).a).length) 60))).toArray⟩, .string ⟨((((List.getD L i5 Fe.z).v).take (min (((List.getD L i5 Fe.z).v).length) 60))).toArray⟩] 39)]) s trivial (by kernel_rfl) (by kernel_rfl) (fun _ _ => by kernel_rfl) (fun _ _ => by kernel_rfl) ⟨fun _ _ => by kernel_rfl, fun _ _ => by kernel_rfl, fun _ _ => by kernel_rfl, fun _ _ => by kernel_rfl⟩ (fun _ _ _ => by kernel_rfl) (fun _ _ => by kernel_rfl) (fun _ _ => by kernel_rfl) (fun _ _ => by kernel_rfl) (fun _ _ => by kernel_rfl) (fun _ _ => by kernel_rfl) ⟨kcast (A := ∀ (φ12 : Nat → Nat) (xs12 : Xs), (.int .i64 (if ((60 : Nat) : Int) < ((((List.getD L i5 Fe.z).a).length : Nat) : Int) then ((60 : Nat) : Int) else ((((List.getD L i5 Fe.z).a).length : Nat) : Int)) : Value) = .int .i64 ((min (((List.getD L i5 Fe.z).a).length) 60 : Nat) : Int)) (by kernel_rfl) (fun φ12 xs12 => congrArg (Value.int .i64) ((nat_min (a := (((List.getD L i5 Fe.z).a).length)) (b := 60)))), ⟨kcast (A := ∀ (φ12 : Nat → Nat) (xs12 : Xs), (.int .i64 (if ((60 : Nat) : Int) < ((((List.getD L i5 Fe.z).v).length : Nat) : Int) then ((60 : Nat) : Int) else ((((List.getD L i5 Fe.z).v).length : Nat) : Int)) : Value) = .int .i64 ((min (((List.getD L i5 Fe.z).v).length) 60 : Nat) : Int)) (by kernel_rfl) (fun φ12 xs12 => congrArg (Value.int .i64) ((nat_min (a := (((List.getD L i5 Fe.z).v).length)) (b := 60)))), trivial⟩⟩ ⟨kcast (A := ∀ (φ12 : Nat → Nat) (xs12 : Xs) (J : IM) (w : World), I5.Le J → J.Sub w → ((Instr.sliceAt 9 (.string ⟨((List.getD L i5 Fe.z).a).toArray⟩) none (some (.int .i64 ((min (((List.getD L i5 Fe.z).a).length) 60 : Nat) : Int))) none) : Sem Value).run Tryd.prog w = .ok (.string ⟨((((List.getD L i5 Fe.z).a).take (min (((List.getD L i5 Fe.z).a).length) 60))).toArray⟩) w) (by kernel_rfl) (fun φ12 xs12 J w hJ hS => Tx.run_takeS (s := (List.getD L i5 Fe.z).a) (hi := min (((List.getD L i5 Fe.z).a).length) 60) (by omega)), ⟨kcast (A := ∀ (φ12 : Nat → Nat) (xs12 : Xs) (J : IM) (w : World), I5.Le J → J.Sub w → ((Instr.sliceAt 9 (.string ⟨((List.getD L i5 Fe.z).v).toArray⟩) none (some (.int .i64 ((min (((List.getD L i5 Fe.z).v).length) 60 : Nat) : Int))) none) : Sem Value).run Tryd.prog w = .ok (.string ⟨((((List.getD L i5 Fe.z).v).take (min (((List.getD L i5 Fe.z).v).length) 60))).toArray⟩) w) (by kernel_rfl) (fun φ12 xs12 J w hJ hS => Tx.run_takeS (s := (List.getD L i5 Fe.z).v) (hi := min (((List.getD L i5 Fe.z).v).length) 60) (by omega)), trivial⟩⟩ (by kernel_rfl) trivial ?k12
      case k12 =>
        rintro φ12 xs12 I12 w12 le12 s 
        replace h0 := FSl.mono le12 h0
        replace hle4 := leMono le12 hle4
        refine region_rule ?_
        refine ops_rule (C := []) [((φ9 0), .cells #[.int .i64 ((List.getD L i5 Fe.z).k), .string ⟨((((List.getD L i5 Fe.z).a).take (min (((List.getD L i5 Fe.z).a).length) 60))).toArray⟩, .string ⟨((((List.getD L i5 Fe.z).v).take (min (((List.getD L i5 Fe.z).v).length) 60))).toArray⟩] 39)] F5 3 [.o 0, .o 0, .o 0] 1 (fun φ13 => [(33, .slice (some ⟨(φ13 0), 0, none⟩) 1 1), (32, .agg #[.int .i64 ((List.getD L i5 Fe.z).k), .string ⟨((((List.getD L i5 Fe.z).a).take (min (((List.getD L i5 Fe.z).a).length) 60))).toArray⟩, .string ⟨((((List.getD L i5 Fe.z).v).take (min (((List.getD L i5 Fe.z).v).length) 60))).toArray⟩]), (31, v5)]) (fun φ13 => [((φ9 0), .cells #[.int .i64 ((List.getD L i5 Fe.z).k), .string ⟨((((List.getD L i5 Fe.z).a).take (min (((List.getD L i5 Fe.z).a).length) 60))).toArray⟩, .string ⟨((((List.getD L i5 Fe.z).v).take (min (((List.getD L i5 Fe.z).v).length) 60))).toArray⟩] 39), ((φ13 0), .cells #[.int .i64 ((List.getD L i5 Fe.z).k), .string ⟨((((List.getD L i5 Fe.z).a).take (min (((List.getD L i5 Fe.z).a).length) 60))).toArray⟩, .string ⟨((((List.getD L i5 Fe.z).v).take (min (((List.getD L i5 Fe.z).v).length) 60))).toArray⟩] 39)]) (fun φ13 => [(φ9 0), (φ9 0), (φ9 0)]) s trivial (fun φ13 => by kernel_rfl) ?_
        intro φ13 w13 s
        have hb14 : (List.length (fewF (L.take i5))) ≤ 100000 := (Nat.le_trans few_len (by decide))
        refine append_rule (H := [((φ9 0), .cells #[.int .i64 ((List.getD L i5 Fe.z).k), .string ⟨((((List.getD L i5 Fe.z).a).take (min (((List.getD L i5 Fe.z).a).length) 60))).toArray⟩, .string ⟨((((List.getD L i5 Fe.z).v).take (min (((List.getD L i5 Fe.z).v).length) 60))).toArray⟩] 39), ((φ13 0), .cells #[.int .i64 ((List.getD L i5 Fe.z).k), .string ⟨((((List.getD L i5 Fe.z).a).take (min (((List.getD L i5 Fe.z).a).length) 60))).toArray⟩, .string ⟨((((List.getD L i5 Fe.z).v).take (min (((List.getD L i5 Fe.z).v).length) 60))).toArray⟩] 39)]) (F := F5) 22 22 39 Tryd.t39 (.agg #[.int .i64 0, .string ⟨#[]⟩, .string ⟨#[]⟩]) 3 40 (some 34) s Tryd.underlying22 (by kernel_rfl) (by kernel_rfl) (by kernel_rfl) (by kernel_rfl) (by kernel_rfl) (by decide) hi5_1 (src_own s 1 (φ13 0) #[.int .i64 ((List.getD L i5 Fe.z).k), .string ⟨((((List.getD L i5 Fe.z).a).take (min (((List.getD L i5 Fe.z).a).length) 60))).toArray⟩, .string ⟨((((List.getD L i5 Fe.z).v).take (min (((List.getD L i5 Fe.z).v).length) 60))).toArray⟩] 39 22 39 1 1 3 [.int .i64 ((List.getD L i5 Fe.z).k), .string ⟨((((List.getD L i5 Fe.z).a).take (min (((List.getD L i5 Fe.z).a).length) 60))).toArray⟩, .string ⟨((((List.getD L i5 Fe.z).v).take (min (((List.getD L i5 Fe.z).v).length) 60))).toArray⟩] (by kernel_rfl) Tryd.underlying22 (by kernel_rfl) (by kernel_rfl) (by kernel_rfl)) (by simp only [maxLen]; omega) (by omega) (by kernel_rfl) ?_
        intro v14 w14 F14 s h14
        replace h14 : RowH 39 3 v14 (List.length ((fewF (L.take i5)) ++ [(⟨(List.getD L i5 Fe.z).k, (((List.getD L i5 Fe.z).a).take (min (((List.getD L i5 Fe.z).a).length) 60)), (((List.getD L i5 Fe.z).v).take (min (((List.getD L i5 Fe.z).v).length) 60))⟩ : Fe)])) (fcs ((fewF (L.take i5)) ++ [(⟨(List.getD L i5 Fe.z).k, (((List.getD L i5 Fe.z).a).take (min (((List.getD L i5 Fe.z).a).length) 60)), (((List.getD L i5 Fe.z).v).take (min (((List.getD L i5 Fe.z).v).length) 60))⟩ : Fe)])) F14 := row39_snoc (Fs := (fewF (L.take i5))) (x := (⟨(List.getD L i5 Fe.z).k, (((List.getD L i5 Fe.z).a).take (min (((List.getD L i5 Fe.z).a).length) 60)), (((List.getD L i5 Fe.z).v).take (min (((List.getD L i5 Fe.z).v).length) 60))⟩ : Fe)) h14 rfl
        refine ops_rule (C := []) [((φ9 0), .cells #[.int .i64 ((List.getD L i5 Fe.z).k), .string ⟨((((List.getD L i5 Fe.z).a).take (min (((List.getD L i5 Fe.z).a).length) 60))).toArray⟩, .string ⟨((((List.getD L i5 Fe.z).v).take (min (((List.getD L i5 Fe.z).v).length) 60))).toArray⟩] 39), ((φ13 0), .cells #[.int .i64 ((List.getD L i5 Fe.z).k), .string ⟨((((List.getD L i5 Fe.z).a).take (min (((List.getD L i5 Fe.z).a).length) 60))).toArray⟩, .string ⟨((((List.getD L i5 Fe.z).v).take (min (((List.getD L i5 Fe.z).v).length) 60))).toArray⟩] 39)] F14 1 [] 0 (fun φ15 => [(3, v14)]) (fun φ15 => [((φ9 0), .cells #[.int .i64 ((List.getD L i5 Fe.z).k), .string ⟨((((List.getD L i5 Fe.z).a).take (min (((List.getD L i5 Fe.z).a).length) 60))).toArray⟩, .string ⟨((((List.getD L i5 Fe.z).v).take (min (((List.getD L i5 Fe.z).v).length) 60))).toArray⟩] 39), ((φ13 0), .cells #[.int .i64 ((List.getD L i5 Fe.z).k), .string ⟨((((List.getD L i5 Fe.z).a).take (min (((List.getD L i5 Fe.z).a).length) 60))).toArray⟩, .string ⟨((((List.getD L i5 Fe.z).v).take (min (((List.getD L i5 Fe.z).v).length) 60))).toArray⟩] 39)]) (fun φ15 => []) s trivial (fun φ15 => by kernel_rfl) ?_
        intro φ15 w15 s
        refine ops_done (by kernel_rfl) ?_
        refine region_rule ?_
        refine ops_rule (C := []) [((φ9 0), .cells #[.int .i64 ((List.getD L i5 Fe.z).k), .string ⟨((((List.getD L i5 Fe.z).a).take (min (((List.getD L i5 Fe.z).a).length) 60))).toArray⟩, .string ⟨((((List.getD L i5 Fe.z).v).take (min (((List.getD L i5 Fe.z).v).length) 60))).toArray⟩] 39), ((φ13 0), .cells #[.int .i64 ((List.getD L i5 Fe.z).k), .string ⟨((((List.getD L i5 Fe.z).a).take (min (((List.getD L i5 Fe.z).a).length) 60))).toArray⟩, .string ⟨((((List.getD L i5 Fe.z).v).take (min (((List.getD L i5 Fe.z).v).length) 60))).toArray⟩] 39)] F14 2 [] 0 (fun φ16 => [(8, .int .i64 (IntKind.wrap .i64 (((i5 : Nat) : Int) + ((1 : Nat) : Int)))), (35, .int .i64 (IntKind.wrap .i64 (((i5 : Nat) : Int) + ((1 : Nat) : Int))))]) (fun φ16 => [((φ9 0), .cells #[.int .i64 ((List.getD L i5 Fe.z).k), .string ⟨((((List.getD L i5 Fe.z).a).take (min (((List.getD L i5 Fe.z).a).length) 60))).toArray⟩, .string ⟨((((List.getD L i5 Fe.z).v).take (min (((List.getD L i5 Fe.z).v).length) 60))).toArray⟩] 39), ((φ13 0), .cells #[.int .i64 ((List.getD L i5 Fe.z).k), .string ⟨((((List.getD L i5 Fe.z).a).take (min (((List.getD L i5 Fe.z).a).length) 60))).toArray⟩, .string ⟨((((List.getD L i5 Fe.z).v).take (min (((List.getD L i5 Fe.z).v).length) 60))).toArray⟩] 39)]) (fun φ16 => []) s trivial (fun φ16 => by kernel_rfl) ?_
        intro φ16 w16 s
        rw [nat_addI (a := i5) (b := 1) (by have e8 := hi5_0; have hq0 := of_decide_eq_true hc7; have hq1 := of_decide_eq_true hc11; omega)]
        refine ops_done (by kernel_rfl) ?_
        exact ⟨⟨m5 - 1, (i5 + 1, v14, F14), _, _, _, by have hq0 := of_decide_eq_true hc7; have hq1 := of_decide_eq_true hc11; have := hi5_0; omega, rfl, s, (List.Sublist.append (List.Sublist.cons _ (List.Sublist.cons _ List.Sublist.slnil)) (List.Sublist.refl _)), by kernel_rfl, hle4, by have hq0 := of_decide_eq_true hc7; have hq1 := of_decide_eq_true hc11; have := hi5_0; show i5 + 1 + (m5 - 1) = L.length; omega, (row_eq39 (few_next (by have hq0 := of_decide_eq_true hc7; have hq1 := of_decide_eq_true hc11; have := hi5_0; omega) (of_decide_eq_true hc11)) h14)⟩⟩
    ·
      rw [hc11]
      refine cond_false_rule (b := false) (by kernel_rfl) rfl ?_
      refine wp_skip ?_
      refine region_rule ?_
      refine ops_rule (C := []) [((φ9 0), .cells #[.int .i64 ((List.getD L i5 Fe.z).k), .string ⟨((List.getD L i5 Fe.z).a).toArray⟩, .string ⟨((List.getD L i5 Fe.z).v).toArray⟩] 39)] F5 2 [] 0 (fun φ17 => [(8, .int .i64 (IntKind.wrap .i64 (((i5 : Nat) : Int) + ((1 : Nat) : Int)))), (35, .int .i64 (IntKind.wrap .i64 (((i5 : Nat) : Int) + ((1 : Nat) : Int))))]) (fun φ17 => [((φ9 0), .cells #[.int .i64 ((List.getD L i5 Fe.z).k), .string ⟨((List.getD L i5 Fe.z).a).toArray⟩, .string ⟨((List.getD L i5 Fe.z).v).toArray⟩] 39)]) (fun φ17 => []) s trivial (fun φ17 => by kernel_rfl) ?_
      intro φ17 w17 s
      rw [nat_addI (a := i5) (b := 1) (by have e8 := hi5_0; have hq0 := of_decide_eq_true hc7; have hq1 := of_decide_eq_false hc11; omega)]
      refine ops_done (by kernel_rfl) ?_
      exact ⟨⟨m5 - 1, (i5 + 1, v5, F5), _, _, _, by have hq0 := of_decide_eq_true hc7; have hq1 := of_decide_eq_false hc11; have := hi5_0; omega, rfl, s, (List.Sublist.append (List.Sublist.cons _ List.Sublist.slnil) (List.Sublist.refl _)), by kernel_rfl, hle4, by have hq0 := of_decide_eq_true hc7; have hq1 := of_decide_eq_false hc11; have := hi5_0; show i5 + 1 + (m5 - 1) = L.length; omega, (row_eq39 (few_past (by have hq0 := of_decide_eq_true hc7; have hq1 := of_decide_eq_false hc11; have := hi5_0; omega) (of_decide_eq_false hc11)) hi5_1)⟩⟩
  ·
    rw [hc7]
    refine cond_false_rule (b := false) (by kernel_rfl) rfl ?_
    refine wp_exit ?_
    refine wp_seq ?_
    refine region_rule ?_
    refine ops_rule (C := []) [] F5 2 [] 0 (fun φ18 => [(2, v5), (36, v5)]) (fun φ18 => []) (fun φ18 => []) s trivial (fun φ18 => by kernel_rfl) ?_
    intro φ18 w18 s
    refine ops_done (by kernel_rfl) ?_
    refine wp_ret ?_
    refine ret_rule (C := []) [] F5 (v5) [] [] s trivial (by kernel_rfl) ?_
    replace s := s.drop (List.sublist_append_right [] F5)
    exact ⟨_, _, _, rfl, s, (by have ei : i5 = L.length := (by have hq0 := of_decide_eq_false hc7; have := hi5_0; omega); have h9 := hi5_1; rw [ei, List.take_length] at h9; exact h9)⟩

end Go.Proofs.YtcpmjogeafhpnaaDoor
set_option linter.all false
set_option maxRecDepth 100000
namespace Go.Proofs.YtcpmjogeafhpnaaDoor
open Go.RowKit Go.Sep
theorem make_zeros {w0 : World} {I0 : IM} {m : List Nat} {I : IM} {w : World} {H : List OB} {n : Nat} (s : St w0 I0 m I w H) (hn : n ≤ 1000) :
    ∃ g cur w', (Instr.makeSlice 61 (.int .i64 ((n : Nat) : Int)) (.int .i64 ((n : Nat) : Int))).run Tryd.prog w = .ok (.slice (some ⟨g, 0, none⟩) n n) w' ∧ St w0 I0 m I w' (H ++ [(g, .cells cur 5)]) ∧ RowH 5 1 (.slice (some ⟨g, 0, none⟩) n n) n ((List.replicate n (0 : UInt8)).map bV) [(g, .cells cur 5)] := by
  have hr := run_make (P := Tryd.prog) w 61 5 Tryd.t5 (.int .u8 0) Tryd.underlying61 (by kernel_rfl) (by kernel_rfl) .i64 .i64 n n (by omega) (Int.le_refl _) (by show (1 : Int) * n ≤ _; omega) (by omega)
  simp only [Int.toNat_natCast] at hr
  refine ⟨_, _, _, hr, s.push _, by simp, .inr ⟨_, _, _, rfl, rfl, Nat.le_refl _, by simp only [maxLen]; omega, ?_, ?_⟩⟩
  · rw [size_madeCells]; rfl
  · have e : Tryd.t5.size = 1 := rfl
    rw [e]
    apply List.ext_getElem?
    intro j
    simp only [madeCells, List.map_replicate, List.getElem?_replicate, List.getElem?_take]
    by_cases hj : j < n
    · rw [if_pos (by omega), if_pos hj]
      simp [hj, Value.cells, bV, Nat.mod_one]
    · rw [if_neg (by omega), if_neg hj]
theorem run_cv16 {w : World} {r : Nat} (h : r < 65536) : (convert 72 3 (.int .u16 ((r : Nat) : Int))).run Tryd.prog w = .ok (.int .i64 ((r : Nat) : Int)) w := by
  have e : (convert 72 3 (.int .u16 ((r : Nat) : Int))).run Tryd.prog w = .ok (.int .i64 (IntKind.wrap .i64 ((r : Nat) : Int))) w := by kernel_rfl
  rw [e]
  have e2 : IntKind.wrap .i64 ((r : Nat) : Int) = ((r : Nat) : Int) := by simp only [IntKind.wrap, IntKind.signed, IntKind.bits]; simp; omega
  rw [e2]
end Go.Proofs.YtcpmjogeafhpnaaDoor
