/- The document: a patch is read. -/
import Derived.Test.YtcpmjogeafhpnaaDoorPtM17
import Derived.Laws.StructEq
set_option linter.all false
set_option maxRecDepth 100000
namespace Go.Proofs.YtcpmjogeafhpnaaDoor
open Go.RowKit Go.Sep
attribute [local irreducible] Go.wpList Go.Code.wp

theorem someF_c {I : IM} {P : List UInt8} {a : Option Addr} {k c z9 at0 e : Nat} (hl : BSl I P (.slice a k c)) (hn9 : P.length ≤ 1000000) (hat : at0 ≤ P.length) : FunM Tryd.prog 89 #[.pointer (some ⟨z9, 0, none⟩)] I [(z9, .cells #[.slice a k c, .int .i64 ((at0 : Nat) : Int), .int .i64 ((e : Nat) : Int)] 106)] (fun v J H' => ∃ b' : OB, H' = [b'] ∧ b'.1 = z9 ∧ ∃ (Fs : List Fe) (E A : Nat) (a1 : Option Addr) (c1 : Nat), v = .slice a1 Fs.length c1 ∧ b' = (z9, .cells #[.slice a k c, .int .i64 ((A : Nat) : Int), .int .i64 ((E : Nat) : Int)] 106) ∧ FSl J Fs (.slice a1 Fs.length c1) ∧ gfD (P.drop at0) e = (Fs, P.drop A, E) ∧ Fs.length ≤ 255 ∧ A ≤ P.length) := by
  refine funM_freeze (some_c (z9 := z9) (e := e) hl hn9 hat) (fun w0 I0 m w' v J H' s q => ?_)
  obtain ⟨b', F', rfl, h1, Fs, E, A, rfl, h3, h4, h5, h6⟩ := q
  obtain ⟨J2, le, hf, s2⟩ := freeze_row42 (H := [(z9, .cells #[.slice a k c, .int .i64 ((A : Nat) : Int), .int .i64 ((E : Nat) : Int)] 106)]) s h6
  obtain ⟨a1, c1, rfl, -, hf⟩ := hf.open
  exact ⟨J2, _, le, s2, _, rfl, rfl, Fs, E, A, a1, c1, rfl, rfl, hf, h4, h5, h3⟩
theorem co_err {l : List UInt8} {e : Nat} (h : e ≠ 0) : coG l e 255 9 = (0, e) ∧ nuV l e = 0 := by
  have h1 : nuV l e = 0 := by unfold nuV; rw [if_neg h]
  have h2 : nuE l e = e := by unfold nuE; rw [if_neg (by omega)]
  unfold coG
  rw [h1, h2, if_neg (by omega)]
  exact ⟨rfl, rfl⟩
theorem gfP_err {l : List UInt8} {e : Nat} (h : e ≠ 0) : (gfP l e).2.2 = e := by unfold gfP; rw [(co_err h).1]; rfl
theorem gfD_err {l : List UInt8} {e : Nat} (h : e ≠ 0) : (gfD l e).2.2 = e := by unfold gfD; rw [(co_err h).1, (co_err h).2]; rfl
theorem gkP_err {l : List UInt8} {e : Nat} (h : e ≠ 0) : (gkP l e).2.2 = e := by unfold gkP; rw [(co_err h).1]; rfl
theorem gkD_err {l : List UInt8} {e : Nat} (h : e ≠ 0) : (gkD l e).2.2 = e := by unfold gkD; rw [(co_err h).1, (co_err h).2]; rfl
theorem enE_err {l : List UInt8} {e : Nat} (h : e ≠ 0) : enE l e = e := by unfold enE; rw [if_neg (by omega)]
theorem rp_doc {l L1 L2 L3 : List UInt8} {F1 F2 : List Fe} {K : List Nat} {E1 E2 E3 : Nat} (h1 : gfD l 0 = (F1, L1, E1)) (h2 : gfD L1 E1 = (F2, L2, E2)) (h3 : gkD L2 E2 = (K, L3, E3)) :
    (rpT l).2.2.2 = enE L3 E3 ∧ (enE L3 E3 = 0 → rpT l = (F1, F2, K, enE L3 E3)) := by
  have s1 := gf_same l 0
  rw [h1] at s1
  by_cases z1 : E1 = 0
  · have q1 : gfP l 0 = (F1, L1, E1) := (s1.2 (s1.1.symm.trans z1)).symm
    have s2 := gf_same L1 E1
    rw [h2] at s2
    by_cases z2 : E2 = 0
    · have q2 : gfP L1 E1 = (F2, L2, E2) := (s2.2 (s2.1.symm.trans z2)).symm
      have s3 := gk_same L2 E2
      rw [h3] at s3
      by_cases z3 : E3 = 0
      · have q3 : gkP L2 E2 = (K, L3, E3) := (s3.2 (s3.1.symm.trans z3)).symm
        have e : rpT l = (F1, F2, K, enE L3 E3) := by unfold rpT; simp only [q1, q2, q3]
        exact ⟨by rw [e], fun _ => e⟩
      · have e : (rpT l).2.2.2 = E3 := by
          unfold rpT; simp only [q1, q2]
          rw [← s3.1]; exact enE_err z3
        rw [enE_err z3]
        exact ⟨e, fun q => absurd q z3⟩
    · have e3 : E3 = E2 := by have := gkD_err (l := L2) z2; rw [h3] at this; exact this
      have e : (rpT l).2.2.2 = E2 := by
        have t1 : (gfP L1 E1).2.2 = E2 := s2.1.symm
        unfold rpT; simp only [q1]
        rw [t1, gkP_err z2]; exact enE_err z2
      rw [e3, enE_err z2]
      exact ⟨e, fun q => absurd q z2⟩
  · have e2 : E2 = E1 := by have := gfD_err (l := L1) z1; rw [h2] at this; exact this
    have e3 : E3 = E1 := by have := gkD_err (l := L2) (e := E2) (by omega); rw [h3] at this; exact this.trans e2
    have e : (rpT l).2.2.2 = E1 := by
      have t1 : (gfP l 0).2.2 = E1 := s1.1.symm
      unfold rpT; simp only [t1]
      have t2 := gfP_err (l := (gfP l 0).2.1) z1
      rw [t2, gkP_err z1]; exact enE_err z1
    rw [e3, enE_err z1]
    exact ⟨e, fun q => absurd q z1⟩

set_option maxHeartbeats 4000000 in
theorem refReadPatch_c {I : IM} {l : List UInt8} {a : Option Addr} {c : Nat} (hl : BSl I l (.slice a l.length c)) (hn9 : l.length ≤ 1000000) : Fun Tryd.prog 48 #[.slice a l.length c] I (fun v J => ∃ (a1 a2 a3 : Option Addr) (c1 c2 c3 : Nat), v = .tuple #[.slice a1 (rpA l).length c1, .slice a2 (rpD l).length c2, .slice a3 (rpK l).length c3, .int .i64 (((rpT l).2.2.2 : Nat) : Int)] ∧ FSl J (rpA l) (.slice a1 (rpA l).length c1) ∧ FSl J (rpD l) (.slice a2 (rpD l).length c2) ∧ KSl J (rpK l) (.slice a3 (rpK l).length c3)) := by
  refine enter_rule 52 [(0, .slice a l.length c)] Tryd.func48 rfl (by kernel_rfl) ?_
  intro w s
  refine wp_seq ?_
  refine region_rule ?_
  refine ops_rule (C := []) [] [] 4 [] 0 (fun φ1 => [(5, .int .i64 0), (4, .slice none 0 0), (3, .slice none 0 0), (2, .slice none 0 0)]) (fun φ1 => []) (fun φ1 => []) s trivial (fun φ1 => by kernel_rfl) ?_
  intro φ1 w1 s
  refine ops_done (by kernel_rfl) ?_
  refine wp_seq ?_
  refine region_rule ?_
  refine ops_rule (C := []) [] [] 4 [] 1 (fun φ2 => [(6, .pointer (some ⟨(φ2 0), 0, none⟩)), (15, .pointer (some ⟨(φ2 0), 0, none⟩)), (14, .agg #[.slice a l.length c, .int .i64 0, .int .i64 0]), (13, .slice a l.length c)]) (fun φ2 => [((φ2 0), .cells #[.slice a l.length c, .int .i64 0, .int .i64 0] 106)]) (fun φ2 => []) s trivial (fun φ2 => by kernel_rfl) ?_
  intro φ2 w2 s
  refine ops_done (by kernel_rfl) ?_
  refine wp_seq ?_
  refine region_rule ?_
  refine ops_rule (C := []) [((φ2 0), .cells #[.slice a l.length c, .int .i64 0, .int .i64 0] 106)] [] 1 [] 0 (fun φ3 => [(16, .pointer (some ⟨(φ2 0), 0, none⟩))]) (fun φ3 => [((φ2 0), .cells #[.slice a l.length c, .int .i64 0, .int .i64 0] 106)]) (fun φ3 => []) s trivial (fun φ3 => by kernel_rfl) ?_
  intro φ3 w3 s
  refine callB_rule (b := ((φ2 0), .cells #[.slice a l.length c, .int .i64 0, .int .i64 0] 106)) (H := [((φ2 0), .cells #[.slice a l.length c, .int .i64 0, .int .i64 0] 106)]) (F := []) (Hr := []) (some 17) 0 s (by kernel_rfl) (by kernel_rfl) (someF_c (z9 := (φ2 0)) (at0 := 0) (e := 0) hl hn9 (Nat.zero_le _)) (by kernel_rfl) ?_
  rintro v4 I4 w4 b4 le4 - h4 s
  replace hl := BSl.mono le4 hl
  obtain ⟨Fs4, E4, A4, b4, d4, rfl, rfl, h4_0, h4_1, h4_2, h4_3⟩ := h4
  refine ops_rule (C := []) [((φ2 0), .cells #[.slice a l.length c, .int .i64 ((A4 : Nat) : Int), .int .i64 ((E4 : Nat) : Int)] 106)] [] 1 [] 0 (fun φ5 => [(7, .slice b4 Fs4.length d4)]) (fun φ5 => [((φ2 0), .cells #[.slice a l.length c, .int .i64 ((A4 : Nat) : Int), .int .i64 ((E4 : Nat) : Int)] 106)]) (fun φ5 => []) s trivial (fun φ5 => by kernel_rfl) ?_
  intro φ5 w5 s
  refine ops_done (by kernel_rfl) ?_
  refine wp_seq ?_
  refine region_rule ?_
  refine ops_rule (C := []) [((φ2 0), .cells #[.slice a l.length c, .int .i64 ((A4 : Nat) : Int), .int .i64 ((E4 : Nat) : Int)] 106)] [] 1 [] 0 (fun φ6 => [(18, .pointer (some ⟨(φ2 0), 0, none⟩))]) (fun φ6 => [((φ2 0), .cells #[.slice a l.length c, .int .i64 ((A4 : Nat) : Int), .int .i64 ((E4 : Nat) : Int)] 106)]) (fun φ6 => []) s trivial (fun φ6 => by kernel_rfl) ?_
  intro φ6 w6 s
  refine callB_rule (b := ((φ2 0), .cells #[.slice a l.length c, .int .i64 ((A4 : Nat) : Int), .int .i64 ((E4 : Nat) : Int)] 106)) (H := [((φ2 0), .cells #[.slice a l.length c, .int .i64 ((A4 : Nat) : Int), .int .i64 ((E4 : Nat) : Int)] 106)]) (F := []) (Hr := []) (some 19) 0 s (by kernel_rfl) (by kernel_rfl) (someF_c (z9 := (φ2 0)) (at0 := A4) (e := E4) hl hn9 h4_3) (by kernel_rfl) ?_
  rintro v7 I7 w7 b7 le7 - h7 s
  replace hl := BSl.mono le7 hl
  replace h4_0 := FSl.mono le7 h4_0
  obtain ⟨Fs7, E7, A7, b7, d7, rfl, rfl, h7_0, h7_1, h7_2, h7_3⟩ := h7
  refine ops_rule (C := []) [((φ2 0), .cells #[.slice a l.length c, .int .i64 ((A7 : Nat) : Int), .int .i64 ((E7 : Nat) : Int)] 106)] [] 1 [] 0 (fun φ8 => [(8, .slice b7 Fs7.length d7)]) (fun φ8 => [((φ2 0), .cells #[.slice a l.length c, .int .i64 ((A7 : Nat) : Int), .int .i64 ((E7 : Nat) : Int)] 106)]) (fun φ8 => []) s trivial (fun φ8 => by kernel_rfl) ?_
  intro φ8 w8 s
  refine ops_done (by kernel_rfl) ?_
  refine wp_seq ?_
  refine region_rule ?_
  refine ops_rule (C := []) [((φ2 0), .cells #[.slice a l.length c, .int .i64 ((A7 : Nat) : Int), .int .i64 ((E7 : Nat) : Int)] 106)] [] 1 [] 0 (fun φ9 => [(20, .pointer (some ⟨(φ2 0), 0, none⟩))]) (fun φ9 => [((φ2 0), .cells #[.slice a l.length c, .int .i64 ((A7 : Nat) : Int), .int .i64 ((E7 : Nat) : Int)] 106)]) (fun φ9 => []) s trivial (fun φ9 => by kernel_rfl) ?_
  intro φ9 w9 s
  refine callB_rule (b := ((φ2 0), .cells #[.slice a l.length c, .int .i64 ((A7 : Nat) : Int), .int .i64 ((E7 : Nat) : Int)] 106)) (H := [((φ2 0), .cells #[.slice a l.length c, .int .i64 ((A7 : Nat) : Int), .int .i64 ((E7 : Nat) : Int)] 106)]) (F := []) (Hr := []) (some 21) 0 s (by kernel_rfl) (by kernel_rfl) (rNumV (z9 := (φ2 0)) (at0 := A7) (e := E7) hl hn9 h7_3) (by kernel_rfl) ?_
  rintro v10 I10 w10 b10 le10 - h10 s
  replace hl := BSl.mono le10 hl
  replace h4_0 := FSl.mono le10 h4_0
  replace h7_0 := FSl.mono le10 h7_0
  obtain ⟨V10, E10, A10, rfl, rfl, h10_0, h10_1, h10_2, h10_3⟩ := h10
  refine ops_rule (C := []) [((φ2 0), .cells #[.slice a l.length c, .int .i64 ((A10 : Nat) : Int), .int .i64 ((E10 : Nat) : Int)] 106)] [] 1 [] 0 (fun φ11 => [(9, .int .u64 ((V10 : Nat) : Int))]) (fun φ11 => [((φ2 0), .cells #[.slice a l.length c, .int .i64 ((A10 : Nat) : Int), .int .i64 ((E10 : Nat) : Int)] 106)]) (fun φ11 => []) s trivial (fun φ11 => by kernel_rfl) ?_
  intro φ11 w11 s
  refine ops_done (by kernel_rfl) ?_
  refine wp_seq ?_
  refine wp_seq ?_
  refine region_rule ?_
  refine ops_rule (C := []) [((φ2 0), .cells #[.slice a l.length c, .int .i64 ((A10 : Nat) : Int), .int .i64 ((E10 : Nat) : Int)] 106)] [] 2 [] 0 (fun φ12 => [(23, .bool (decide (((V10 : Nat) : Int) > ((255 : Nat) : Int)))), (22, .int .u64 ((V10 : Nat) : Int))]) (fun φ12 => [((φ2 0), .cells #[.slice a l.length c, .int .i64 ((A10 : Nat) : Int), .int .i64 ((E10 : Nat) : Int)] 106)]) (fun φ12 => []) s trivial (fun φ12 => by kernel_rfl) ?_
  intro φ12 w12 s
  rw [nat_gtr (a := V10) (b := 255)]
  refine ops_done (by kernel_rfl) ?_
  rcases Bool.eq_false_or_eq_true (decide (255 < V10)) with hc13 | hc13
  ·
    rw [hc13]
    refine cond_true_rule (b := true) (by kernel_rfl) rfl ?_
    refine region_rule ?_
    refine ops_rule (C := []) [((φ2 0), .cells #[.slice a l.length c, .int .i64 ((A10 : Nat) : Int), .int .i64 ((E10 : Nat) : Int)] 106)] [] 1 [] 0 (fun φ14 => [(24, .pointer (some ⟨(φ2 0), 0, none⟩))]) (fun φ14 => [((φ2 0), .cells #[.slice a l.length c, .int .i64 ((A10 : Nat) : Int), .int .i64 ((E10 : Nat) : Int)] 106)]) (fun φ14 => []) s trivial (fun φ14 => by kernel_rfl) ?_
    intro φ14 w14 s
    refine callB_rule (b := ((φ2 0), .cells #[.slice a l.length c, .int .i64 ((A10 : Nat) : Int), .int .i64 ((E10 : Nat) : Int)] 106)) (H := [((φ2 0), .cells #[.slice a l.length c, .int .i64 ((A10 : Nat) : Int), .int .i64 ((E10 : Nat) : Int)] 106)]) (F := []) (Hr := []) (some 25) 0 s (by kernel_rfl) (by kernel_rfl) (rFailV (z9 := (φ2 0)) (at0 := A10) (e := E10) hl hn9 h10_3 (q := 9)) (by kernel_rfl) ?_
    rintro v15 I15 w15 b15 le15 - h15 s
    replace hl := BSl.mono le15 hl
    replace h4_0 := FSl.mono le15 h4_0
    replace h7_0 := FSl.mono le15 h7_0
    obtain ⟨E15, A15, rfl, rfl, h15_0, h15_1, h15_2⟩ := h15
    refine ops_done (by kernel_rfl) ?_
    refine wp_seq ?_
    refine region_rule ?_
    refine ops_rule (C := []) [((φ2 0), .cells #[.slice a l.length c, .int .i64 ((A15 : Nat) : Int), .int .i64 ((E15 : Nat) : Int)] 106)] [] 1 [] 0 (fun φ16 => [(10, .slice none 0 0)]) (fun φ16 => [((φ2 0), .cells #[.slice a l.length c, .int .i64 ((A15 : Nat) : Int), .int .i64 ((E15 : Nat) : Int)] 106)]) (fun φ16 => []) s trivial (fun φ16 => by kernel_rfl) ?_
    intro φ16 w16 s
    refine ops_done (by kernel_rfl) ?_
    refine wp_seq ?_
    refine wp_seq ?_
    refine region_rule ?_
    refine ops_rule (C := []) [((φ2 0), .cells #[.slice a l.length c, .int .i64 ((A15 : Nat) : Int), .int .i64 ((E15 : Nat) : Int)] 106)] [] 1 [] 0 (fun φ17 => [(11, .int .u64 0)]) (fun φ17 => [((φ2 0), .cells #[.slice a l.length c, .int .i64 ((A15 : Nat) : Int), .int .i64 ((E15 : Nat) : Int)] 106)]) (fun φ17 => []) s trivial (fun φ17 => by kernel_rfl) ?_
    intro φ17 w17 s
    refine ops_done (by kernel_rfl) ?_
    refine wp_block ?_
    have hb18 : V10 ≤ 255 ∨ E15 ≠ 0 := .inr (by rw [← h15_0]; exact fa_ne)
    have hle19 := IM.Le.refl I15
    refine loop_rule (fun (x : Nat × Nat × Nat × Value × List OB × List Nat) => [(0, .slice a l.length c), (2, .slice none 0 0), (3, .slice none 0 0), (4, .slice none 0 0), (5, .int .i64 0), (6, .pointer (some ⟨(φ2 0), 0, none⟩)), (7, .slice b4 Fs4.length d4), (8, .slice b7 Fs7.length d7), (9, .int .u64 ((V10 : Nat) : Int)), (11, .int .u64 ((x.1 : Nat) : Int)), (10, x.2.2.2.1)]) (fun (x : Nat × Nat × Nat × Value × List OB × List Nat) => [((φ2 0), .cells #[.slice a l.length c, .int .i64 ((x.2.1 : Nat) : Int), .int .i64 ((x.2.2.1 : Nat) : Int)] 106)] ++ x.2.2.2.2.1) (fun m (x : Nat × Nat × Nat × Value × List OB × List Nat) J => IM.Le I15 J ∧ x.1 + m = V10 ∧ x.2.1 ≤ l.length ∧ RowH 3 1 x.2.2.2.1 (x.2.2.2.2.2).length (ic x.2.2.2.2.2) x.2.2.2.2.1 ∧ (x.2.2.2.2.2).length = x.1 ∧ dK V10 (l.drop A15) E15 = (x.2.2.2.2.2 ++ (dK m (l.drop x.2.1) x.2.2.1).1, (dK m (l.drop x.2.1) x.2.2.1).2) ∧ (V10 ≤ 255 ∨ x.2.2.1 ≠ 0) ∧ (x.2.2.2.2.2).length ≤ 255) (V10) (0, A15, E15, (.slice none 0 0), [], []) s (by kernel_rfl) (List.Sublist.refl _) ⟨IM.Le.refl _, Nat.zero_add _, h15_2, (RowH.nil 3 1), rfl, rfl, hb18, Nat.zero_le _⟩ ?_
    rintro m20 ⟨i20, A20, e20, v20, F20, Fs20⟩ I20 w20 ev20 s ⟨le20, hi20_0, hi20_1, hi20_2, hi20_3, hi20_4, hi20_5, hi20_6⟩
    try dsimp only at s hi20_0 hi20_1 hi20_2 hi20_3 hi20_4 hi20_5 hi20_6 ⊢
    replace hl := BSl.mono le20 hl
    replace h4_0 := FSl.mono le20 h4_0
    replace h7_0 := FSl.mono le20 h7_0
    replace hle19 := leMono le20 hle19
    have hl9 : Fs20.length ≤ 255 := hi20_6
    refine wp_seq ?_
    refine wp_seq ?_
    refine region_rule ?_
    refine ops_rule (C := []) [((φ2 0), .cells #[.slice a l.length c, .int .i64 ((A20 : Nat) : Int), .int .i64 ((e20 : Nat) : Int)] 106)] F20 4 [] 0 (fun φ21 => [(29, .bool (decide (((i20 : Nat) : Int) < ((V10 : Nat) : Int)))), (28, .bool (decide (((i20 : Nat) : Int) < ((V10 : Nat) : Int)))), (27, .int .u64 ((V10 : Nat) : Int)), (26, .int .u64 ((i20 : Nat) : Int))]) (fun φ21 => [((φ2 0), .cells #[.slice a l.length c, .int .i64 ((A20 : Nat) : Int), .int .i64 ((e20 : Nat) : Int)] 106)]) (fun φ21 => []) s trivial (fun φ21 => by kernel_rfl) ?_
    intro φ21 w21 s
    rw [nat_lss (a := i20) (b := V10)]
    rcases Bool.eq_false_or_eq_true (decide (i20 < V10)) with hc22 | hc22
    ·
      rw [hc22]
      refine ops_rule (C := []) [((φ2 0), .cells #[.slice a l.length c, .int .i64 ((A20 : Nat) : Int), .int .i64 ((e20 : Nat) : Int)] 106)] F20 6 [.o 0] 0 (fun φ23 => [(35, .bool (((e20 : Nat) : Int) == ((0 : Nat) : Int))), (34, .bool (((e20 : Nat) : Int) == ((0 : Nat) : Int))), (33, .int .i64 ((e20 : Nat) : Int)), (32, .pointer (some ⟨(φ2 0), 2, none⟩)), (31, .pointer (some ⟨(φ2 0), 0, none⟩)), (30, .pointer (some ⟨(φ2 0), 0, none⟩))]) (fun φ23 => [((φ2 0), .cells #[.slice a l.length c, .int .i64 ((A20 : Nat) : Int), .int .i64 ((e20 : Nat) : Int)] 106)]) (fun φ23 => [(φ2 0)]) s trivial (fun φ23 => by kernel_rfl) ?_
      intro φ23 w23 s
      rw [nat_eql (a := e20) (b := 0)]
      refine ops_done (by kernel_rfl) ?_
      rcases Bool.eq_false_or_eq_true (decide (e20 = 0)) with hc24 | hc24
      ·
        rw [hc24]
        refine cond_true_rule (b := true) (by kernel_rfl) rfl ?_
        refine wp_skip ?_
        refine wp_seq ?_
        refine wp_block ?_
        refine region_rule ?_
        refine ops_rule (C := []) [((φ2 0), .cells #[.slice a l.length c, .int .i64 ((A20 : Nat) : Int), .int .i64 ((e20 : Nat) : Int)] 106)] F20 2 [] 0 (fun φ25 => [(39, .pointer (some ⟨(φ2 0), 0, none⟩)), (38, v20)]) (fun φ25 => [((φ2 0), .cells #[.slice a l.length c, .int .i64 ((A20 : Nat) : Int), .int .i64 ((e20 : Nat) : Int)] 106)]) (fun φ25 => []) s trivial (fun φ25 => by kernel_rfl) ?_
        intro φ25 w25 s
        refine callB_rule (b := ((φ2 0), .cells #[.slice a l.length c, .int .i64 ((A20 : Nat) : Int), .int .i64 ((e20 : Nat) : Int)] 106)) (H := [((φ2 0), .cells #[.slice a l.length c, .int .i64 ((A20 : Nat) : Int), .int .i64 ((e20 : Nat) : Int)] 106)]) (F := F20) (Hr := []) (some 40) 0 s (by kernel_rfl) (by kernel_rfl) (rByteV (z9 := (φ2 0)) (at0 := A20) (e := e20) hl hn9 hi20_1) (by kernel_rfl) ?_
        rintro v26 I26 w26 b26 le26 - h26 s
        replace hl := BSl.mono le26 hl
        replace h4_0 := FSl.mono le26 h4_0
        replace h7_0 := FSl.mono le26 h7_0
        replace hle19 := leMono le26 hle19
        obtain ⟨V26, E26, A26, rfl, rfl, h26_0, h26_1, h26_2, h26_3⟩ := h26
        refine ops_rule (C := []) [((φ2 0), .cells #[.slice a l.length c, .int .i64 ((A26 : Nat) : Int), .int .i64 ((E26 : Nat) : Int)] 106)] F20 2 [] 1 (fun φ27 => [(42, .slice (some ⟨(φ27 0), 0, none⟩) 1 1), (41, .int .i64 (IntKind.wrap .i64 ((V26 : Nat) : Int)))]) (fun φ27 => [((φ2 0), .cells #[.slice a l.length c, .int .i64 ((A26 : Nat) : Int), .int .i64 ((E26 : Nat) : Int)] 106), ((φ27 0), .cells #[.int .i64 (IntKind.wrap .i64 ((V26 : Nat) : Int))] 3)]) (fun φ27 => []) s trivial (fun φ27 => by kernel_rfl) ?_
        intro φ27 w27 s
        rw [nat_wrapI (a := V26) (by have h9 := byV_lt (l.drop A20) e20; rw [h26_0] at h9; omega)] at s ⊢
        refine append_rule (H := [((φ2 0), .cells #[.slice a l.length c, .int .i64 ((A26 : Nat) : Int), .int .i64 ((E26 : Nat) : Int)] 106), ((φ27 0), .cells #[.int .i64 ((V26 : Nat) : Int)] 3)]) (F := F20) 52 52 3 Tryd.t3 (.int .i64 0) 1 8 (some 43) s Tryd.underlying52 (by kernel_rfl) (by kernel_rfl) (by kernel_rfl) (by kernel_rfl) (by kernel_rfl) (by decide) hi20_2 (src_own s 1 (φ27 0) #[.int .i64 ((V26 : Nat) : Int)] 3 52 3 1 1 1 [.int .i64 ((V26 : Nat) : Int)] (by kernel_rfl) Tryd.underlying52 (by kernel_rfl) (by kernel_rfl) (by kernel_rfl)) (by simp only [maxLen]; omega) (by omega) (by kernel_rfl) ?_
        intro v28 w28 F28 s h28
        refine ops_rule (C := []) [((φ2 0), .cells #[.slice a l.length c, .int .i64 ((A26 : Nat) : Int), .int .i64 ((E26 : Nat) : Int)] 106), ((φ27 0), .cells #[.int .i64 ((V26 : Nat) : Int)] 3)] F28 1 [] 0 (fun φ29 => [(10, v28)]) (fun φ29 => [((φ2 0), .cells #[.slice a l.length c, .int .i64 ((A26 : Nat) : Int), .int .i64 ((E26 : Nat) : Int)] 106), ((φ27 0), .cells #[.int .i64 ((V26 : Nat) : Int)] 3)]) (fun φ29 => []) s trivial (fun φ29 => by kernel_rfl) ?_
        intro φ29 w29 s
        refine ops_done (by kernel_rfl) ?_
        refine region_rule ?_
        refine ops_rule (C := []) [((φ2 0), .cells #[.slice a l.length c, .int .i64 ((A26 : Nat) : Int), .int .i64 ((E26 : Nat) : Int)] 106), ((φ27 0), .cells #[.int .i64 ((V26 : Nat) : Int)] 3)] F28 3 [] 0 (fun φ30 => [(11, .int .u64 (IntKind.wrap .u64 (((i20 : Nat) : Int) + ((1 : Nat) : Int)))), (37, .int .u64 (IntKind.wrap .u64 (((i20 : Nat) : Int) + ((1 : Nat) : Int)))), (36, .int .u64 ((i20 : Nat) : Int))]) (fun φ30 => [((φ2 0), .cells #[.slice a l.length c, .int .i64 ((A26 : Nat) : Int), .int .i64 ((E26 : Nat) : Int)] 106), ((φ27 0), .cells #[.int .i64 ((V26 : Nat) : Int)] 3)]) (fun φ30 => []) s trivial (fun φ30 => by kernel_rfl) ?_
        intro φ30 w30 s
        rw [nat_addU (a := i20) (b := 1) (by have e9 := hi20_3; have e8 := hi20_0; have e7 := hi20_5; have hq0 := of_decide_eq_true hc13; have hq1 := of_decide_eq_true hc22; have hq2 := of_decide_eq_true hc24; omega)]
        refine ops_done (by kernel_rfl) ?_
        exact ⟨⟨m20 - 1, (i20 + 1, A26, E26, v28, F28, Fs20 ++ [V26]), _, _, _, by have hq0 := of_decide_eq_true hc13; have hq1 := of_decide_eq_true hc22; have hq2 := of_decide_eq_true hc24; have := hi20_0; omega, rfl, s, (List.Sublist.append (List.Sublist.cons₂ _ (List.Sublist.cons _ List.Sublist.slnil)) (List.Sublist.refl _)), by kernel_rfl, hle19, by have hq0 := of_decide_eq_true hc13; have hq1 := of_decide_eq_true hc22; have hq2 := of_decide_eq_true hc24; have := hi20_0; show i20 + 1 + (m20 - 1) = V10; omega, h26_3, row3_snoc h28 rfl, by have := hi20_3; show (Fs20 ++ [V26]).length = i20 + 1; rw [List.length_append, this]; rfl, dK_step hi20_4 (by have hq0 := of_decide_eq_true hc13; have hq1 := of_decide_eq_true hc22; have hq2 := of_decide_eq_true hc24; have := hi20_0; omega) (by have hq0 := of_decide_eq_true hc13; have hq1 := of_decide_eq_true hc22; have hq2 := of_decide_eq_true hc24; omega) h26_0 h26_1 h26_2, by have hq0 := of_decide_eq_true hc13; have hq1 := of_decide_eq_true hc22; have hq2 := of_decide_eq_true hc24; have := hi20_5; show _ ∨ _; omega, by have hq0 := of_decide_eq_true hc13; have hq1 := of_decide_eq_true hc22; have hq2 := of_decide_eq_true hc24; have := hi20_5; have := hi20_3; show (Fs20 ++ [V26]).length ≤ 255; rw [List.length_append]; simp only [List.length_cons, List.length_nil]; omega⟩⟩
      ·
        rw [hc24]
        refine cond_false_rule (b := false) (by kernel_rfl) rfl ?_
        refine wp_exit ?_
        refine wp_seq ?_
        refine wp_seq ?_
        refine region_rule ?_
        refine ops_rule (C := []) [((φ2 0), .cells #[.slice a l.length c, .int .i64 ((A20 : Nat) : Int), .int .i64 ((e20 : Nat) : Int)] 106)] F20 1 [] 0 (fun φ31 => [(44, .pointer (some ⟨(φ2 0), 0, none⟩))]) (fun φ31 => [((φ2 0), .cells #[.slice a l.length c, .int .i64 ((A20 : Nat) : Int), .int .i64 ((e20 : Nat) : Int)] 106)]) (fun φ31 => []) s trivial (fun φ31 => by kernel_rfl) ?_
        intro φ31 w31 s
        refine callB_rule (b := ((φ2 0), .cells #[.slice a l.length c, .int .i64 ((A20 : Nat) : Int), .int .i64 ((e20 : Nat) : Int)] 106)) (H := [((φ2 0), .cells #[.slice a l.length c, .int .i64 ((A20 : Nat) : Int), .int .i64 ((e20 : Nat) : Int)] 106)]) (F := F20) (Hr := []) (some 45) 0 s (by kernel_rfl) (by kernel_rfl) (rEndV (z9 := (φ2 0)) (at0 := A20) (e := e20) hl hn9 hi20_1) (by kernel_rfl) ?_
        rintro v32 I32 w32 b32 le32 - h32 s
        replace hl := BSl.mono le32 hl
        replace h4_0 := FSl.mono le32 h4_0
        replace h7_0 := FSl.mono le32 h7_0
        replace hle19 := leMono le32 hle19
        obtain ⟨V32, E32, A32, rfl, rfl, h32_0, h32_1, h32_2⟩ := h32
        refine ops_rule (C := []) [((φ2 0), .cells #[.slice a l.length c, .int .i64 ((A32 : Nat) : Int), .int .i64 ((E32 : Nat) : Int)] 106)] F20 1 [] 0 (fun φ33 => [(12, .int .i64 ((V32 : Nat) : Int))]) (fun φ33 => [((φ2 0), .cells #[.slice a l.length c, .int .i64 ((A32 : Nat) : Int), .int .i64 ((E32 : Nat) : Int)] 106)]) (fun φ33 => []) s trivial (fun φ33 => by kernel_rfl) ?_
        intro φ33 w33 s
        refine ops_done (by kernel_rfl) ?_
        refine wp_seq ?_
        refine region_rule ?_
        refine ops_rule (C := []) [((φ2 0), .cells #[.slice a l.length c, .int .i64 ((A32 : Nat) : Int), .int .i64 ((E32 : Nat) : Int)] 106)] F20 2 [] 0 (fun φ34 => [(47, .bool (((V32 : Nat) : Int) != ((0 : Nat) : Int))), (46, .int .i64 ((V32 : Nat) : Int))]) (fun φ34 => [((φ2 0), .cells #[.slice a l.length c, .int .i64 ((A32 : Nat) : Int), .int .i64 ((E32 : Nat) : Int)] 106)]) (fun φ34 => []) s trivial (fun φ34 => by kernel_rfl) ?_
        intro φ34 w34 s
        rw [nat_neq (a := V32) (b := 0)]
        refine ops_done (by kernel_rfl) ?_
        rcases Bool.eq_false_or_eq_true (decide (V32 ≠ 0)) with hc35 | hc35
        ·
          rw [hc35]
          refine cond_true_rule (b := true) (by kernel_rfl) rfl ?_
          refine wp_seq ?_
          refine region_rule ?_
          refine ops_rule (C := []) [((φ2 0), .cells #[.slice a l.length c, .int .i64 ((A32 : Nat) : Int), .int .i64 ((E32 : Nat) : Int)] 106)] F20 5 [] 0 (fun φ36 => [(5, .int .i64 ((V32 : Nat) : Int)), (4, .slice none 0 0), (3, .slice none 0 0), (2, .slice none 0 0), (48, .int .i64 ((V32 : Nat) : Int))]) (fun φ36 => [((φ2 0), .cells #[.slice a l.length c, .int .i64 ((A32 : Nat) : Int), .int .i64 ((E32 : Nat) : Int)] 106)]) (fun φ36 => []) s trivial (fun φ36 => by kernel_rfl) ?_
          intro φ36 w36 s
          refine ops_done (by kernel_rfl) ?_
          refine wp_ret ?_
          refine ret_rule (C := []) [((φ2 0), .cells #[.slice a l.length c, .int .i64 ((A32 : Nat) : Int), .int .i64 ((E32 : Nat) : Int)] 106)] F20 (.tuple #[.slice none 0 0, .slice none 0 0, .slice none 0 0, .int .i64 ((V32 : Nat) : Int)]) [] [] s trivial (by kernel_rfl) ?_
          have hm0 : m20 = 0 ∨ e20 ≠ 0 := by have hq0 := of_decide_eq_true hc13; have hq1 := of_decide_eq_true hc22; have hq2 := of_decide_eq_false hc24; have hq3 := of_decide_eq_true hc35; have := hi20_0; omega
          have e7 := hi20_4
          rw [dK_done hm0] at e7
          simp only [List.append_nil] at e7
          have e6 : gkD (l.drop A7) E7 = (Fs20, l.drop A20, e20) := by unfold gkD; rw [(co_bigV h10_0 h10_1 (of_decide_eq_true hc13) h15_0), h10_0, h10_2, h15_1]; exact e7
          have ed := rp_doc (by have q := h4_1; rw [List.drop_zero] at q; exact q) h7_1 e6
          rw [h32_0] at ed
          have hz := of_decide_eq_true hc35
          have er : ¬ (rpT l).2.2.2 = 0 := by rw [ed.1]; exact hz
          have eA : rpA l = [] := if_neg er
          have eD : rpD l = [] := if_neg er
          have eK : rpK l = [] := if_neg er
          rw [eA, eD, eK, ed.1]
          exact ⟨_, _, _, rfl, s, ⟨none, none, none, 0, 0, 0, rfl, fsl_nil _, fsl_nil _, ksl_nil _⟩⟩
        ·
          rw [hc35]
          refine cond_false_rule (b := false) (by kernel_rfl) rfl ?_
          refine wp_skip ?_
          refine wp_seq ?_
          refine region_rule ?_
          refine ops_rule (C := []) [((φ2 0), .cells #[.slice a l.length c, .int .i64 ((A32 : Nat) : Int), .int .i64 ((E32 : Nat) : Int)] 106)] F20 7 [] 0 (fun φ37 => [(5, .int .i64 0), (4, v20), (3, .slice b7 Fs7.length d7), (2, .slice b4 Fs4.length d4), (51, v20), (50, .slice b7 Fs7.length d7), (49, .slice b4 Fs4.length d4)]) (fun φ37 => [((φ2 0), .cells #[.slice a l.length c, .int .i64 ((A32 : Nat) : Int), .int .i64 ((E32 : Nat) : Int)] 106)]) (fun φ37 => []) s trivial (fun φ37 => by kernel_rfl) ?_
          intro φ37 w37 s
          refine ops_done (by kernel_rfl) ?_
          refine wp_ret ?_
          refine ret_rule (C := []) [((φ2 0), .cells #[.slice a l.length c, .int .i64 ((A32 : Nat) : Int), .int .i64 ((E32 : Nat) : Int)] 106)] F20 (.tuple #[.slice b4 Fs4.length d4, .slice b7 Fs7.length d7, v20, .int .i64 0]) [] [] s trivial (by kernel_rfl) ?_
          have hm0 : m20 = 0 ∨ e20 ≠ 0 := by have hq0 := of_decide_eq_true hc13; have hq1 := of_decide_eq_true hc22; have hq2 := of_decide_eq_false hc24; have hq3 := of_decide_eq_false hc35; have := hi20_0; omega
          have e7 := hi20_4
          rw [dK_done hm0] at e7
          simp only [List.append_nil] at e7
          have e6 : gkD (l.drop A7) E7 = (Fs20, l.drop A20, e20) := by unfold gkD; rw [(co_bigV h10_0 h10_1 (of_decide_eq_true hc13) h15_0), h10_0, h10_2, h15_1]; exact e7
          have ed := rp_doc (by have q := h4_1; rw [List.drop_zero] at q; exact q) h7_1 e6
          rw [h32_0] at ed
          have hz := Decidable.not_not.1 (of_decide_eq_false hc35)
          have er : (rpT l).2.2.2 = 0 := by rw [ed.1]; exact hz
          have e9 := ed.2 hz
          have eA : rpA l = Fs4 := by rw [rpA, if_pos er, e9]
          have eD : rpD l = Fs7 := by rw [rpD, if_pos er, e9]
          have eK : rpK l = Fs20 := by rw [rpK, if_pos er, e9]
          rw [eA, eD, eK, er]
          obtain ⟨J38, le38, hk38, s⟩ := freeze_row3 (H := [((φ2 0), .cells #[.slice a l.length c, .int .i64 ((A32 : Nat) : Int), .int .i64 ((E32 : Nat) : Int)] 106)]) (F := F20) s hi20_2
          obtain ⟨a38, c38, hv38, -, hk38⟩ := hk38.open
          subst hv38
          exact ⟨_, _, _, rfl, s, ⟨_, _, _, _, _, _, rfl, h4_0.mono le38, h7_0.mono le38, hk38⟩⟩
    ·
      rw [hc22]
      refine ops_rule (C := []) [((φ2 0), .cells #[.slice a l.length c, .int .i64 ((A20 : Nat) : Int), .int .i64 ((e20 : Nat) : Int)] 106)] F20 6 [] 0 (fun φ39 => [(35, .bool false), (34, undef), (33, undef), (32, undef), (31, undef), (30, undef)]) (fun φ39 => [((φ2 0), .cells #[.slice a l.length c, .int .i64 ((A20 : Nat) : Int), .int .i64 ((e20 : Nat) : Int)] 106)]) (fun φ39 => []) s trivial (fun φ39 => by kernel_rfl) ?_
      intro φ39 w39 s
      refine ops_done (by kernel_rfl) ?_
      refine cond_false_rule (b := false) (by kernel_rfl) rfl ?_
      refine wp_exit ?_
      refine wp_seq ?_
      refine wp_seq ?_
      refine region_rule ?_
      refine ops_rule (C := []) [((φ2 0), .cells #[.slice a l.length c, .int .i64 ((A20 : Nat) : Int), .int .i64 ((e20 : Nat) : Int)] 106)] F20 1 [] 0 (fun φ40 => [(44, .pointer (some ⟨(φ2 0), 0, none⟩))]) (fun φ40 => [((φ2 0), .cells #[.slice a l.length c, .int .i64 ((A20 : Nat) : Int), .int .i64 ((e20 : Nat) : Int)] 106)]) (fun φ40 => []) s trivial (fun φ40 => by kernel_rfl) ?_
      intro φ40 w40 s
      refine callB_rule (b := ((φ2 0), .cells #[.slice a l.length c, .int .i64 ((A20 : Nat) : Int), .int .i64 ((e20 : Nat) : Int)] 106)) (H := [((φ2 0), .cells #[.slice a l.length c, .int .i64 ((A20 : Nat) : Int), .int .i64 ((e20 : Nat) : Int)] 106)]) (F := F20) (Hr := []) (some 45) 0 s (by kernel_rfl) (by kernel_rfl) (rEndV (z9 := (φ2 0)) (at0 := A20) (e := e20) hl hn9 hi20_1) (by kernel_rfl) ?_
      rintro v41 I41 w41 b41 le41 - h41 s
      replace hl := BSl.mono le41 hl
      replace h4_0 := FSl.mono le41 h4_0
      replace h7_0 := FSl.mono le41 h7_0
      replace hle19 := leMono le41 hle19
      obtain ⟨V41, E41, A41, rfl, rfl, h41_0, h41_1, h41_2⟩ := h41
      refine ops_rule (C := []) [((φ2 0), .cells #[.slice a l.length c, .int .i64 ((A41 : Nat) : Int), .int .i64 ((E41 : Nat) : Int)] 106)] F20 1 [] 0 (fun φ42 => [(12, .int .i64 ((V41 : Nat) : Int))]) (fun φ42 => [((φ2 0), .cells #[.slice a l.length c, .int .i64 ((A41 : Nat) : Int), .int .i64 ((E41 : Nat) : Int)] 106)]) (fun φ42 => []) s trivial (fun φ42 => by kernel_rfl) ?_
      intro φ42 w42 s
      refine ops_done (by kernel_rfl) ?_
      refine wp_seq ?_
      refine region_rule ?_
      refine ops_rule (C := []) [((φ2 0), .cells #[.slice a l.length c, .int .i64 ((A41 : Nat) : Int), .int .i64 ((E41 : Nat) : Int)] 106)] F20 2 [] 0 (fun φ43 => [(47, .bool (((V41 : Nat) : Int) != ((0 : Nat) : Int))), (46, .int .i64 ((V41 : Nat) : Int))]) (fun φ43 => [((φ2 0), .cells #[.slice a l.length c, .int .i64 ((A41 : Nat) : Int), .int .i64 ((E41 : Nat) : Int)] 106)]) (fun φ43 => []) s trivial (fun φ43 => by kernel_rfl) ?_
      intro φ43 w43 s
      rw [nat_neq (a := V41) (b := 0)]
      refine ops_done (by kernel_rfl) ?_
      rcases Bool.eq_false_or_eq_true (decide (V41 ≠ 0)) with hc44 | hc44
      ·
        rw [hc44]
        refine cond_true_rule (b := true) (by kernel_rfl) rfl ?_
        refine wp_seq ?_
        refine region_rule ?_
        refine ops_rule (C := []) [((φ2 0), .cells #[.slice a l.length c, .int .i64 ((A41 : Nat) : Int), .int .i64 ((E41 : Nat) : Int)] 106)] F20 5 [] 0 (fun φ45 => [(5, .int .i64 ((V41 : Nat) : Int)), (4, .slice none 0 0), (3, .slice none 0 0), (2, .slice none 0 0), (48, .int .i64 ((V41 : Nat) : Int))]) (fun φ45 => [((φ2 0), .cells #[.slice a l.length c, .int .i64 ((A41 : Nat) : Int), .int .i64 ((E41 : Nat) : Int)] 106)]) (fun φ45 => []) s trivial (fun φ45 => by kernel_rfl) ?_
        intro φ45 w45 s
        refine ops_done (by kernel_rfl) ?_
        refine wp_ret ?_
        refine ret_rule (C := []) [((φ2 0), .cells #[.slice a l.length c, .int .i64 ((A41 : Nat) : Int), .int .i64 ((E41 : Nat) : Int)] 106)] F20 (.tuple #[.slice none 0 0, .slice none 0 0, .slice none 0 0, .int .i64 ((V41 : Nat) : Int)]) [] [] s trivial (by kernel_rfl) ?_
        have hm0 : m20 = 0 ∨ e20 ≠ 0 := by have hq0 := of_decide_eq_true hc13; have hq1 := of_decide_eq_false hc22; have hq2 := of_decide_eq_true hc44; have := hi20_0; omega
        have e7 := hi20_4
        rw [dK_done hm0] at e7
        simp only [List.append_nil] at e7
        have e6 : gkD (l.drop A7) E7 = (Fs20, l.drop A20, e20) := by unfold gkD; rw [(co_bigV h10_0 h10_1 (of_decide_eq_true hc13) h15_0), h10_0, h10_2, h15_1]; exact e7
        have ed := rp_doc (by have q := h4_1; rw [List.drop_zero] at q; exact q) h7_1 e6
        rw [h41_0] at ed
        have hz := of_decide_eq_true hc44
        have er : ¬ (rpT l).2.2.2 = 0 := by rw [ed.1]; exact hz
        have eA : rpA l = [] := if_neg er
        have eD : rpD l = [] := if_neg er
        have eK : rpK l = [] := if_neg er
        rw [eA, eD, eK, ed.1]
        exact ⟨_, _, _, rfl, s, ⟨none, none, none, 0, 0, 0, rfl, fsl_nil _, fsl_nil _, ksl_nil _⟩⟩
      ·
        rw [hc44]
        refine cond_false_rule (b := false) (by kernel_rfl) rfl ?_
        refine wp_skip ?_
        refine wp_seq ?_
        refine region_rule ?_
        refine ops_rule (C := []) [((φ2 0), .cells #[.slice a l.length c, .int .i64 ((A41 : Nat) : Int), .int .i64 ((E41 : Nat) : Int)] 106)] F20 7 [] 0 (fun φ46 => [(5, .int .i64 0), (4, v20), (3, .slice b7 Fs7.length d7), (2, .slice b4 Fs4.length d4), (51, v20), (50, .slice b7 Fs7.length d7), (49, .slice b4 Fs4.length d4)]) (fun φ46 => [((φ2 0), .cells #[.slice a l.length c, .int .i64 ((A41 : Nat) : Int), .int .i64 ((E41 : Nat) : Int)] 106)]) (fun φ46 => []) s trivial (fun φ46 => by kernel_rfl) ?_
        intro φ46 w46 s
        refine ops_done (by kernel_rfl) ?_
        refine wp_ret ?_
        refine ret_rule (C := []) [((φ2 0), .cells #[.slice a l.length c, .int .i64 ((A41 : Nat) : Int), .int .i64 ((E41 : Nat) : Int)] 106)] F20 (.tuple #[.slice b4 Fs4.length d4, .slice b7 Fs7.length d7, v20, .int .i64 0]) [] [] s trivial (by kernel_rfl) ?_
        have hm0 : m20 = 0 ∨ e20 ≠ 0 := by have hq0 := of_decide_eq_true hc13; have hq1 := of_decide_eq_false hc22; have hq2 := of_decide_eq_false hc44; have := hi20_0; omega
        have e7 := hi20_4
        rw [dK_done hm0] at e7
        simp only [List.append_nil] at e7
        have e6 : gkD (l.drop A7) E7 = (Fs20, l.drop A20, e20) := by unfold gkD; rw [(co_bigV h10_0 h10_1 (of_decide_eq_true hc13) h15_0), h10_0, h10_2, h15_1]; exact e7
        have ed := rp_doc (by have q := h4_1; rw [List.drop_zero] at q; exact q) h7_1 e6
        rw [h41_0] at ed
        have hz := Decidable.not_not.1 (of_decide_eq_false hc44)
        have er : (rpT l).2.2.2 = 0 := by rw [ed.1]; exact hz
        have e9 := ed.2 hz
        have eA : rpA l = Fs4 := by rw [rpA, if_pos er, e9]
        have eD : rpD l = Fs7 := by rw [rpD, if_pos er, e9]
        have eK : rpK l = Fs20 := by rw [rpK, if_pos er, e9]
        rw [eA, eD, eK, er]
        obtain ⟨J47, le47, hk47, s⟩ := freeze_row3 (H := [((φ2 0), .cells #[.slice a l.length c, .int .i64 ((A41 : Nat) : Int), .int .i64 ((E41 : Nat) : Int)] 106)]) (F := F20) s hi20_2
        obtain ⟨a47, c47, hv47, -, hk47⟩ := hk47.open
        subst hv47
        exact ⟨_, _, _, rfl, s, ⟨_, _, _, _, _, _, rfl, h4_0.mono le47, h7_0.mono le47, hk47⟩⟩
  ·
    rw [hc13]
    refine cond_false_rule (b := false) (by kernel_rfl) rfl ?_
    refine wp_skip ?_
    refine wp_seq ?_
    refine region_rule ?_
    refine ops_rule (C := []) [((φ2 0), .cells #[.slice a l.length c, .int .i64 ((A10 : Nat) : Int), .int .i64 ((E10 : Nat) : Int)] 106)] [] 1 [] 0 (fun φ48 => [(10, .slice none 0 0)]) (fun φ48 => [((φ2 0), .cells #[.slice a l.length c, .int .i64 ((A10 : Nat) : Int), .int .i64 ((E10 : Nat) : Int)] 106)]) (fun φ48 => []) s trivial (fun φ48 => by kernel_rfl) ?_
    intro φ48 w48 s
    refine ops_done (by kernel_rfl) ?_
    refine wp_seq ?_
    refine wp_seq ?_
    refine region_rule ?_
    refine ops_rule (C := []) [((φ2 0), .cells #[.slice a l.length c, .int .i64 ((A10 : Nat) : Int), .int .i64 ((E10 : Nat) : Int)] 106)] [] 1 [] 0 (fun φ49 => [(11, .int .u64 0)]) (fun φ49 => [((φ2 0), .cells #[.slice a l.length c, .int .i64 ((A10 : Nat) : Int), .int .i64 ((E10 : Nat) : Int)] 106)]) (fun φ49 => []) s trivial (fun φ49 => by kernel_rfl) ?_
    intro φ49 w49 s
    refine ops_done (by kernel_rfl) ?_
    refine wp_block ?_
    have hb50 : V10 ≤ 255 ∨ E10 ≠ 0 := .inl (by have := of_decide_eq_false hc13; omega)
    have hle51 := IM.Le.refl I10
    refine loop_rule (fun (x : Nat × Nat × Nat × Value × List OB × List Nat) => [(0, .slice a l.length c), (2, .slice none 0 0), (3, .slice none 0 0), (4, .slice none 0 0), (5, .int .i64 0), (6, .pointer (some ⟨(φ2 0), 0, none⟩)), (7, .slice b4 Fs4.length d4), (8, .slice b7 Fs7.length d7), (9, .int .u64 ((V10 : Nat) : Int)), (11, .int .u64 ((x.1 : Nat) : Int)), (10, x.2.2.2.1)]) (fun (x : Nat × Nat × Nat × Value × List OB × List Nat) => [((φ2 0), .cells #[.slice a l.length c, .int .i64 ((x.2.1 : Nat) : Int), .int .i64 ((x.2.2.1 : Nat) : Int)] 106)] ++ x.2.2.2.2.1) (fun m (x : Nat × Nat × Nat × Value × List OB × List Nat) J => IM.Le I10 J ∧ x.1 + m = V10 ∧ x.2.1 ≤ l.length ∧ RowH 3 1 x.2.2.2.1 (x.2.2.2.2.2).length (ic x.2.2.2.2.2) x.2.2.2.2.1 ∧ (x.2.2.2.2.2).length = x.1 ∧ dK V10 (l.drop A10) E10 = (x.2.2.2.2.2 ++ (dK m (l.drop x.2.1) x.2.2.1).1, (dK m (l.drop x.2.1) x.2.2.1).2) ∧ (V10 ≤ 255 ∨ x.2.2.1 ≠ 0) ∧ (x.2.2.2.2.2).length ≤ 255) (V10) (0, A10, E10, (.slice none 0 0), [], []) s (by kernel_rfl) (List.Sublist.refl _) ⟨IM.Le.refl _, Nat.zero_add _, h10_3, (RowH.nil 3 1), rfl, rfl, hb50, Nat.zero_le _⟩ ?_
    rintro m52 ⟨i52, A52, e52, v52, F52, Fs52⟩ I52 w52 ev52 s ⟨le52, hi52_0, hi52_1, hi52_2, hi52_3, hi52_4, hi52_5, hi52_6⟩
    try dsimp only at s hi52_0 hi52_1 hi52_2 hi52_3 hi52_4 hi52_5 hi52_6 ⊢
    replace hl := BSl.mono le52 hl
    replace h4_0 := FSl.mono le52 h4_0
    replace h7_0 := FSl.mono le52 h7_0
    replace hle51 := leMono le52 hle51
    have hl9 : Fs52.length ≤ 255 := hi52_6
    refine wp_seq ?_
    refine wp_seq ?_
    refine region_rule ?_
    refine ops_rule (C := []) [((φ2 0), .cells #[.slice a l.length c, .int .i64 ((A52 : Nat) : Int), .int .i64 ((e52 : Nat) : Int)] 106)] F52 4 [] 0 (fun φ53 => [(29, .bool (decide (((i52 : Nat) : Int) < ((V10 : Nat) : Int)))), (28, .bool (decide (((i52 : Nat) : Int) < ((V10 : Nat) : Int)))), (27, .int .u64 ((V10 : Nat) : Int)), (26, .int .u64 ((i52 : Nat) : Int))]) (fun φ53 => [((φ2 0), .cells #[.slice a l.length c, .int .i64 ((A52 : Nat) : Int), .int .i64 ((e52 : Nat) : Int)] 106)]) (fun φ53 => []) s trivial (fun φ53 => by kernel_rfl) ?_
    intro φ53 w53 s
    rw [nat_lss (a := i52) (b := V10)]
    rcases Bool.eq_false_or_eq_true (decide (i52 < V10)) with hc54 | hc54
    ·
      rw [hc54]
      refine ops_rule (C := []) [((φ2 0), .cells #[.slice a l.length c, .int .i64 ((A52 : Nat) : Int), .int .i64 ((e52 : Nat) : Int)] 106)] F52 6 [.o 0] 0 (fun φ55 => [(35, .bool (((e52 : Nat) : Int) == ((0 : Nat) : Int))), (34, .bool (((e52 : Nat) : Int) == ((0 : Nat) : Int))), (33, .int .i64 ((e52 : Nat) : Int)), (32, .pointer (some ⟨(φ2 0), 2, none⟩)), (31, .pointer (some ⟨(φ2 0), 0, none⟩)), (30, .pointer (some ⟨(φ2 0), 0, none⟩))]) (fun φ55 => [((φ2 0), .cells #[.slice a l.length c, .int .i64 ((A52 : Nat) : Int), .int .i64 ((e52 : Nat) : Int)] 106)]) (fun φ55 => [(φ2 0)]) s trivial (fun φ55 => by kernel_rfl) ?_
      intro φ55 w55 s
      rw [nat_eql (a := e52) (b := 0)]
      refine ops_done (by kernel_rfl) ?_
      rcases Bool.eq_false_or_eq_true (decide (e52 = 0)) with hc56 | hc56
      ·
        rw [hc56]
        refine cond_true_rule (b := true) (by kernel_rfl) rfl ?_
        refine wp_skip ?_
        refine wp_seq ?_
        refine wp_block ?_
        refine region_rule ?_
        refine ops_rule (C := []) [((φ2 0), .cells #[.slice a l.length c, .int .i64 ((A52 : Nat) : Int), .int .i64 ((e52 : Nat) : Int)] 106)] F52 2 [] 0 (fun φ57 => [(39, .pointer (some ⟨(φ2 0), 0, none⟩)), (38, v52)]) (fun φ57 => [((φ2 0), .cells #[.slice a l.length c, .int .i64 ((A52 : Nat) : Int), .int .i64 ((e52 : Nat) : Int)] 106)]) (fun φ57 => []) s trivial (fun φ57 => by kernel_rfl) ?_
        intro φ57 w57 s
        refine callB_rule (b := ((φ2 0), .cells #[.slice a l.length c, .int .i64 ((A52 : Nat) : Int), .int .i64 ((e52 : Nat) : Int)] 106)) (H := [((φ2 0), .cells #[.slice a l.length c, .int .i64 ((A52 : Nat) : Int), .int .i64 ((e52 : Nat) : Int)] 106)]) (F := F52) (Hr := []) (some 40) 0 s (by kernel_rfl) (by kernel_rfl) (rByteV (z9 := (φ2 0)) (at0 := A52) (e := e52) hl hn9 hi52_1) (by kernel_rfl) ?_
        rintro v58 I58 w58 b58 le58 - h58 s
        replace hl := BSl.mono le58 hl
        replace h4_0 := FSl.mono le58 h4_0
        replace h7_0 := FSl.mono le58 h7_0
        replace hle51 := leMono le58 hle51
        obtain ⟨V58, E58, A58, rfl, rfl, h58_0, h58_1, h58_2, h58_3⟩ := h58
        refine ops_rule (C := []) [((φ2 0), .cells #[.slice a l.length c, .int .i64 ((A58 : Nat) : Int), .int .i64 ((E58 : Nat) : Int)] 106)] F52 2 [] 1 (fun φ59 => [(42, .slice (some ⟨(φ59 0), 0, none⟩) 1 1), (41, .int .i64 (IntKind.wrap .i64 ((V58 : Nat) : Int)))]) (fun φ59 => [((φ2 0), .cells #[.slice a l.length c, .int .i64 ((A58 : Nat) : Int), .int .i64 ((E58 : Nat) : Int)] 106), ((φ59 0), .cells #[.int .i64 (IntKind.wrap .i64 ((V58 : Nat) : Int))] 3)]) (fun φ59 => []) s trivial (fun φ59 => by kernel_rfl) ?_
        intro φ59 w59 s
        rw [nat_wrapI (a := V58) (by have h9 := byV_lt (l.drop A52) e52; rw [h58_0] at h9; omega)] at s ⊢
        refine append_rule (H := [((φ2 0), .cells #[.slice a l.length c, .int .i64 ((A58 : Nat) : Int), .int .i64 ((E58 : Nat) : Int)] 106), ((φ59 0), .cells #[.int .i64 ((V58 : Nat) : Int)] 3)]) (F := F52) 52 52 3 Tryd.t3 (.int .i64 0) 1 8 (some 43) s Tryd.underlying52 (by kernel_rfl) (by kernel_rfl) (by kernel_rfl) (by kernel_rfl) (by kernel_rfl) (by decide) hi52_2 (src_own s 1 (φ59 0) #[.int .i64 ((V58 : Nat) : Int)] 3 52 3 1 1 1 [.int .i64 ((V58 : Nat) : Int)] (by kernel_rfl) Tryd.underlying52 (by kernel_rfl) (by kernel_rfl) (by kernel_rfl)) (by simp only [maxLen]; omega) (by omega) (by kernel_rfl) ?_
        intro v60 w60 F60 s h60
        refine ops_rule (C := []) [((φ2 0), .cells #[.slice a l.length c, .int .i64 ((A58 : Nat) : Int), .int .i64 ((E58 : Nat) : Int)] 106), ((φ59 0), .cells #[.int .i64 ((V58 : Nat) : Int)] 3)] F60 1 [] 0 (fun φ61 => [(10, v60)]) (fun φ61 => [((φ2 0), .cells #[.slice a l.length c, .int .i64 ((A58 : Nat) : Int), .int .i64 ((E58 : Nat) : Int)] 106), ((φ59 0), .cells #[.int .i64 ((V58 : Nat) : Int)] 3)]) (fun φ61 => []) s trivial (fun φ61 => by kernel_rfl) ?_
        intro φ61 w61 s
        refine ops_done (by kernel_rfl) ?_
        refine region_rule ?_
        refine ops_rule (C := []) [((φ2 0), .cells #[.slice a l.length c, .int .i64 ((A58 : Nat) : Int), .int .i64 ((E58 : Nat) : Int)] 106), ((φ59 0), .cells #[.int .i64 ((V58 : Nat) : Int)] 3)] F60 3 [] 0 (fun φ62 => [(11, .int .u64 (IntKind.wrap .u64 (((i52 : Nat) : Int) + ((1 : Nat) : Int)))), (37, .int .u64 (IntKind.wrap .u64 (((i52 : Nat) : Int) + ((1 : Nat) : Int)))), (36, .int .u64 ((i52 : Nat) : Int))]) (fun φ62 => [((φ2 0), .cells #[.slice a l.length c, .int .i64 ((A58 : Nat) : Int), .int .i64 ((E58 : Nat) : Int)] 106), ((φ59 0), .cells #[.int .i64 ((V58 : Nat) : Int)] 3)]) (fun φ62 => []) s trivial (fun φ62 => by kernel_rfl) ?_
        intro φ62 w62 s
        rw [nat_addU (a := i52) (b := 1) (by have e9 := hi52_3; have e8 := hi52_0; have e7 := hi52_5; have hq0 := of_decide_eq_false hc13; have hq1 := of_decide_eq_true hc54; have hq2 := of_decide_eq_true hc56; omega)]
        refine ops_done (by kernel_rfl) ?_
        exact ⟨⟨m52 - 1, (i52 + 1, A58, E58, v60, F60, Fs52 ++ [V58]), _, _, _, by have hq0 := of_decide_eq_false hc13; have hq1 := of_decide_eq_true hc54; have hq2 := of_decide_eq_true hc56; have := hi52_0; omega, rfl, s, (List.Sublist.append (List.Sublist.cons₂ _ (List.Sublist.cons _ List.Sublist.slnil)) (List.Sublist.refl _)), by kernel_rfl, hle51, by have hq0 := of_decide_eq_false hc13; have hq1 := of_decide_eq_true hc54; have hq2 := of_decide_eq_true hc56; have := hi52_0; show i52 + 1 + (m52 - 1) = V10; omega, h58_3, row3_snoc h60 rfl, by have := hi52_3; show (Fs52 ++ [V58]).length = i52 + 1; rw [List.length_append, this]; rfl, dK_step hi52_4 (by have hq0 := of_decide_eq_false hc13; have hq1 := of_decide_eq_true hc54; have hq2 := of_decide_eq_true hc56; have := hi52_0; omega) (by have hq0 := of_decide_eq_false hc13; have hq1 := of_decide_eq_true hc54; have hq2 := of_decide_eq_true hc56; omega) h58_0 h58_1 h58_2, by have hq0 := of_decide_eq_false hc13; have hq1 := of_decide_eq_true hc54; have hq2 := of_decide_eq_true hc56; have := hi52_5; show _ ∨ _; omega, by have hq0 := of_decide_eq_false hc13; have hq1 := of_decide_eq_true hc54; have hq2 := of_decide_eq_true hc56; have := hi52_5; have := hi52_3; show (Fs52 ++ [V58]).length ≤ 255; rw [List.length_append]; simp only [List.length_cons, List.length_nil]; omega⟩⟩
      ·
        rw [hc56]
        refine cond_false_rule (b := false) (by kernel_rfl) rfl ?_
        refine wp_exit ?_
        refine wp_seq ?_
        refine wp_seq ?_
        refine region_rule ?_
        refine ops_rule (C := []) [((φ2 0), .cells #[.slice a l.length c, .int .i64 ((A52 : Nat) : Int), .int .i64 ((e52 : Nat) : Int)] 106)] F52 1 [] 0 (fun φ63 => [(44, .pointer (some ⟨(φ2 0), 0, none⟩))]) (fun φ63 => [((φ2 0), .cells #[.slice a l.length c, .int .i64 ((A52 : Nat) : Int), .int .i64 ((e52 : Nat) : Int)] 106)]) (fun φ63 => []) s trivial (fun φ63 => by kernel_rfl) ?_
        intro φ63 w63 s
        refine callB_rule (b := ((φ2 0), .cells #[.slice a l.length c, .int .i64 ((A52 : Nat) : Int), .int .i64 ((e52 : Nat) : Int)] 106)) (H := [((φ2 0), .cells #[.slice a l.length c, .int .i64 ((A52 : Nat) : Int), .int .i64 ((e52 : Nat) : Int)] 106)]) (F := F52) (Hr := []) (some 45) 0 s (by kernel_rfl) (by kernel_rfl) (rEndV (z9 := (φ2 0)) (at0 := A52) (e := e52) hl hn9 hi52_1) (by kernel_rfl) ?_
        rintro v64 I64 w64 b64 le64 - h64 s
        replace hl := BSl.mono le64 hl
        replace h4_0 := FSl.mono le64 h4_0
        replace h7_0 := FSl.mono le64 h7_0
        replace hle51 := leMono le64 hle51
        obtain ⟨V64, E64, A64, rfl, rfl, h64_0, h64_1, h64_2⟩ := h64
        refine ops_rule (C := []) [((φ2 0), .cells #[.slice a l.length c, .int .i64 ((A64 : Nat) : Int), .int .i64 ((E64 : Nat) : Int)] 106)] F52 1 [] 0 (fun φ65 => [(12, .int .i64 ((V64 : Nat) : Int))]) (fun φ65 => [((φ2 0), .cells #[.slice a l.length c, .int .i64 ((A64 : Nat) : Int), .int .i64 ((E64 : Nat) : Int)] 106)]) (fun φ65 => []) s trivial (fun φ65 => by kernel_rfl) ?_
        intro φ65 w65 s
        refine ops_done (by kernel_rfl) ?_
        refine wp_seq ?_
        refine region_rule ?_
        refine ops_rule (C := []) [((φ2 0), .cells #[.slice a l.length c, .int .i64 ((A64 : Nat) : Int), .int .i64 ((E64 : Nat) : Int)] 106)] F52 2 [] 0 (fun φ66 => [(47, .bool (((V64 : Nat) : Int) != ((0 : Nat) : Int))), (46, .int .i64 ((V64 : Nat) : Int))]) (fun φ66 => [((φ2 0), .cells #[.slice a l.length c, .int .i64 ((A64 : Nat) : Int), .int .i64 ((E64 : Nat) : Int)] 106)]) (fun φ66 => []) s trivial (fun φ66 => by kernel_rfl) ?_
        intro φ66 w66 s
        rw [nat_neq (a := V64) (b := 0)]
        refine ops_done (by kernel_rfl) ?_
        rcases Bool.eq_false_or_eq_true (decide (V64 ≠ 0)) with hc67 | hc67
        ·
          rw [hc67]
          refine cond_true_rule (b := true) (by kernel_rfl) rfl ?_
          refine wp_seq ?_
          refine region_rule ?_
          refine ops_rule (C := []) [((φ2 0), .cells #[.slice a l.length c, .int .i64 ((A64 : Nat) : Int), .int .i64 ((E64 : Nat) : Int)] 106)] F52 5 [] 0 (fun φ68 => [(5, .int .i64 ((V64 : Nat) : Int)), (4, .slice none 0 0), (3, .slice none 0 0), (2, .slice none 0 0), (48, .int .i64 ((V64 : Nat) : Int))]) (fun φ68 => [((φ2 0), .cells #[.slice a l.length c, .int .i64 ((A64 : Nat) : Int), .int .i64 ((E64 : Nat) : Int)] 106)]) (fun φ68 => []) s trivial (fun φ68 => by kernel_rfl) ?_
          intro φ68 w68 s
          refine ops_done (by kernel_rfl) ?_
          refine wp_ret ?_
          refine ret_rule (C := []) [((φ2 0), .cells #[.slice a l.length c, .int .i64 ((A64 : Nat) : Int), .int .i64 ((E64 : Nat) : Int)] 106)] F52 (.tuple #[.slice none 0 0, .slice none 0 0, .slice none 0 0, .int .i64 ((V64 : Nat) : Int)]) [] [] s trivial (by kernel_rfl) ?_
          have hm0 : m52 = 0 ∨ e52 ≠ 0 := by have hq0 := of_decide_eq_false hc13; have hq1 := of_decide_eq_true hc54; have hq2 := of_decide_eq_false hc56; have hq3 := of_decide_eq_true hc67; have := hi52_0; omega
          have e7 := hi52_4
          rw [dK_done hm0] at e7
          simp only [List.append_nil] at e7
          have e6 : gkD (l.drop A7) E7 = (Fs52, l.drop A52, e52) := by unfold gkD; rw [(co_smallV h10_0 h10_1 (of_decide_eq_false hc13)), h10_0, h10_2]; exact e7
          have ed := rp_doc (by have q := h4_1; rw [List.drop_zero] at q; exact q) h7_1 e6
          rw [h64_0] at ed
          have hz := of_decide_eq_true hc67
          have er : ¬ (rpT l).2.2.2 = 0 := by rw [ed.1]; exact hz
          have eA : rpA l = [] := if_neg er
          have eD : rpD l = [] := if_neg er
          have eK : rpK l = [] := if_neg er
          rw [eA, eD, eK, ed.1]
          exact ⟨_, _, _, rfl, s, ⟨none, none, none, 0, 0, 0, rfl, fsl_nil _, fsl_nil _, ksl_nil _⟩⟩
        ·
          rw [hc67]
          refine cond_false_rule (b := false) (by kernel_rfl) rfl ?_
          refine wp_skip ?_
          refine wp_seq ?_
          refine region_rule ?_
          refine ops_rule (C := []) [((φ2 0), .cells #[.slice a l.length c, .int .i64 ((A64 : Nat) : Int), .int .i64 ((E64 : Nat) : Int)] 106)] F52 7 [] 0 (fun φ69 => [(5, .int .i64 0), (4, v52), (3, .slice b7 Fs7.length d7), (2, .slice b4 Fs4.length d4), (51, v52), (50, .slice b7 Fs7.length d7), (49, .slice b4 Fs4.length d4)]) (fun φ69 => [((φ2 0), .cells #[.slice a l.length c, .int .i64 ((A64 : Nat) : Int), .int .i64 ((E64 : Nat) : Int)] 106)]) (fun φ69 => []) s trivial (fun φ69 => by kernel_rfl) ?_
          intro φ69 w69 s
          refine ops_done (by kernel_rfl) ?_
          refine wp_ret ?_
          refine ret_rule (C := []) [((φ2 0), .cells #[.slice a l.length c, .int .i64 ((A64 : Nat) : Int), .int .i64 ((E64 : Nat) : Int)] 106)] F52 (.tuple #[.slice b4 Fs4.length d4, .slice b7 Fs7.length d7, v52, .int .i64 0]) [] [] s trivial (by kernel_rfl) ?_
          have hm0 : m52 = 0 ∨ e52 ≠ 0 := by have hq0 := of_decide_eq_false hc13; have hq1 := of_decide_eq_true hc54; have hq2 := of_decide_eq_false hc56; have hq3 := of_decide_eq_false hc67; have := hi52_0; omega
          have e7 := hi52_4
          rw [dK_done hm0] at e7
          simp only [List.append_nil] at e7
          have e6 : gkD (l.drop A7) E7 = (Fs52, l.drop A52, e52) := by unfold gkD; rw [(co_smallV h10_0 h10_1 (of_decide_eq_false hc13)), h10_0, h10_2]; exact e7
          have ed := rp_doc (by have q := h4_1; rw [List.drop_zero] at q; exact q) h7_1 e6
          rw [h64_0] at ed
          have hz := Decidable.not_not.1 (of_decide_eq_false hc67)
          have er : (rpT l).2.2.2 = 0 := by rw [ed.1]; exact hz
          have e9 := ed.2 hz
          have eA : rpA l = Fs4 := by rw [rpA, if_pos er, e9]
          have eD : rpD l = Fs7 := by rw [rpD, if_pos er, e9]
          have eK : rpK l = Fs52 := by rw [rpK, if_pos er, e9]
          rw [eA, eD, eK, er]
          obtain ⟨J70, le70, hk70, s⟩ := freeze_row3 (H := [((φ2 0), .cells #[.slice a l.length c, .int .i64 ((A64 : Nat) : Int), .int .i64 ((E64 : Nat) : Int)] 106)]) (F := F52) s hi52_2
          obtain ⟨a70, c70, hv70, -, hk70⟩ := hk70.open
          subst hv70
          exact ⟨_, _, _, rfl, s, ⟨_, _, _, _, _, _, rfl, h4_0.mono le70, h7_0.mono le70, hk70⟩⟩
    ·
      rw [hc54]
      refine ops_rule (C := []) [((φ2 0), .cells #[.slice a l.length c, .int .i64 ((A52 : Nat) : Int), .int .i64 ((e52 : Nat) : Int)] 106)] F52 6 [] 0 (fun φ71 => [(35, .bool false), (34, undef), (33, undef), (32, undef), (31, undef), (30, undef)]) (fun φ71 => [((φ2 0), .cells #[.slice a l.length c, .int .i64 ((A52 : Nat) : Int), .int .i64 ((e52 : Nat) : Int)] 106)]) (fun φ71 => []) s trivial (fun φ71 => by kernel_rfl) ?_
      intro φ71 w71 s
      refine ops_done (by kernel_rfl) ?_
      refine cond_false_rule (b := false) (by kernel_rfl) rfl ?_
      refine wp_exit ?_
      refine wp_seq ?_
      refine wp_seq ?_
      refine region_rule ?_
      refine ops_rule (C := []) [((φ2 0), .cells #[.slice a l.length c, .int .i64 ((A52 : Nat) : Int), .int .i64 ((e52 : Nat) : Int)] 106)] F52 1 [] 0 (fun φ72 => [(44, .pointer (some ⟨(φ2 0), 0, none⟩))]) (fun φ72 => [((φ2 0), .cells #[.slice a l.length c, .int .i64 ((A52 : Nat) : Int), .int .i64 ((e52 : Nat) : Int)] 106)]) (fun φ72 => []) s trivial (fun φ72 => by kernel_rfl) ?_
      intro φ72 w72 s
      refine callB_rule (b := ((φ2 0), .cells #[.slice a l.length c, .int .i64 ((A52 : Nat) : Int), .int .i64 ((e52 : Nat) : Int)] 106)) (H := [((φ2 0), .cells #[.slice a l.length c, .int .i64 ((A52 : Nat) : Int), .int .i64 ((e52 : Nat) : Int)] 106)]) (F := F52) (Hr := []) (some 45) 0 s (by kernel_rfl) (by kernel_rfl) (rEndV (z9 := (φ2 0)) (at0 := A52) (e := e52) hl hn9 hi52_1) (by kernel_rfl) ?_
      rintro v73 I73 w73 b73 le73 - h73 s
      replace hl := BSl.mono le73 hl
      replace h4_0 := FSl.mono le73 h4_0
      replace h7_0 := FSl.mono le73 h7_0
      replace hle51 := leMono le73 hle51
      obtain ⟨V73, E73, A73, rfl, rfl, h73_0, h73_1, h73_2⟩ := h73
      refine ops_rule (C := []) [((φ2 0), .cells #[.slice a l.length c, .int .i64 ((A73 : Nat) : Int), .int .i64 ((E73 : Nat) : Int)] 106)] F52 1 [] 0 (fun φ74 => [(12, .int .i64 ((V73 : Nat) : Int))]) (fun φ74 => [((φ2 0), .cells #[.slice a l.length c, .int .i64 ((A73 : Nat) : Int), .int .i64 ((E73 : Nat) : Int)] 106)]) (fun φ74 => []) s trivial (fun φ74 => by kernel_rfl) ?_
      intro φ74 w74 s
      refine ops_done (by kernel_rfl) ?_
      refine wp_seq ?_
      refine region_rule ?_
      refine ops_rule (C := []) [((φ2 0), .cells #[.slice a l.length c, .int .i64 ((A73 : Nat) : Int), .int .i64 ((E73 : Nat) : Int)] 106)] F52 2 [] 0 (fun φ75 => [(47, .bool (((V73 : Nat) : Int) != ((0 : Nat) : Int))), (46, .int .i64 ((V73 : Nat) : Int))]) (fun φ75 => [((φ2 0), .cells #[.slice a l.length c, .int .i64 ((A73 : Nat) : Int), .int .i64 ((E73 : Nat) : Int)] 106)]) (fun φ75 => []) s trivial (fun φ75 => by kernel_rfl) ?_
      intro φ75 w75 s
      rw [nat_neq (a := V73) (b := 0)]
      refine ops_done (by kernel_rfl) ?_
      rcases Bool.eq_false_or_eq_true (decide (V73 ≠ 0)) with hc76 | hc76
      ·
        rw [hc76]
        refine cond_true_rule (b := true) (by kernel_rfl) rfl ?_
        refine wp_seq ?_
        refine region_rule ?_
        refine ops_rule (C := []) [((φ2 0), .cells #[.slice a l.length c, .int .i64 ((A73 : Nat) : Int), .int .i64 ((E73 : Nat) : Int)] 106)] F52 5 [] 0 (fun φ77 => [(5, .int .i64 ((V73 : Nat) : Int)), (4, .slice none 0 0), (3, .slice none 0 0), (2, .slice none 0 0), (48, .int .i64 ((V73 : Nat) : Int))]) (fun φ77 => [((φ2 0), .cells #[.slice a l.length c, .int .i64 ((A73 : Nat) : Int), .int .i64 ((E73 : Nat) : Int)] 106)]) (fun φ77 => []) s trivial (fun φ77 => by kernel_rfl) ?_
        intro φ77 w77 s
        refine ops_done (by kernel_rfl) ?_
        refine wp_ret ?_
        refine ret_rule (C := []) [((φ2 0), .cells #[.slice a l.length c, .int .i64 ((A73 : Nat) : Int), .int .i64 ((E73 : Nat) : Int)] 106)] F52 (.tuple #[.slice none 0 0, .slice none 0 0, .slice none 0 0, .int .i64 ((V73 : Nat) : Int)]) [] [] s trivial (by kernel_rfl) ?_
        have hm0 : m52 = 0 ∨ e52 ≠ 0 := by have hq0 := of_decide_eq_false hc13; have hq1 := of_decide_eq_false hc54; have hq2 := of_decide_eq_true hc76; have := hi52_0; omega
        have e7 := hi52_4
        rw [dK_done hm0] at e7
        simp only [List.append_nil] at e7
        have e6 : gkD (l.drop A7) E7 = (Fs52, l.drop A52, e52) := by unfold gkD; rw [(co_smallV h10_0 h10_1 (of_decide_eq_false hc13)), h10_0, h10_2]; exact e7
        have ed := rp_doc (by have q := h4_1; rw [List.drop_zero] at q; exact q) h7_1 e6
        rw [h73_0] at ed
        have hz := of_decide_eq_true hc76
        have er : ¬ (rpT l).2.2.2 = 0 := by rw [ed.1]; exact hz
        have eA : rpA l = [] := if_neg er
        have eD : rpD l = [] := if_neg er
        have eK : rpK l = [] := if_neg er
        rw [eA, eD, eK, ed.1]
        exact ⟨_, _, _, rfl, s, ⟨none, none, none, 0, 0, 0, rfl, fsl_nil _, fsl_nil _, ksl_nil _⟩⟩
      ·
        rw [hc76]
        refine cond_false_rule (b := false) (by kernel_rfl) rfl ?_
        refine wp_skip ?_
        refine wp_seq ?_
        refine region_rule ?_
        refine ops_rule (C := []) [((φ2 0), .cells #[.slice a l.length c, .int .i64 ((A73 : Nat) : Int), .int .i64 ((E73 : Nat) : Int)] 106)] F52 7 [] 0 (fun φ78 => [(5, .int .i64 0), (4, v52), (3, .slice b7 Fs7.length d7), (2, .slice b4 Fs4.length d4), (51, v52), (50, .slice b7 Fs7.length d7), (49, .slice b4 Fs4.length d4)]) (fun φ78 => [((φ2 0), .cells #[.slice a l.length c, .int .i64 ((A73 : Nat) : Int), .int .i64 ((E73 : Nat) : Int)] 106)]) (fun φ78 => []) s trivial (fun φ78 => by kernel_rfl) ?_
        intro φ78 w78 s
        refine ops_done (by kernel_rfl) ?_
        refine wp_ret ?_
        refine ret_rule (C := []) [((φ2 0), .cells #[.slice a l.length c, .int .i64 ((A73 : Nat) : Int), .int .i64 ((E73 : Nat) : Int)] 106)] F52 (.tuple #[.slice b4 Fs4.length d4, .slice b7 Fs7.length d7, v52, .int .i64 0]) [] [] s trivial (by kernel_rfl) ?_
        have hm0 : m52 = 0 ∨ e52 ≠ 0 := by have hq0 := of_decide_eq_false hc13; have hq1 := of_decide_eq_false hc54; have hq2 := of_decide_eq_false hc76; have := hi52_0; omega
        have e7 := hi52_4
        rw [dK_done hm0] at e7
        simp only [List.append_nil] at e7
        have e6 : gkD (l.drop A7) E7 = (Fs52, l.drop A52, e52) := by unfold gkD; rw [(co_smallV h10_0 h10_1 (of_decide_eq_false hc13)), h10_0, h10_2]; exact e7
        have ed := rp_doc (by have q := h4_1; rw [List.drop_zero] at q; exact q) h7_1 e6
        rw [h73_0] at ed
        have hz := Decidable.not_not.1 (of_decide_eq_false hc76)
        have er : (rpT l).2.2.2 = 0 := by rw [ed.1]; exact hz
        have e9 := ed.2 hz
        have eA : rpA l = Fs4 := by rw [rpA, if_pos er, e9]
        have eD : rpD l = Fs7 := by rw [rpD, if_pos er, e9]
        have eK : rpK l = Fs52 := by rw [rpK, if_pos er, e9]
        rw [eA, eD, eK, er]
        obtain ⟨J79, le79, hk79, s⟩ := freeze_row3 (H := [((φ2 0), .cells #[.slice a l.length c, .int .i64 ((A73 : Nat) : Int), .int .i64 ((E73 : Nat) : Int)] 106)]) (F := F52) s hi52_2
        obtain ⟨a79, c79, hv79, -, hk79⟩ := hk79.open
        subst hv79
        exact ⟨_, _, _, rfl, s, ⟨_, _, _, _, _, _, rfl, h4_0.mono le79, h7_0.mono le79, hk79⟩⟩

end Go.Proofs.YtcpmjogeafhpnaaDoor
/- Fields copied, compared. -/
set_option linter.all false
set_option maxRecDepth 100000
namespace Go.Proofs.YtcpmjogeafhpnaaDoor
open Go.RowKit Go.Sep
attribute [local irreducible] Go.wpList Go.Code.wp

theorem fe_take {L : List Fe} {i : Nat} (h : i < L.length) : L.take (i + 1) = L.take i ++ [L.getD i Fe.z] := by
  rw [List.take_add_one]; simp [h]
theorem k_take {L : List Nat} {i : Nat} (h : i < L.length) : L.take (i + 1) = L.take i ++ [L.getD i 0] := by
  rw [List.take_add_one]; simp [h]

theorem eqF_int {P : Program} {w : World} {d : Nat} {t : TypeId} {k : Int} (h : P.underlying t = some (.int .i64)) : (Op.equalIn (d + 1) t (.int .i64 k) (.int .i64 k)).run P w = .ok true w := by
  unfold Op.equalIn
  simp [run_underlying h]
theorem eqF_str {P : Program} {w : World} {d : Nat} {t : TypeId} {a : ByteArray} (h : P.underlying t = some .string) : (Op.equalIn (d + 1) t (.string a) (.string a)).run P w = .ok true w := by
  rw [run_equalIn_string _ _ _ _ _ h]; simp

theorem eqFe42 {w : World} {d : Nat} {k : Int} {a b : ByteArray} : (Op.equalIn (d + 1 + 1) 42 (.agg #[.int .i64 k, .string a, .string b]) (.agg #[.int .i64 k, .string a, .string b])).run Tryd.prog w = .ok true w := by
  have p0 : ∀ w, (part 3 #[Value.int IntKind.i64 k, Value.string a, Value.string b] 0).run Tryd.prog w = .ok (.int .i64 k) w := fun w => by kernel_rfl
  have p1 : ∀ w, (part 9 #[Value.int IntKind.i64 k, Value.string a, Value.string b] 1).run Tryd.prog w = .ok (.string a) w := fun w => by kernel_rfl
  have p2 : ∀ w, (part 9 #[Value.int IntKind.i64 k, Value.string a, Value.string b] 2).run Tryd.prog w = .ok (.string b) w := fun w => by kernel_rfl
  have s : ∀ w, (program).run Tryd.prog w = .ok Tryd.prog w := fun w => rfl
  have h : Tryd.prog.stoodInHeld 42 = false := by kernel_rfl
  unfold Op.equalIn
  simp [run_underlying Tryd.underlying42, p0, p1, p2, eqF_int Tryd.underlying3, eqF_str Tryd.underlying9]
theorem run_neG42 {w : World} {x y : Operand} {k : Int} {a b : ByteArray} : (eqGuard .neq 42 x y (.agg #[.int .i64 k, .string a, .string b]) (.agg #[.int .i64 k, .string a, .string b])).run Tryd.prog w = .ok () w := by kernel_rfl
theorem run_neFe42 {w : World} {x y : Operand} {k : Int} {a b : ByteArray} : (do eqGuard .neq 42 x y (.agg #[.int .i64 k, .string a, .string b]) (.agg #[.int .i64 k, .string a, .string b]); binOp .neq 42 (.agg #[.int .i64 k, .string a, .string b]) (.agg #[.int .i64 k, .string a, .string b]) : Sem Value).run Tryd.prog w = .ok (.bool false) w := by
  rw [Sem.run_bind, run_neG42]
  show (binOp .neq 42 (.agg #[.int .i64 k, .string a, .string b]) (.agg #[.int .i64 k, .string a, .string b])).run Tryd.prog w = _
  have h : (binOp .neq 42 (.agg #[.int .i64 k, .string a, .string b]) (.agg #[.int .i64 k, .string a, .string b])).run Tryd.prog w = ((Op.equalIn (9998 + 1 + 1) 42 (.agg #[.int .i64 k, .string a, .string b]) (.agg #[.int .i64 k, .string a, .string b])) >>= fun r => pure (.bool (!r))).run Tryd.prog w := by kernel_rfl
  rw [h, Sem.run_bind, eqFe42]; rfl

set_option maxHeartbeats 2000000 in
theorem ownF_c {I : IM} {L : List Fe} {a0 : Option Addr} {c0 : Nat} (h0 : FSl I L (.slice a0 L.length c0)) (hl : L.length ≤ 1000) : Fun Tryd.prog 40 #[.slice a0 L.length c0] I (fun v J => ∃ a c, v = .slice a L.length c ∧ FSl J L (.slice a L.length c)) := by
  refine enter_rule 18 [(0, .slice a0 L.length c0)] Tryd.func40 rfl (by kernel_rfl) ?_
  intro w s
  refine wp_seq ?_
  refine region_rule ?_
  refine ops_rule (C := []) [] [] 1 [] 0 (fun φ1 => [(2, .slice none 0 0)]) (fun φ1 => []) (fun φ1 => []) s trivial (fun φ1 => by kernel_rfl) ?_
  intro φ1 w1 s
  refine ops_done (by kernel_rfl) ?_
  refine wp_seq ?_
  refine region_rule ?_
  refine ops_rule (C := []) [] [] 1 [] 0 (fun φ2 => [(3, .slice none 0 0)]) (fun φ2 => []) (fun φ2 => []) s trivial (fun φ2 => by kernel_rfl) ?_
  intro φ2 w2 s
  refine ops_done (by kernel_rfl) ?_
  refine wp_seq ?_
  refine wp_seq ?_
  refine region_rule ?_
  refine ops_rule (C := []) [] [] 3 [] 0 (fun φ3 => [(8, .int .i64 0), (7, .int .i64 ((L.length : Nat) : Int)), (6, .slice a0 L.length c0)]) (fun φ3 => []) (fun φ3 => []) s trivial (fun φ3 => by kernel_rfl) ?_
  intro φ3 w3 s
  refine ops_done (by kernel_rfl) ?_
  refine wp_block ?_
  have hle4 := IM.Le.refl I
  refine loop_rule (fun (x : Nat × Value × List OB) => [(0, .slice a0 L.length c0), (2, .slice none 0 0), (6, .slice a0 L.length c0), (7, .int .i64 ((L.length : Nat) : Int)), (8, .int .i64 ((x.1 : Nat) : Int)), (3, x.2.1)]) (fun (x : Nat × Value × List OB) => [] ++ x.2.2) (fun m (x : Nat × Value × List OB) J => IM.Le I J ∧ x.1 + m = L.length ∧ RowH 42 3 x.2.1 (L.take x.1).length (fcs (L.take x.1)) x.2.2) (L.length) (0, (.slice none 0 0), []) s (by kernel_rfl) (List.Sublist.refl _) ⟨IM.Le.refl _, Nat.zero_add _, (RowH.nil 42 3)⟩ ?_
  rintro m5 ⟨i5, v5, F5⟩ I5 w5 ev5 s ⟨le5, hi5_0, hi5_1⟩
  try dsimp only at s hi5_0 hi5_1 ⊢
  replace h0 := FSl.mono le5 h0
  replace hle4 := leMono le5 hle4
  have hl9 : (L.take i5).length ≤ 1000 := by have e8 := hi5_0; rw [List.length_take]; omega
  refine wp_seq ?_
  refine region_rule ?_
  refine ops_rule (C := []) [] F5 1 [] 0 (fun φ6 => [(9, .bool (decide (((i5 : Nat) : Int) < ((L.length : Nat) : Int))))]) (fun φ6 => []) (fun φ6 => []) s trivial (fun φ6 => by kernel_rfl) ?_
  intro φ6 w6 s
  rw [nat_lss (a := i5) (b := L.length)]
  refine ops_done (by kernel_rfl) ?_
  refine wp_seq ?_
  rcases Bool.eq_false_or_eq_true (decide (i5 < L.length)) with hc7 | hc7
  ·
    rw [hc7]
    refine cond_true_rule (b := true) (by kernel_rfl) rfl ?_
    refine wp_skip ?_
    refine wp_seq ?_
    refine wp_block ?_
    refine wp_seq ?_
    refine region_rule ?_
    refine sem_rule (Instr.indexAt 22 (.slice a0 L.length c0) (.int .i64 ((i5 : Nat) : Int))) (some 10) (.pointer (pAt a0 (i5 * 3))) (by kernel_rfl) (fsl_idx22 h0 (by have e8 := hi5_0; have e7 := List.length_take (i := i5) (l := L); have hq0 := of_decide_eq_true hc7; omega)) ?_
    refine sem_rule (Instr.loadAt 39 (.pointer (pAt a0 (i5 * 3)))) (some 11) (.agg #[.int .i64 ((List.getD L i5 Fe.z).k), .string ⟨((List.getD L i5 Fe.z).a).toArray⟩, .string ⟨((List.getD L i5 Fe.z).v).toArray⟩]) (by kernel_rfl) (fsl_ld39 s.sub h0 (by have e8 := hi5_0; have e7 := List.length_take (i := i5) (l := L); have hq0 := of_decide_eq_true hc7; omega)) ?_
    refine ops_rule (C := []) [] F5 2 [.o 0, .o 0, .o 0] 1 (fun φ8 => [(5, .pointer (some ⟨(φ8 0), 0, none⟩))]) (fun φ8 => [((φ8 0), .cells #[.int .i64 ((List.getD L i5 Fe.z).k), .string ⟨((List.getD L i5 Fe.z).a).toArray⟩, .string ⟨((List.getD L i5 Fe.z).v).toArray⟩] 39)]) (fun φ8 => [(φ8 0), (φ8 0), (φ8 0)]) s trivial (fun φ8 => by kernel_rfl) ?_
    intro φ8 w8 s
    refine ops_done (by kernel_rfl) ?_
    refine region_rule ?_
    refine ops_rule (C := []) [((φ8 0), .cells #[.int .i64 ((List.getD L i5 Fe.z).k), .string ⟨((List.getD L i5 Fe.z).a).toArray⟩, .string ⟨((List.getD L i5 Fe.z).v).toArray⟩] 39)] F5 3 [.o 0, .o 0, .o 0] 1 (fun φ9 => [(14, .slice (some ⟨(φ9 0), 0, none⟩) 1 1), (13, .agg #[.int .i64 ((List.getD L i5 Fe.z).k), .string ⟨((List.getD L i5 Fe.z).a).toArray⟩, .string ⟨((List.getD L i5 Fe.z).v).toArray⟩]), (12, v5)]) (fun φ9 => [((φ8 0), .cells #[.int .i64 ((List.getD L i5 Fe.z).k), .string ⟨((List.getD L i5 Fe.z).a).toArray⟩, .string ⟨((List.getD L i5 Fe.z).v).toArray⟩] 39), ((φ9 0), .cells #[.int .i64 ((List.getD L i5 Fe.z).k), .string ⟨((List.getD L i5 Fe.z).a).toArray⟩, .string ⟨((List.getD L i5 Fe.z).v).toArray⟩] 42)]) (fun φ9 => [(φ8 0), (φ8 0), (φ8 0)]) s trivial (fun φ9 => by kernel_rfl) ?_
    intro φ9 w9 s
    refine append_rule (H := [((φ8 0), .cells #[.int .i64 ((List.getD L i5 Fe.z).k), .string ⟨((List.getD L i5 Fe.z).a).toArray⟩, .string ⟨((List.getD L i5 Fe.z).v).toArray⟩] 39), ((φ9 0), .cells #[.int .i64 ((List.getD L i5 Fe.z).k), .string ⟨((List.getD L i5 Fe.z).a).toArray⟩, .string ⟨((List.getD L i5 Fe.z).v).toArray⟩] 42)]) (F := F5) 30 30 42 Tryd.t42 (.agg #[.int .i64 0, .string ⟨#[]⟩, .string ⟨#[]⟩]) 3 40 (some 15) s Tryd.underlying30 (by kernel_rfl) (by kernel_rfl) (by kernel_rfl) (by kernel_rfl) (by kernel_rfl) (by decide) hi5_1 (src_own s 1 (φ9 0) #[.int .i64 ((List.getD L i5 Fe.z).k), .string ⟨((List.getD L i5 Fe.z).a).toArray⟩, .string ⟨((List.getD L i5 Fe.z).v).toArray⟩] 42 30 42 1 1 3 [.int .i64 ((List.getD L i5 Fe.z).k), .string ⟨((List.getD L i5 Fe.z).a).toArray⟩, .string ⟨((List.getD L i5 Fe.z).v).toArray⟩] (by kernel_rfl) Tryd.underlying30 (by kernel_rfl) (by kernel_rfl) (by kernel_rfl)) (by simp only [maxLen]; omega) (by omega) (by kernel_rfl) ?_
    intro v10 w10 F10 s h10
    refine ops_rule (C := []) [((φ8 0), .cells #[.int .i64 ((List.getD L i5 Fe.z).k), .string ⟨((List.getD L i5 Fe.z).a).toArray⟩, .string ⟨((List.getD L i5 Fe.z).v).toArray⟩] 39), ((φ9 0), .cells #[.int .i64 ((List.getD L i5 Fe.z).k), .string ⟨((List.getD L i5 Fe.z).a).toArray⟩, .string ⟨((List.getD L i5 Fe.z).v).toArray⟩] 42)] F10 1 [] 0 (fun φ11 => [(3, v10)]) (fun φ11 => [((φ8 0), .cells #[.int .i64 ((List.getD L i5 Fe.z).k), .string ⟨((List.getD L i5 Fe.z).a).toArray⟩, .string ⟨((List.getD L i5 Fe.z).v).toArray⟩] 39), ((φ9 0), .cells #[.int .i64 ((List.getD L i5 Fe.z).k), .string ⟨((List.getD L i5 Fe.z).a).toArray⟩, .string ⟨((List.getD L i5 Fe.z).v).toArray⟩] 42)]) (fun φ11 => []) s trivial (fun φ11 => by kernel_rfl) ?_
    intro φ11 w11 s
    refine ops_done (by kernel_rfl) ?_
    refine region_rule ?_
    refine ops_rule (C := []) [((φ8 0), .cells #[.int .i64 ((List.getD L i5 Fe.z).k), .string ⟨((List.getD L i5 Fe.z).a).toArray⟩, .string ⟨((List.getD L i5 Fe.z).v).toArray⟩] 39), ((φ9 0), .cells #[.int .i64 ((List.getD L i5 Fe.z).k), .string ⟨((List.getD L i5 Fe.z).a).toArray⟩, .string ⟨((List.getD L i5 Fe.z).v).toArray⟩] 42)] F10 2 [] 0 (fun φ12 => [(8, .int .i64 (IntKind.wrap .i64 (((i5 : Nat) : Int) + ((1 : Nat) : Int)))), (16, .int .i64 (IntKind.wrap .i64 (((i5 : Nat) : Int) + ((1 : Nat) : Int))))]) (fun φ12 => [((φ8 0), .cells #[.int .i64 ((List.getD L i5 Fe.z).k), .string ⟨((List.getD L i5 Fe.z).a).toArray⟩, .string ⟨((List.getD L i5 Fe.z).v).toArray⟩] 39), ((φ9 0), .cells #[.int .i64 ((List.getD L i5 Fe.z).k), .string ⟨((List.getD L i5 Fe.z).a).toArray⟩, .string ⟨((List.getD L i5 Fe.z).v).toArray⟩] 42)]) (fun φ12 => []) s trivial (fun φ12 => by kernel_rfl) ?_
    intro φ12 w12 s
    rw [nat_addI (a := i5) (b := 1) (by have e8 := hi5_0; have e7 := List.length_take (i := i5) (l := L); have hq0 := of_decide_eq_true hc7; omega)]
    refine ops_done (by kernel_rfl) ?_
    exact ⟨⟨m5 - 1, (i5 + 1, v10, F10), _, _, _, by have hq0 := of_decide_eq_true hc7; have := hi5_0; omega, rfl, s, (List.Sublist.append (List.Sublist.cons _ (List.Sublist.cons _ List.Sublist.slnil)) (List.Sublist.refl _)), by kernel_rfl, hle4, by have hq0 := of_decide_eq_true hc7; have := hi5_0; show i5 + 1 + (m5 - 1) = L.length; omega, by have hq0 := of_decide_eq_true hc7; have h0 := hi5_0; have h1 := row42_snoc (x := (List.getD L i5 Fe.z)) h10 rfl; rw [← fe_take (by omega)] at h1; exact h1⟩⟩
  ·
    rw [hc7]
    refine cond_false_rule (b := false) (by kernel_rfl) rfl ?_
    refine wp_exit ?_
    refine wp_seq ?_
    refine region_rule ?_
    refine ops_rule (C := []) [] F5 2 [] 0 (fun φ13 => [(2, v5), (17, v5)]) (fun φ13 => []) (fun φ13 => []) s trivial (fun φ13 => by kernel_rfl) ?_
    intro φ13 w13 s
    refine ops_done (by kernel_rfl) ?_
    refine wp_ret ?_
    refine ret_rule (C := []) [] F5 (v5) [] [] s trivial (by kernel_rfl) ?_
    have ei : i5 = L.length := by have hq0 := of_decide_eq_false hc7; have := hi5_0; omega
    have hr9 := hi5_1
    rw [ei, List.take_length] at hr9
    obtain ⟨J14, le14, hk14, s⟩ := freeze_row42 (H := []) (F := F5) s hr9
    obtain ⟨a14, c14, hv14, -, hk14⟩ := hk14.open
    subst hv14
    exact ⟨_, _, _, rfl, s, ⟨_, _, rfl, hk14⟩⟩

set_option maxHeartbeats 2000000 in
theorem sameF_c {I : IM} {L : List Fe} {a0 a1 : Option Addr} {c0 c1 : Nat} (h0 : FSl I L (.slice a0 L.length c0)) (h1 : FSl I L (.slice a1 L.length c1)) (hl : L.length ≤ 1000) : Fun Tryd.prog 18 #[.slice a0 L.length c0, .slice a1 L.length c1] I (fun v J => v = .bool true) := by
  refine enter_rule 26 [(0, .slice a0 L.length c0), (1, .slice a1 L.length c1)] Tryd.func18 rfl (by kernel_rfl) ?_
  intro w s
  refine wp_seq ?_
  refine region_rule ?_
  refine ops_rule (C := []) [] [] 1 [] 0 (fun φ1 => [(4, .bool false)]) (fun φ1 => []) (fun φ1 => []) s trivial (fun φ1 => by kernel_rfl) ?_
  intro φ1 w1 s
  refine ops_done (by kernel_rfl) ?_
  refine wp_seq ?_
  refine wp_seq ?_
  refine region_rule ?_
  refine ops_rule (C := []) [] [] 5 [] 0 (fun φ2 => [(10, .bool (((L.length : Nat) : Int) != ((L.length : Nat) : Int))), (9, .int .i64 ((L.length : Nat) : Int)), (8, .slice a1 L.length c1), (7, .int .i64 ((L.length : Nat) : Int)), (6, .slice a0 L.length c0)]) (fun φ2 => []) (fun φ2 => []) s trivial (fun φ2 => by kernel_rfl) ?_
  intro φ2 w2 s
  rw [(nat_neq (a := L.length) (b := L.length)).trans (decide_eq_false (fun q => q rfl))]
  refine ops_done (by kernel_rfl) ?_
  refine cond_false_rule (b := false) (by kernel_rfl) rfl ?_
  refine wp_skip ?_
  refine wp_seq ?_
  refine wp_seq ?_
  refine region_rule ?_
  refine ops_rule (C := []) [] [] 3 [] 0 (fun φ3 => [(13, .int .i64 0), (12, .int .i64 ((L.length : Nat) : Int)), (11, .slice a0 L.length c0)]) (fun φ3 => []) (fun φ3 => []) s trivial (fun φ3 => by kernel_rfl) ?_
  intro φ3 w3 s
  refine ops_done (by kernel_rfl) ?_
  refine wp_block ?_
  have hle4 := IM.Le.refl I
  refine loop_rule (fun (x : Nat) => [(0, .slice a0 L.length c0), (1, .slice a1 L.length c1), (4, .bool false), (11, .slice a0 L.length c0), (12, .int .i64 ((L.length : Nat) : Int)), (13, .int .i64 ((x : Nat) : Int))]) (fun (x : Nat) => []) (fun m (x : Nat) J => IM.Le I J ∧ x + m = L.length) (L.length) 0 s (by kernel_rfl) List.Sublist.slnil ⟨IM.Le.refl _, Nat.zero_add _⟩ ?_
  rintro m5 i5 I5 w5 ev5 s ⟨le5, hi5_0⟩
  try dsimp only at s hi5_0 ⊢
  replace h0 := FSl.mono le5 h0
  replace h1 := FSl.mono le5 h1
  replace hle4 := leMono le5 hle4
  refine wp_seq ?_
  refine region_rule ?_
  refine ops_rule (C := []) [] [] 1 [] 0 (fun φ6 => [(14, .bool (decide (((i5 : Nat) : Int) < ((L.length : Nat) : Int))))]) (fun φ6 => []) (fun φ6 => []) s trivial (fun φ6 => by kernel_rfl) ?_
  intro φ6 w6 s
  rw [nat_lss (a := i5) (b := L.length)]
  refine ops_done (by kernel_rfl) ?_
  refine wp_seq ?_
  rcases Bool.eq_false_or_eq_true (decide (i5 < L.length)) with hc7 | hc7
  ·
    rw [hc7]
    refine cond_true_rule (b := true) (by kernel_rfl) rfl ?_
    refine wp_skip ?_
    refine wp_seq ?_
    refine wp_block ?_
    refine wp_seq ?_
    refine region_rule ?_
    refine ops_rule (C := []) [] [] 2 [] 0 (fun φ8 => [(5, .int .i64 ((i5 : Nat) : Int)), (15, .int .i64 ((i5 : Nat) : Int))]) (fun φ8 => []) (fun φ8 => []) s trivial (fun φ8 => by kernel_rfl) ?_
    intro φ8 w8 s
    refine ops_done (by kernel_rfl) ?_
    refine wp_seq ?_
    refine draw_rule (C := []) ⟨(fun φ9 xs9 => [.look 0 [] [], .look 0 [] [], .ran (Instr.indexAt 30 (.slice a0 L.length c0) (.int .i64 ((i5 : Nat) : Int))), .ran (Instr.loadAt 42 (.pointer (pAt a0 (i5 * 3)))), .look 0 [] [], .look 0 [] [], .ran (Instr.indexAt 30 (.slice a1 L.length c1) (.int .i64 ((i5 : Nat) : Int))), .ran (Instr.loadAt 42 (.pointer (pAt a1 (i5 * 3)))), .ran (do eqGuard .neq 42 (.tmp 19) (.tmp 23) (.agg #[.int .i64 ((List.getD L i5 Fe.z).k), .string ⟨((List.getD L i5 Fe.z).a).toArray⟩, .string ⟨((List.getD L i5 Fe.z).v).toArray⟩]) (.agg #[.int .i64 ((List.getD L i5 Fe.z).k), .string ⟨((List.getD L i5 Fe.z).a).toArray⟩, .string ⟨((List.getD L i5 Fe.z).v).toArray⟩]); binOp .neq 42 (.agg #[.int .i64 ((List.getD L i5 Fe.z).k), .string ⟨((List.getD L i5 Fe.z).a).toArray⟩, .string ⟨((List.getD L i5 Fe.z).v).toArray⟩]) (.agg #[.int .i64 ((List.getD L i5 Fe.z).k), .string ⟨((List.getD L i5 Fe.z).a).toArray⟩, .string ⟨((List.getD L i5 Fe.z).v).toArray⟩]))]), (fun φ9 xs9 => [.slice a0 L.length c0, .int .i64 ((i5 : Nat) : Int), .pointer (pAt a0 (i5 * 3)), .agg #[.int .i64 ((List.getD L i5 Fe.z).k), .string ⟨((List.getD L i5 Fe.z).a).toArray⟩, .string ⟨((List.getD L i5 Fe.z).v).toArray⟩], .slice a1 L.length c1, .int .i64 ((i5 : Nat) : Int), .pointer (pAt a1 (i5 * 3)), .agg #[.int .i64 ((List.getD L i5 Fe.z).k), .string ⟨((List.getD L i5 Fe.z).a).toArray⟩, .string ⟨((List.getD L i5 Fe.z).v).toArray⟩], .bool false]), (fun φ9 xs9 => [[]]), (fun φ9 xs9 => [[default, default, default, default, default, default, default, default, default]]), [], [1, 1, 6, 6, 1, 1, 6, 6, 6]⟩ (fun j => ([MP.any, MP.any, MP.any, MP.any, MP.any, MP.any, MP.any, MP.any, MP.any] : List MP).getD j MP.any) [] [] [2, 3, 6, 7, 8] (fun φ9 xs9 => []) (fun φ9 xs9 => [(16, .slice a0 L.length c0), (17, .int .i64 ((i5 : Nat) : Int)), (18, .pointer (pAt a0 (i5 * 3))), (19, .agg #[.int .i64 ((List.getD L i5 Fe.z).k), .string ⟨((List.getD L i5 Fe.z).a).toArray⟩, .string ⟨((List.getD L i5 Fe.z).v).toArray⟩]), (20, .slice a1 L.length c1), (21, .int .i64 ((i5 : Nat) : Int)), (22, .pointer (pAt a1 (i5 * 3))), (23, .agg #[.int .i64 ((List.getD L i5 Fe.z).k), .string ⟨((List.getD L i5 Fe.z).a).toArray⟩, .string ⟨((List.getD L i5 Fe.z).v).toArray⟩]), (24, .bool false)]) (fun φ9 xs9 => []) s trivial (by kernel_rfl) (by kernel_rfl) (fun _ _ => by kernel_rfl) (fun _ _ => by kernel_rfl) ⟨fun _ _ => by kernel_rfl, fun _ _ => by kernel_rfl, fun _ _ => by kernel_rfl, fun _ _ => by kernel_rfl⟩ (fun _ _ _ => by kernel_rfl) (fun _ _ => by kernel_rfl) (fun _ _ => by kernel_rfl) (fun _ _ => by kernel_rfl) (fun _ _ => by kernel_rfl) (fun _ _ => by kernel_rfl) trivial ⟨kcast (A := ∀ (φ9 : Nat → Nat) (xs9 : Xs) (J : IM) (w : World), I5.Le J → J.Sub w → ((Instr.indexAt 30 (.slice a0 L.length c0) (.int .i64 ((i5 : Nat) : Int))) : Sem Value).run Tryd.prog w = .ok (.pointer (pAt a0 (i5 * 3))) w) (by kernel_rfl) (fun φ9 xs9 J w hJ hS => fsl_idx30 (FSl.mono hJ h0) (by have e8 := hi5_0; have hq0 := of_decide_eq_true hc7; omega)), ⟨kcast (A := ∀ (φ9 : Nat → Nat) (xs9 : Xs) (J : IM) (w : World), I5.Le J → J.Sub w → ((Instr.loadAt 42 (.pointer (pAt a0 (i5 * 3)))) : Sem Value).run Tryd.prog w = .ok (.agg #[.int .i64 ((List.getD L i5 Fe.z).k), .string ⟨((List.getD L i5 Fe.z).a).toArray⟩, .string ⟨((List.getD L i5 Fe.z).v).toArray⟩]) w) (by kernel_rfl) (fun φ9 xs9 J w hJ hS => fsl_ld42 hS (FSl.mono hJ h0) (by have e8 := hi5_0; have hq0 := of_decide_eq_true hc7; omega)), ⟨kcast (A := ∀ (φ9 : Nat → Nat) (xs9 : Xs) (J : IM) (w : World), I5.Le J → J.Sub w → ((Instr.indexAt 30 (.slice a1 L.length c1) (.int .i64 ((i5 : Nat) : Int))) : Sem Value).run Tryd.prog w = .ok (.pointer (pAt a1 (i5 * 3))) w) (by kernel_rfl) (fun φ9 xs9 J w hJ hS => fsl_idx30 (FSl.mono hJ h1) (by have e8 := hi5_0; have hq0 := of_decide_eq_true hc7; omega)), ⟨kcast (A := ∀ (φ9 : Nat → Nat) (xs9 : Xs) (J : IM) (w : World), I5.Le J → J.Sub w → ((Instr.loadAt 42 (.pointer (pAt a1 (i5 * 3)))) : Sem Value).run Tryd.prog w = .ok (.agg #[.int .i64 ((List.getD L i5 Fe.z).k), .string ⟨((List.getD L i5 Fe.z).a).toArray⟩, .string ⟨((List.getD L i5 Fe.z).v).toArray⟩]) w) (by kernel_rfl) (fun φ9 xs9 J w hJ hS => fsl_ld42 hS (FSl.mono hJ h1) (by have e8 := hi5_0; have hq0 := of_decide_eq_true hc7; omega)), ⟨kcast (A := ∀ (φ9 : Nat → Nat) (xs9 : Xs) (J : IM) (w : World), I5.Le J → J.Sub w → ((do eqGuard .neq 42 (.tmp 19) (.tmp 23) (.agg #[.int .i64 ((List.getD L i5 Fe.z).k), .string ⟨((List.getD L i5 Fe.z).a).toArray⟩, .string ⟨((List.getD L i5 Fe.z).v).toArray⟩]) (.agg #[.int .i64 ((List.getD L i5 Fe.z).k), .string ⟨((List.getD L i5 Fe.z).a).toArray⟩, .string ⟨((List.getD L i5 Fe.z).v).toArray⟩]); binOp .neq 42 (.agg #[.int .i64 ((List.getD L i5 Fe.z).k), .string ⟨((List.getD L i5 Fe.z).a).toArray⟩, .string ⟨((List.getD L i5 Fe.z).v).toArray⟩]) (.agg #[.int .i64 ((List.getD L i5 Fe.z).k), .string ⟨((List.getD L i5 Fe.z).a).toArray⟩, .string ⟨((List.getD L i5 Fe.z).v).toArray⟩])) : Sem Value).run Tryd.prog w = .ok (.bool false) w) (by kernel_rfl) (fun φ9 xs9 J w hJ hS => run_neFe42), trivial⟩⟩⟩⟩⟩ (by kernel_rfl) trivial ?k9
    case k9 =>
      rintro φ9 xs9 I9 w9 le9 s 
      replace h0 := FSl.mono le9 h0
      replace h1 := FSl.mono le9 h1
      replace hle4 := leMono le9 hle4
      refine cond_false_rule (b := false) (by kernel_rfl) rfl ?_
      refine wp_skip ?_
      refine region_rule ?_
      refine ops_rule (C := []) [] [] 2 [] 0 (fun φ10 => [(13, .int .i64 (IntKind.wrap .i64 (((i5 : Nat) : Int) + ((1 : Nat) : Int)))), (25, .int .i64 (IntKind.wrap .i64 (((i5 : Nat) : Int) + ((1 : Nat) : Int))))]) (fun φ10 => []) (fun φ10 => []) s trivial (fun φ10 => by kernel_rfl) ?_
      intro φ10 w10 s
      rw [nat_addI (a := i5) (b := 1) (by have e8 := hi5_0; have hq0 := of_decide_eq_true hc7; omega)]
      refine ops_done (by kernel_rfl) ?_
      exact ⟨⟨m5 - 1, i5 + 1, _, _, _, by have hq0 := of_decide_eq_true hc7; have := hi5_0; omega, rfl, s, List.Sublist.slnil, by kernel_rfl, hle4, by have hq0 := of_decide_eq_true hc7; have := hi5_0; show i5 + 1 + (m5 - 1) = L.length; omega⟩⟩
  ·
    rw [hc7]
    refine cond_false_rule (b := false) (by kernel_rfl) rfl ?_
    refine wp_exit ?_
    refine wp_seq ?_
    refine region_rule ?_
    refine ops_rule (C := []) [] [] 1 [] 0 (fun φ11 => [(4, .bool true)]) (fun φ11 => []) (fun φ11 => []) s trivial (fun φ11 => by kernel_rfl) ?_
    intro φ11 w11 s
    refine ops_done (by kernel_rfl) ?_
    refine wp_ret ?_
    refine ret_rule (C := []) [] [] (.bool true) [] [] s trivial (by kernel_rfl) ?_
    exact ⟨_, _, _, rfl, s, rfl⟩

set_option maxHeartbeats 2000000 in
theorem equalK_c {I : IM} {L : List Nat} {a0 a1 : Option Addr} {c0 c1 : Nat} (h0 : KSl I L (.slice a0 L.length c0)) (h1 : KSl I L (.slice a1 L.length c1)) (hl : L.length ≤ 1000) : Fun Tryd.prog 47 #[.slice a0 L.length c0, .slice a1 L.length c1] I (fun v J => v = .bool true) := by
  refine enter_rule 26 [(0, .slice a0 L.length c0), (1, .slice a1 L.length c1)] Tryd.func47 rfl (by kernel_rfl) ?_
  intro w s
  refine wp_seq ?_
  refine region_rule ?_
  refine ops_rule (C := []) [] [] 1 [] 0 (fun φ1 => [(4, .bool false)]) (fun φ1 => []) (fun φ1 => []) s trivial (fun φ1 => by kernel_rfl) ?_
  intro φ1 w1 s
  refine ops_done (by kernel_rfl) ?_
  refine wp_seq ?_
  refine wp_seq ?_
  refine region_rule ?_
  refine ops_rule (C := []) [] [] 5 [] 0 (fun φ2 => [(10, .bool (((L.length : Nat) : Int) != ((L.length : Nat) : Int))), (9, .int .i64 ((L.length : Nat) : Int)), (8, .slice a1 L.length c1), (7, .int .i64 ((L.length : Nat) : Int)), (6, .slice a0 L.length c0)]) (fun φ2 => []) (fun φ2 => []) s trivial (fun φ2 => by kernel_rfl) ?_
  intro φ2 w2 s
  rw [(nat_neq (a := L.length) (b := L.length)).trans (decide_eq_false (fun q => q rfl))]
  refine ops_done (by kernel_rfl) ?_
  refine cond_false_rule (b := false) (by kernel_rfl) rfl ?_
  refine wp_skip ?_
  refine wp_seq ?_
  refine wp_seq ?_
  refine region_rule ?_
  refine ops_rule (C := []) [] [] 3 [] 0 (fun φ3 => [(13, .int .i64 0), (12, .int .i64 ((L.length : Nat) : Int)), (11, .slice a0 L.length c0)]) (fun φ3 => []) (fun φ3 => []) s trivial (fun φ3 => by kernel_rfl) ?_
  intro φ3 w3 s
  refine ops_done (by kernel_rfl) ?_
  refine wp_block ?_
  have hle4 := IM.Le.refl I
  refine loop_rule (fun (x : Nat) => [(0, .slice a0 L.length c0), (1, .slice a1 L.length c1), (4, .bool false), (11, .slice a0 L.length c0), (12, .int .i64 ((L.length : Nat) : Int)), (13, .int .i64 ((x : Nat) : Int))]) (fun (x : Nat) => []) (fun m (x : Nat) J => IM.Le I J ∧ x + m = L.length) (L.length) 0 s (by kernel_rfl) List.Sublist.slnil ⟨IM.Le.refl _, Nat.zero_add _⟩ ?_
  rintro m5 i5 I5 w5 ev5 s ⟨le5, hi5_0⟩
  try dsimp only at s hi5_0 ⊢
  replace h0 := KSl.mono le5 h0
  replace h1 := KSl.mono le5 h1
  replace hle4 := leMono le5 hle4
  refine wp_seq ?_
  refine region_rule ?_
  refine ops_rule (C := []) [] [] 1 [] 0 (fun φ6 => [(14, .bool (decide (((i5 : Nat) : Int) < ((L.length : Nat) : Int))))]) (fun φ6 => []) (fun φ6 => []) s trivial (fun φ6 => by kernel_rfl) ?_
  intro φ6 w6 s
  rw [nat_lss (a := i5) (b := L.length)]
  refine ops_done (by kernel_rfl) ?_
  refine wp_seq ?_
  rcases Bool.eq_false_or_eq_true (decide (i5 < L.length)) with hc7 | hc7
  ·
    rw [hc7]
    refine cond_true_rule (b := true) (by kernel_rfl) rfl ?_
    refine wp_skip ?_
    refine wp_seq ?_
    refine wp_block ?_
    refine wp_seq ?_
    refine region_rule ?_
    refine ops_rule (C := []) [] [] 2 [] 0 (fun φ8 => [(5, .int .i64 ((i5 : Nat) : Int)), (15, .int .i64 ((i5 : Nat) : Int))]) (fun φ8 => []) (fun φ8 => []) s trivial (fun φ8 => by kernel_rfl) ?_
    intro φ8 w8 s
    refine ops_done (by kernel_rfl) ?_
    refine wp_seq ?_
    refine draw_rule (C := []) ⟨(fun φ9 xs9 => [.look 0 [] [], .look 0 [] [], .ran (Instr.indexAt 52 (.slice a0 L.length c0) (.int .i64 ((i5 : Nat) : Int))), .ran (Instr.loadAt 3 (.pointer (pAt a0 i5))), .look 0 [] [], .look 0 [] [], .ran (Instr.indexAt 52 (.slice a1 L.length c1) (.int .i64 ((i5 : Nat) : Int))), .ran (Instr.loadAt 3 (.pointer (pAt a1 i5))), .sub 0 [] [] (.bool ((((List.getD L i5 0) : Nat) : Int) != (((List.getD L i5 0) : Nat) : Int)))]), (fun φ9 xs9 => [.slice a0 L.length c0, .int .i64 ((i5 : Nat) : Int), .pointer (pAt a0 i5), .int .i64 (((List.getD L i5 0) : Nat) : Int), .slice a1 L.length c1, .int .i64 ((i5 : Nat) : Int), .pointer (pAt a1 i5), .int .i64 (((List.getD L i5 0) : Nat) : Int), .bool false]), (fun φ9 xs9 => [[]]), (fun φ9 xs9 => [[default, default, default, default, default, default, default, default, default]]), [], [1, 1, 6, 6, 1, 1, 6, 6, 5]⟩ (fun j => ([MP.any, MP.any, MP.any, MP.any, MP.any, MP.any, MP.any, MP.any, MP.any] : List MP).getD j MP.any) [] [8] [2, 3, 6, 7] (fun φ9 xs9 => []) (fun φ9 xs9 => [(16, .slice a0 L.length c0), (17, .int .i64 ((i5 : Nat) : Int)), (18, .pointer (pAt a0 i5)), (19, .int .i64 (((List.getD L i5 0) : Nat) : Int)), (20, .slice a1 L.length c1), (21, .int .i64 ((i5 : Nat) : Int)), (22, .pointer (pAt a1 i5)), (23, .int .i64 (((List.getD L i5 0) : Nat) : Int)), (24, .bool false)]) (fun φ9 xs9 => []) s trivial (by kernel_rfl) (by kernel_rfl) (fun _ _ => by kernel_rfl) (fun _ _ => by kernel_rfl) ⟨fun _ _ => by kernel_rfl, fun _ _ => by kernel_rfl, fun _ _ => by kernel_rfl, fun _ _ => by kernel_rfl⟩ (fun _ _ _ => by kernel_rfl) (fun _ _ => by kernel_rfl) (fun _ _ => by kernel_rfl) (fun _ _ => by kernel_rfl) (fun _ _ => by kernel_rfl) (fun _ _ => by kernel_rfl) ⟨kcast (A := ∀ (φ9 : Nat → Nat) (xs9 : Xs), (.bool ((((List.getD L i5 0) : Nat) : Int) != (((List.getD L i5 0) : Nat) : Int)) : Value) = .bool false) (by kernel_rfl) (fun φ9 xs9 => congrArg Value.bool (((nat_neq (a := (List.getD L i5 0)) (b := (List.getD L i5 0))).trans (decide_eq_false (fun q => q rfl))))), trivial⟩ ⟨kcast (A := ∀ (φ9 : Nat → Nat) (xs9 : Xs) (J : IM) (w : World), I5.Le J → J.Sub w → ((Instr.indexAt 52 (.slice a0 L.length c0) (.int .i64 ((i5 : Nat) : Int))) : Sem Value).run Tryd.prog w = .ok (.pointer (pAt a0 i5)) w) (by kernel_rfl) (fun φ9 xs9 J w hJ hS => ksl_idx (KSl.mono hJ h0) (by have e8 := hi5_0; have hq0 := of_decide_eq_true hc7; omega)), ⟨kcast (A := ∀ (φ9 : Nat → Nat) (xs9 : Xs) (J : IM) (w : World), I5.Le J → J.Sub w → ((Instr.loadAt 3 (.pointer (pAt a0 i5))) : Sem Value).run Tryd.prog w = .ok (.int .i64 (((List.getD L i5 0) : Nat) : Int)) w) (by kernel_rfl) (fun φ9 xs9 J w hJ hS => ksl_ld hS (KSl.mono hJ h0) (by have e8 := hi5_0; have hq0 := of_decide_eq_true hc7; omega)), ⟨kcast (A := ∀ (φ9 : Nat → Nat) (xs9 : Xs) (J : IM) (w : World), I5.Le J → J.Sub w → ((Instr.indexAt 52 (.slice a1 L.length c1) (.int .i64 ((i5 : Nat) : Int))) : Sem Value).run Tryd.prog w = .ok (.pointer (pAt a1 i5)) w) (by kernel_rfl) (fun φ9 xs9 J w hJ hS => ksl_idx (KSl.mono hJ h1) (by have e8 := hi5_0; have hq0 := of_decide_eq_true hc7; omega)), ⟨kcast (A := ∀ (φ9 : Nat → Nat) (xs9 : Xs) (J : IM) (w : World), I5.Le J → J.Sub w → ((Instr.loadAt 3 (.pointer (pAt a1 i5))) : Sem Value).run Tryd.prog w = .ok (.int .i64 (((List.getD L i5 0) : Nat) : Int)) w) (by kernel_rfl) (fun φ9 xs9 J w hJ hS => ksl_ld hS (KSl.mono hJ h1) (by have e8 := hi5_0; have hq0 := of_decide_eq_true hc7; omega)), trivial⟩⟩⟩⟩ (by kernel_rfl) trivial ?k9
    case k9 =>
      rintro φ9 xs9 I9 w9 le9 s 
      replace h0 := KSl.mono le9 h0
      replace h1 := KSl.mono le9 h1
      replace hle4 := leMono le9 hle4
      refine cond_false_rule (b := false) (by kernel_rfl) rfl ?_
      refine wp_skip ?_
      refine region_rule ?_
      refine ops_rule (C := []) [] [] 2 [] 0 (fun φ10 => [(13, .int .i64 (IntKind.wrap .i64 (((i5 : Nat) : Int) + ((1 : Nat) : Int)))), (25, .int .i64 (IntKind.wrap .i64 (((i5 : Nat) : Int) + ((1 : Nat) : Int))))]) (fun φ10 => []) (fun φ10 => []) s trivial (fun φ10 => by kernel_rfl) ?_
      intro φ10 w10 s
      rw [nat_addI (a := i5) (b := 1) (by have e8 := hi5_0; have hq0 := of_decide_eq_true hc7; omega)]
      refine ops_done (by kernel_rfl) ?_
      exact ⟨⟨m5 - 1, i5 + 1, _, _, _, by have hq0 := of_decide_eq_true hc7; have := hi5_0; omega, rfl, s, List.Sublist.slnil, by kernel_rfl, hle4, by have hq0 := of_decide_eq_true hc7; have := hi5_0; show i5 + 1 + (m5 - 1) = L.length; omega⟩⟩
  ·
    rw [hc7]
    refine cond_false_rule (b := false) (by kernel_rfl) rfl ?_
    refine wp_exit ?_
    refine wp_seq ?_
    refine region_rule ?_
    refine ops_rule (C := []) [] [] 1 [] 0 (fun φ11 => [(4, .bool true)]) (fun φ11 => []) (fun φ11 => []) s trivial (fun φ11 => by kernel_rfl) ?_
    intro φ11 w11 s
    refine ops_done (by kernel_rfl) ?_
    refine wp_ret ?_
    refine ret_rule (C := []) [] [] (.bool true) [] [] s trivial (by kernel_rfl) ?_
    exact ⟨_, _, _, rfl, s, rfl⟩

end Go.Proofs.YtcpmjogeafhpnaaDoor
