/- The limits of event trees. -/
import Derived.Test.YtgdickihjaomjaaDoorElP30
set_option linter.all false
set_option maxRecDepth 100000
namespace Go.Proofs.YtgdickihjaomjaaDoor
open Go.RowKit Go.Sep
attribute [local irreducible] Go.wpList Go.Code.wp
def spE : Nat → E
  | 0 => .leaf 1
  | i + 1 => .node 0 (spE i) (.leaf 0)
theorem spE_depth : ∀ i, (spE i).depth = i
  | 0 => rfl
  | i + 1 => by
    show 1 + max (spE i).depth 0 = i + 1
    rw [spE_depth i]; omega
theorem spE_top : ∀ i, (spE i).top = 1
  | 0 => rfl
  | i + 1 => by
    show 0 + max (spE i).top 0 = 1
    rw [spE_top i]; omega
theorem dn_zero (e : E) : E.dn 0 e = e := by cases e <;> simp [E.dn]
theorem spE_mk (i : Nat) : E.mk 0 (spE i) (.leaf 0) = spE (i + 1) := by
  unfold E.mk
  have h : ¬ ((spE i).isLeaf = true ∧ (E.leaf 0).isLeaf = true ∧ (spE i).base = (E.leaf 0).base) := by
    rintro ⟨h1, -, h2⟩
    cases i with
    | zero => cases h2
    | succ i => cases h1
  rw [if_neg h]
  have h0 : min (spE i).base (E.leaf 0).base = 0 := Nat.min_zero _
  rw [h0, dn_zero, dn_zero]; rfl
theorem spUp_c {I : IM} {i b : Nat} {p : Option Addr} (h : i < 16) (hr : ERep I (spE (min i 16)) b p) : Fun Tryd.prog 18 #[.int .u64 0, evv b p, evv 0 none] I (fun v J => ∃ b p, v = .tuple #[evv b p, .int .i64 0] ∧ ERep J (spE (min (i + 1) 16)) b p) := by
  rw [Nat.min_eq_left (by omega)] at hr
  have h1 := nodeR_c (n := 0) hr (ERep.lf I 0) (by rw [spE_top]; omega) (Nat.zero_le _) (by rw [spE_depth]; omega) (Nat.zero_le _)
  have e : nodeR 0 (spE i) (.leaf 0) = (spE (min (i + 1) 16), 0) := by
    unfold nodeR
    rw [if_neg (by rw [spE_depth]; show ¬ 16 ≤ max i 0; omega), if_neg (by omega), if_neg (by rw [spE_top]; show ¬ 1048576 < 0 + max 1 0; omega), spE_mk, Nat.min_eq_left (by omega)]
  rw [e] at h1; exact h1
theorem spNo_c {I : IM} {i b : Nat} {p : Option Addr} (h : ¬ i < 16) (hr : ERep I (spE (min i 16)) b p) : Fun Tryd.prog 18 #[.int .u64 0, evv b p, evv 0 none] I (fun v J => v = .tuple #[evv 0 none, .int .i64 3]) := by
  rw [Nat.min_eq_right (by omega)] at hr
  have h1 := nodeR_c (n := 0) hr (ERep.lf I 0) (by rw [spE_top]; omega) (Nat.zero_le _) (by rw [spE_depth]; omega) (Nat.zero_le _)
  have e : nodeR 0 (spE 16) (.leaf 0) = (.leaf 0, 3) := by
    unfold nodeR
    rw [if_pos (by rw [spE_depth]; show 16 ≤ max 16 0; omega)]
  rw [e] at h1
  refine h1.mono fun v J _ ⟨b, p, hv, hb⟩ => ?_
  obtain ⟨rfl, rfl⟩ := hb
  exact hv
theorem spDepth_c {I : IM} {i b : Nat} {p : Option Addr} (hr : ERep I (spE (min i 16)) b p) : Fun Tryd.prog 35 #[evv b p] I (fun v J => v = .int .i64 ((min i 16 : Nat) : Int)) := by
  have h := depth_c hr
  rw [spE_depth] at h; exact h
theorem nodeLim_c {I : IM} {n a : Nat} (ha : a ≤ 1048576) (hn : n ≤ 1048576) (h : n + a ≤ 1048576) : Fun Tryd.prog 18 #[.int .u64 ((n : Nat) : Int), evv a none, evv 0 none] I (fun v J => ∃ b p, v = .tuple #[evv b p, .int .i64 0] ∧ ERep J (E.mk n (.leaf a) (.leaf 0)) b p) :=
  nodeOk_c (ERep.lf I a) (ERep.lf I 0) (show max 0 0 < 16 by omega) hn (show n + max a 0 ≤ 1048576 by omega)
theorem nodeOver_c {I : IM} {n a : Nat} (ha : a ≤ 1048576) (h : ¬ (n ≤ 1048576 ∧ n + a ≤ 1048576)) : Fun Tryd.prog 18 #[.int .u64 ((n : Nat) : Int), evv a none, evv 0 none] I (fun v J => v = .tuple #[evv 0 none, .int .i64 4]) := by
  have h1 := nodeR_c (n := n) (ERep.lf I a) (ERep.lf I 0) ha (Nat.zero_le _) (Nat.zero_le _) (Nat.zero_le _)
  have e : nodeR n (.leaf a) (.leaf 0) = (.leaf 0, 4) := by
    unfold nodeR
    rw [if_neg (show ¬ 16 ≤ max (E.leaf a).depth (E.leaf 0).depth from (by decide : ¬ (16 ≤ max 0 0)))]
    by_cases hb : 1048576 < n
    · rw [if_pos hb]
    · rw [if_neg hb, if_pos (show 1048576 < n + max (E.leaf a).top (E.leaf 0).top from (by omega : 1048576 < n + max a 0))]
  rw [e] at h1
  refine h1.mono fun v J _ ⟨b, p, hv, hb⟩ => ?_
  obtain ⟨rfl, rfl⟩ := hb
  exact hv
theorem maxLim_c {I : IM} {n a b : Nat} {p : Option Addr} (h : n + a ≤ 1048576) (hr : ERep I (E.mk n (.leaf a) (.leaf 0)) b p) : Fun Tryd.prog 34 #[evv b p] I (fun v J => v = .int .u64 ((n + a : Nat) : Int)) := by
  have e : (E.mk n (.leaf a) (.leaf 0)).top = n + a := by rw [E.mk_top_eq]; show n + max a 0 = n + a; omega
  have h1 := max_c hr (by rw [e]; omega)
  rw [e] at h1; exact h1

set_option maxHeartbeats 8000000 in
theorem eventLimits_c {I : IM} (hT : Tab I) {n dp base : Nat} (hn : n < 18446744073709551616) (hdp : dp < 256) (hb : base < 18446744073709551616) : Fun Tryd.prog 7 #[.int .u64 ((n : Nat) : Int), .int .u8 ((dp : Nat) : Int), .int .u64 ((base : Nat) : Int)] I (fun v J => v = .bool true) := by
  refine enter_rule 122 [(0, .int .u64 ((n : Nat) : Int)), (1, .int .u8 ((dp : Nat) : Int)), (2, .int .u64 ((base : Nat) : Int))] Tryd.func7 rfl (by kernel_rfl) ?_
  intro w s
  refine wp_seq ?_
  refine region_rule ?_
  refine ops_rule (C := []) [] [] 1 [] 0 (fun φ1 => [(6, .bool false)]) (fun φ1 => []) (fun φ1 => []) s trivial (fun φ1 => by kernel_rfl) ?_
  intro φ1 w1 s
  refine ops_done (by kernel_rfl) ?_
  refine wp_seq ?_
  refine wp_seq ?_
  refine region_rule ?_
  refine call_rule (some 18) s (awakeE_c hT) (by kernel_rfl) ?_
  intro v2 I2 w2 le2 h2 s
  replace hT := Tab.mono le2 hT
  obtain rfl := h2
  refine ops_rule (C := []) [] [] 1 [] 0 (fun φ3 => [(19, .bool false)]) (fun φ3 => []) (fun φ3 => []) s trivial (fun φ3 => by kernel_rfl) ?_
  intro φ3 w3 s
  refine ops_done (by kernel_rfl) ?_
  refine cond_false_rule (b := false) (by kernel_rfl) rfl ?_
  refine wp_skip ?_
  refine wp_seq ?_
  refine region_rule ?_
  refine ops_rule (C := []) [] [] 1 [] 0 (fun φ4 => [(21, .int .u64 ((n : Nat) : Int))]) (fun φ4 => []) (fun φ4 => []) s trivial (fun φ4 => by kernel_rfl) ?_
  intro φ4 w4 s
  rcases Bool.eq_false_or_eq_true (decide (n ≤ 1048576)) with hc5 | hc5
  ·
    refine call_rule (some 22) s (leafOk_c (n := n) (of_decide_eq_true hc5)) (by kernel_rfl) ?_
    intro v6 I6 w6 le6 h6 s
    replace hT := Tab.mono le6 hT
    obtain rfl := h6
    refine ops_rule (C := []) [] [] 6 [.o 0, .o 0] 1 (fun φ7 => [(8, .int .i64 0), (7, .pointer (some ⟨(φ7 0), 0, none⟩)), (24, .int .i64 0), (23, .agg #[.int .u64 ((n : Nat) : Int), .pointer none]), (20, .tuple #[.agg #[.int .u64 ((n : Nat) : Int), .pointer none], .int .i64 0])]) (fun φ7 => [((φ7 0), .cells #[.int .u64 ((n : Nat) : Int), .pointer none] 27)]) (fun φ7 => [(φ7 0), (φ7 0)]) s trivial (fun φ7 => by kernel_rfl) ?_
    intro φ7 w7 s
    refine ops_done (by kernel_rfl) ?_
    refine wp_seq ?_
    refine wp_seq ?_
    refine region_rule ?_
    refine ops_rule (C := []) [((φ7 0), .cells #[.int .u64 ((n : Nat) : Int), .pointer none] 27)] [] 4 [] 0 (fun φ8 => [(28, .bool (decide (((n : Nat) : Int) ≤ ((1048576 : Nat) : Int)))), (27, .int .u64 ((n : Nat) : Int)), (26, .bool true), (25, .int .i64 0)]) (fun φ8 => [((φ7 0), .cells #[.int .u64 ((n : Nat) : Int), .pointer none] 27)]) (fun φ8 => []) s trivial (fun φ8 => by kernel_rfl) ?_
    intro φ8 w8 s
    rw [nat_leq (a := n) (b := 1048576)]
    rw [hc5]
    refine ops_rule (C := []) [((φ7 0), .cells #[.int .u64 ((n : Nat) : Int), .pointer none] 27)] [] 14 [] 0 (fun φ9 => [(42, .bool false), (41, .bool false), (40, undef), (39, undef), (38, undef), (37, undef), (36, undef), (35, undef), (34, undef), (33, .bool false), (32, .bool false), (31, .int .i64 0), (30, .bool false), (29, .bool false)]) (fun φ9 => [((φ7 0), .cells #[.int .u64 ((n : Nat) : Int), .pointer none] 27)]) (fun φ9 => []) s trivial (fun φ9 => by kernel_rfl) ?_
    intro φ9 w9 s
    refine ops_done (by kernel_rfl) ?_
    refine cond_false_rule (b := false) (by kernel_rfl) rfl ?_
    refine wp_skip ?_
    refine wp_seq ?_
    refine wp_seq ?_
    refine region_rule ?_
    refine ops_rule (C := []) [((φ7 0), .cells #[.int .u64 ((n : Nat) : Int), .pointer none] 27)] [] 2 [] 0 (fun φ10 => [(44, .bool true), (43, .int .i64 0)]) (fun φ10 => [((φ7 0), .cells #[.int .u64 ((n : Nat) : Int), .pointer none] 27)]) (fun φ10 => []) s trivial (fun φ10 => by kernel_rfl) ?_
    intro φ10 w10 s
    refine ops_done (by kernel_rfl) ?_
    refine cond_true_rule (b := true) (by kernel_rfl) rfl ?_
    refine wp_seq ?_
    refine region_rule ?_
    refine ops_rule (C := []) [((φ7 0), .cells #[.int .u64 ((n : Nat) : Int), .pointer none] 27)] [] 3 [.o 0, .o 0] 0 (fun φ11 => [(48, .agg #[.int .u64 0, .pointer none]), (47, .agg #[.int .u64 ((n : Nat) : Int), .pointer none]), (46, .int .u64 ((base : Nat) : Int))]) (fun φ11 => [((φ7 0), .cells #[.int .u64 ((n : Nat) : Int), .pointer none] 27)]) (fun φ11 => [(φ7 0), (φ7 0)]) s trivial (fun φ11 => by kernel_rfl) ?_
    intro φ11 w11 s
    rcases Bool.eq_false_or_eq_true (decide (base ≤ 1048576)) with hc12 | hc12
    ·
      rcases Bool.eq_false_or_eq_true (decide ((base + n) ≤ 1048576)) with hc13 | hc13
      ·
        refine call_rule (some 49) s (nodeLim_c (n := base) (a := n) (of_decide_eq_true hc5) (of_decide_eq_true hc12) (of_decide_eq_true hc13)) (by kernel_rfl) ?_
        intro v14 I14 w14 le14 h14 s
        replace hT := Tab.mono le14 hT
        obtain ⟨b14, p14, rfl, h14_0⟩ := h14
        refine ops_rule (C := []) [((φ7 0), .cells #[.int .u64 ((n : Nat) : Int), .pointer none] 27)] [] 6 [.o 1, .o 1] 1 (fun φ15 => [(10, .int .i64 0), (9, .pointer (some ⟨(φ15 0), 0, none⟩)), (51, .int .i64 0), (50, .agg #[.int .u64 ((b14 : Nat) : Int), .pointer p14]), (45, .tuple #[.agg #[.int .u64 ((b14 : Nat) : Int), .pointer p14], .int .i64 0])]) (fun φ15 => [((φ7 0), .cells #[.int .u64 ((n : Nat) : Int), .pointer none] 27), ((φ15 0), .cells #[.int .u64 ((b14 : Nat) : Int), .pointer p14] 27)]) (fun φ15 => [(φ15 0), (φ15 0)]) s trivial (fun φ15 => by kernel_rfl) ?_
        intro φ15 w15 s
        refine ops_done (by kernel_rfl) ?_
        refine wp_seq ?_
        refine region_rule ?_
        refine ops_rule (C := []) [((φ7 0), .cells #[.int .u64 ((n : Nat) : Int), .pointer none] 27), ((φ15 0), .cells #[.int .u64 ((b14 : Nat) : Int), .pointer p14] 27)] [] 3 [] 0 (fun φ16 => [(54, .bool (decide (((base : Nat) : Int) ≤ ((1048576 : Nat) : Int)))), (53, .bool (decide (((base : Nat) : Int) ≤ ((1048576 : Nat) : Int)))), (52, .int .u64 ((base : Nat) : Int))]) (fun φ16 => [((φ7 0), .cells #[.int .u64 ((n : Nat) : Int), .pointer none] 27), ((φ15 0), .cells #[.int .u64 ((b14 : Nat) : Int), .pointer p14] 27)]) (fun φ16 => []) s trivial (fun φ16 => by kernel_rfl) ?_
        intro φ16 w16 s
        rw [nat_leq (a := base) (b := 1048576)]
        rw [hc12]
        refine ops_rule (C := []) [((φ7 0), .cells #[.int .u64 ((n : Nat) : Int), .pointer none] 27), ((φ15 0), .cells #[.int .u64 ((b14 : Nat) : Int), .pointer p14] 27)] [] 6 [] 0 (fun φ17 => [(11, .bool (decide ((IntKind.wrap .u64 (((base : Nat) : Int) + ((n : Nat) : Int))) ≤ ((1048576 : Nat) : Int)))), (59, .bool (decide ((IntKind.wrap .u64 (((base : Nat) : Int) + ((n : Nat) : Int))) ≤ ((1048576 : Nat) : Int)))), (58, .bool (decide ((IntKind.wrap .u64 (((base : Nat) : Int) + ((n : Nat) : Int))) ≤ ((1048576 : Nat) : Int)))), (57, .int .u64 (IntKind.wrap .u64 (((base : Nat) : Int) + ((n : Nat) : Int)))), (56, .int .u64 ((n : Nat) : Int)), (55, .int .u64 ((base : Nat) : Int))]) (fun φ17 => [((φ7 0), .cells #[.int .u64 ((n : Nat) : Int), .pointer none] 27), ((φ15 0), .cells #[.int .u64 ((b14 : Nat) : Int), .pointer p14] 27)]) (fun φ17 => []) s trivial (fun φ17 => by kernel_rfl) ?_
        intro φ17 w17 s
        rw [nat_addU (a := base) (b := n) (by have hq0 := of_decide_eq_true hc5; have hq1 := of_decide_eq_true hc5; have hq2 := of_decide_eq_true hc12; have hq3 := of_decide_eq_true hc13; have hq4 := of_decide_eq_true hc12; omega)]
        rw [nat_leq (a := (base + n)) (b := 1048576)]
        rw [hc13]
        refine ops_done (by kernel_rfl) ?_
        refine wp_seq ?_
        refine region_rule ?_
        refine ops_rule (C := []) [((φ7 0), .cells #[.int .u64 ((n : Nat) : Int), .pointer none] 27), ((φ15 0), .cells #[.int .u64 ((b14 : Nat) : Int), .pointer p14] 27)] [] 16 [.o 1, .o 1] 0 (fun φ18 => [(75, .agg #[.int .u64 ((b14 : Nat) : Int), .pointer p14]), (74, .bool true), (73, .bool true), (72, .bool false), (71, .bool false), (70, .bool false), (69, undef), (68, undef), (67, .bool false), (66, .bool false), (65, .bool true), (64, .bool false), (63, .bool false), (62, .bool true), (61, .bool true), (60, .int .i64 0)]) (fun φ18 => [((φ7 0), .cells #[.int .u64 ((n : Nat) : Int), .pointer none] 27), ((φ15 0), .cells #[.int .u64 ((b14 : Nat) : Int), .pointer p14] 27)]) (fun φ18 => [(φ15 0), (φ15 0)]) s trivial (fun φ18 => by kernel_rfl) ?_
        intro φ18 w18 s
        refine call_rule (some 76) s (maxLim_c (n := base) (a := n) (of_decide_eq_true hc13) h14_0) (by kernel_rfl) ?_
        intro v19 I19 w19 le19 h19 s
        replace hT := Tab.mono le19 hT
        replace h14_0 := ERep.mono le19 h14_0
        obtain rfl := h19
        refine ops_rule (C := []) [((φ7 0), .cells #[.int .u64 ((n : Nat) : Int), .pointer none] 27), ((φ15 0), .cells #[.int .u64 ((b14 : Nat) : Int), .pointer p14] 27)] [] 6 [] 0 (fun φ20 => [(82, .bool (((base + n : Nat) : Int) != (IntKind.wrap .u64 (((base : Nat) : Int) + ((n : Nat) : Int))))), (81, .bool (((base + n : Nat) : Int) != (IntKind.wrap .u64 (((base : Nat) : Int) + ((n : Nat) : Int))))), (80, .bool (((base + n : Nat) : Int) != (IntKind.wrap .u64 (((base : Nat) : Int) + ((n : Nat) : Int))))), (79, .int .u64 (IntKind.wrap .u64 (((base : Nat) : Int) + ((n : Nat) : Int)))), (78, .int .u64 ((n : Nat) : Int)), (77, .int .u64 ((base : Nat) : Int))]) (fun φ20 => [((φ7 0), .cells #[.int .u64 ((n : Nat) : Int), .pointer none] 27), ((φ15 0), .cells #[.int .u64 ((b14 : Nat) : Int), .pointer p14] 27)]) (fun φ20 => []) s trivial (fun φ20 => by kernel_rfl) ?_
        intro φ20 w20 s
        rw [nat_addU (a := base) (b := n) (by have hq0 := of_decide_eq_true hc5; have hq1 := of_decide_eq_true hc5; have hq2 := of_decide_eq_true hc12; have hq3 := of_decide_eq_true hc13; have hq4 := of_decide_eq_true hc12; have hq5 := of_decide_eq_true hc13; omega)]
        rw [nat_neq (a := (base + n)) (b := (base + n))]
        refine ops_done (by kernel_rfl) ?_
        rcases Bool.eq_false_or_eq_true (decide ((base + n) ≠ (base + n))) with hc21 | hc21
        ·
          exact absurd rfl (of_decide_eq_true hc21)
        ·
          rw [hc21]
          refine cond_false_rule (b := false) (by kernel_rfl) rfl ?_
          refine wp_skip ?_
          refine wp_seq ?_
          refine region_rule ?_
          refine call_rule (some 84) s (leafOk_c (n := 1) (by omega)) (by kernel_rfl) ?_
          intro v22 I22 w22 le22 h22 s
          replace hT := Tab.mono le22 hT
          replace h14_0 := ERep.mono le22 h14_0
          obtain rfl := h22
          refine ops_rule (C := []) [((φ7 0), .cells #[.int .u64 ((n : Nat) : Int), .pointer none] 27), ((φ15 0), .cells #[.int .u64 ((b14 : Nat) : Int), .pointer p14] 27)] [] 6 [.o 2, .o 2] 1 (fun φ23 => [(13, .int .i64 0), (12, .pointer (some ⟨(φ23 0), 0, none⟩)), (86, .int .i64 0), (85, .agg #[.int .u64 1, .pointer none]), (83, .tuple #[.agg #[.int .u64 1, .pointer none], .int .i64 0])]) (fun φ23 => [((φ7 0), .cells #[.int .u64 ((n : Nat) : Int), .pointer none] 27), ((φ15 0), .cells #[.int .u64 ((b14 : Nat) : Int), .pointer p14] 27), ((φ23 0), .cells #[.int .u64 1, .pointer none] 27)]) (fun φ23 => [(φ23 0), (φ23 0)]) s trivial (fun φ23 => by kernel_rfl) ?_
          intro φ23 w23 s
          refine ops_done (by kernel_rfl) ?_
          refine wp_seq ?_
          refine region_rule ?_
          refine ops_rule (C := []) [((φ7 0), .cells #[.int .u64 ((n : Nat) : Int), .pointer none] 27), ((φ15 0), .cells #[.int .u64 ((b14 : Nat) : Int), .pointer p14] 27), ((φ23 0), .cells #[.int .u64 1, .pointer none] 27)] [] 4 [] 0 (fun φ24 => [(14, .int .i64 (IntKind.wrap .i64 (Int.tmod ((dp : Nat) : Int) ((19 : Nat) : Int)))), (89, .int .i64 (IntKind.wrap .i64 (Int.tmod ((dp : Nat) : Int) ((19 : Nat) : Int)))), (88, .int .u8 (Int.tmod ((dp : Nat) : Int) ((19 : Nat) : Int))), (87, .int .u8 ((dp : Nat) : Int))]) (fun φ24 => [((φ7 0), .cells #[.int .u64 ((n : Nat) : Int), .pointer none] 27), ((φ15 0), .cells #[.int .u64 ((b14 : Nat) : Int), .pointer p14] 27), ((φ23 0), .cells #[.int .u64 1, .pointer none] 27)]) (fun φ24 => []) s trivial (fun φ24 => by kernel_rfl) ?_
          intro φ24 w24 s
          rw [nat_rem (a := dp) (b := 19)]
          rw [nat_wrapI (a := (dp % 19)) (by have hq0 := of_decide_eq_true hc5; have hq1 := of_decide_eq_true hc5; have hq2 := of_decide_eq_true hc12; have hq3 := of_decide_eq_true hc13; have hq4 := of_decide_eq_true hc12; have hq5 := of_decide_eq_true hc13; have hq6 := of_decide_eq_false hc21; omega)]
          refine ops_done (by kernel_rfl) ?_
          refine wp_seq ?_
          refine wp_seq ?_
          refine region_rule ?_
          refine ops_rule (C := []) [((φ7 0), .cells #[.int .u64 ((n : Nat) : Int), .pointer none] 27), ((φ15 0), .cells #[.int .u64 ((b14 : Nat) : Int), .pointer p14] 27), ((φ23 0), .cells #[.int .u64 1, .pointer none] 27)] [] 2 [] 0 (fun φ25 => [(91, .int .i64 0), (90, .int .i64 ((dp % 19 : Nat) : Int))]) (fun φ25 => [((φ7 0), .cells #[.int .u64 ((n : Nat) : Int), .pointer none] 27), ((φ15 0), .cells #[.int .u64 ((b14 : Nat) : Int), .pointer p14] 27), ((φ23 0), .cells #[.int .u64 1, .pointer none] 27)]) (fun φ25 => []) s trivial (fun φ25 => by kernel_rfl) ?_
          intro φ25 w25 s
          refine ops_done (by kernel_rfl) ?_
          refine wp_block ?_
          have hle26 := IM.Le.refl I22
          refine loop_rule (fun (x : Nat × Nat × Option Addr) => [(12, .pointer (some ⟨(φ23 0), 0, none⟩)), (14, .int .i64 ((dp % 19 : Nat) : Int)), (90, .int .i64 ((dp % 19 : Nat) : Int)), (91, .int .i64 ((x.1 : Nat) : Int))]) (fun (x : Nat × Nat × Option Addr) => [((φ23 0), .cells #[.int .u64 ((x.2.1 : Nat) : Int), .pointer x.2.2] 27)]) (fun m (x : Nat × Nat × Option Addr) J => IM.Le I22 J ∧ x.1 + m = dp % 19 ∧ ERep J (spE (min x.1 16)) x.2.1 x.2.2) (dp % 19) (0, 1, none) s (by kernel_rfl) (List.Sublist.cons _ (List.Sublist.cons _ (List.Sublist.cons₂ _ List.Sublist.slnil))) ⟨IM.Le.refl _, Nat.zero_add _, ⟨rfl, rfl⟩⟩ ?_
          rintro m ⟨i, tb, tp⟩ I27 w27 evj s ⟨le27, hm, ht27⟩
          dsimp only at s hm ht27 ⊢
          replace hT := Tab.mono le27 hT
          replace h14_0 := ERep.mono le27 h14_0
          replace hle26 := leMono le27 hle26
          rcases Bool.eq_false_or_eq_true (decide (i < 16)) with hc28 | hc28
          ·
            refine wp_seq ?_
            refine region_rule ?_
            refine ops_rule (C := []) [((φ23 0), .cells #[.int .u64 ((tb : Nat) : Int), .pointer tp] 27)] [] 1 [] 0 (fun φ29 => [(92, .bool (decide (((i : Nat) : Int) < ((dp % 19 : Nat) : Int))))]) (fun φ29 => [((φ23 0), .cells #[.int .u64 ((tb : Nat) : Int), .pointer tp] 27)]) (fun φ29 => []) s trivial (fun φ29 => by kernel_rfl) ?_
            intro φ29 w29 s
            rw [nat_lss (a := i) (b := (dp % 19))]
            refine ops_done (by kernel_rfl) ?_
            refine wp_seq ?_
            rcases Bool.eq_false_or_eq_true (decide (i < (dp % 19))) with hc30 | hc30
            ·
              rw [hc30]
              refine cond_true_rule (b := true) (by kernel_rfl) rfl ?_
              refine wp_skip ?_
              refine wp_seq ?_
              refine wp_block ?_
              refine wp_seq ?_
              refine region_rule ?_
              refine ops_rule (C := []) [((φ23 0), .cells #[.int .u64 ((tb : Nat) : Int), .pointer tp] 27)] [] 2 [] 0 (fun φ31 => [(15, .int .i64 ((i : Nat) : Int)), (93, .int .i64 ((i : Nat) : Int))]) (fun φ31 => [((φ23 0), .cells #[.int .u64 ((tb : Nat) : Int), .pointer tp] 27)]) (fun φ31 => []) s trivial (fun φ31 => by kernel_rfl) ?_
              intro φ31 w31 s
              refine ops_done (by kernel_rfl) ?_
              refine wp_seq ?_
              refine region_rule ?_
              refine ops_rule (C := []) [((φ23 0), .cells #[.int .u64 ((tb : Nat) : Int), .pointer tp] 27)] [] 2 [.o 0, .o 0] 0 (fun φ32 => [(96, .agg #[.int .u64 0, .pointer none]), (95, .agg #[.int .u64 ((tb : Nat) : Int), .pointer tp])]) (fun φ32 => [((φ23 0), .cells #[.int .u64 ((tb : Nat) : Int), .pointer tp] 27)]) (fun φ32 => [(φ23 0), (φ23 0)]) s trivial (fun φ32 => by kernel_rfl) ?_
              intro φ32 w32 s
              refine call_rule (some 97) s (spUp_c (of_decide_eq_true hc28) ht27) (by kernel_rfl) ?_
              intro v33 I33 w33 le33 h33 s
              replace hT := Tab.mono le33 hT
              replace h14_0 := ERep.mono le33 h14_0
              replace hle26 := leMono le33 hle26
              replace ht27 := ERep.mono le33 ht27
              obtain ⟨b33, p33, rfl, h33_0⟩ := h33
              refine ops_rule (C := []) [((φ23 0), .cells #[.int .u64 ((tb : Nat) : Int), .pointer tp] 27)] [] 6 [.o 1, .o 1] 1 (fun φ34 => [(17, .int .i64 0), (16, .pointer (some ⟨(φ34 0), 0, none⟩)), (99, .int .i64 0), (98, .agg #[.int .u64 ((b33 : Nat) : Int), .pointer p33]), (94, .tuple #[.agg #[.int .u64 ((b33 : Nat) : Int), .pointer p33], .int .i64 0])]) (fun φ34 => [((φ23 0), .cells #[.int .u64 ((tb : Nat) : Int), .pointer tp] 27), ((φ34 0), .cells #[.int .u64 ((b33 : Nat) : Int), .pointer p33] 27)]) (fun φ34 => [(φ34 0), (φ34 0)]) s trivial (fun φ34 => by kernel_rfl) ?_
              intro φ34 w34 s
              refine ops_done (by kernel_rfl) ?_
              refine wp_seq ?_
              refine wp_seq ?_
              refine region_rule ?_
              refine ops_rule (C := []) [((φ23 0), .cells #[.int .u64 ((tb : Nat) : Int), .pointer tp] 27), ((φ34 0), .cells #[.int .u64 ((b33 : Nat) : Int), .pointer p33] 27)] [] 4 [] 0 (fun φ35 => [(103, .bool (decide (((i : Nat) : Int) < ((16 : Nat) : Int)))), (102, .int .i64 ((i : Nat) : Int)), (101, .bool true), (100, .int .i64 0)]) (fun φ35 => [((φ23 0), .cells #[.int .u64 ((tb : Nat) : Int), .pointer tp] 27), ((φ34 0), .cells #[.int .u64 ((b33 : Nat) : Int), .pointer p33] 27)]) (fun φ35 => []) s trivial (fun φ35 => by kernel_rfl) ?_
              intro φ35 w35 s
              rw [nat_lss (a := i) (b := 16)]
              rw [hc28]
              refine ops_rule (C := []) [((φ23 0), .cells #[.int .u64 ((tb : Nat) : Int), .pointer tp] 27), ((φ34 0), .cells #[.int .u64 ((b33 : Nat) : Int), .pointer p33] 27)] [] 9 [] 0 (fun φ36 => [(112, .bool false), (111, .bool false), (110, undef), (109, undef), (108, .bool false), (107, .bool false), (106, .int .i64 0), (105, .bool false), (104, .bool false)]) (fun φ36 => [((φ23 0), .cells #[.int .u64 ((tb : Nat) : Int), .pointer tp] 27), ((φ34 0), .cells #[.int .u64 ((b33 : Nat) : Int), .pointer p33] 27)]) (fun φ36 => []) s trivial (fun φ36 => by kernel_rfl) ?_
              intro φ36 w36 s
              refine ops_done (by kernel_rfl) ?_
              refine cond_false_rule (b := false) (by kernel_rfl) rfl ?_
              refine wp_skip ?_
              refine wp_seq ?_
              refine region_rule ?_
              refine ops_rule (C := []) [((φ23 0), .cells #[.int .u64 ((tb : Nat) : Int), .pointer tp] 27), ((φ34 0), .cells #[.int .u64 ((b33 : Nat) : Int), .pointer p33] 27)] [] 2 [] 0 (fun φ37 => [(114, .bool true), (113, .int .i64 0)]) (fun φ37 => [((φ23 0), .cells #[.int .u64 ((tb : Nat) : Int), .pointer tp] 27), ((φ34 0), .cells #[.int .u64 ((b33 : Nat) : Int), .pointer p33] 27)]) (fun φ37 => []) s trivial (fun φ37 => by kernel_rfl) ?_
              intro φ37 w37 s
              refine ops_done (by kernel_rfl) ?_
              refine cond_true_rule (b := true) (by kernel_rfl) rfl ?_
              refine region_rule ?_
              refine ops_rule (C := []) [((φ23 0), .cells #[.int .u64 ((tb : Nat) : Int), .pointer tp] 27), ((φ34 0), .cells #[.int .u64 ((b33 : Nat) : Int), .pointer p33] 27)] [] 2 [.o 1, .o 1, .o 0, .o 0] 0 (fun φ38 => [(115, .agg #[.int .u64 ((b33 : Nat) : Int), .pointer p33])]) (fun φ38 => [((φ23 0), .cells #[.int .u64 ((b33 : Nat) : Int), .pointer p33] 27), ((φ34 0), .cells #[.int .u64 ((b33 : Nat) : Int), .pointer p33] 27)]) (fun φ38 => [(φ34 0), (φ34 0), (φ23 0), (φ23 0)]) s trivial (fun φ38 => by kernel_rfl) ?_
              intro φ38 w38 s
              refine ops_done (by kernel_rfl) ?_
              refine region_rule ?_
              refine ops_rule (C := []) [((φ23 0), .cells #[.int .u64 ((b33 : Nat) : Int), .pointer p33] 27), ((φ34 0), .cells #[.int .u64 ((b33 : Nat) : Int), .pointer p33] 27)] [] 2 [] 0 (fun φ39 => [(91, .int .i64 (IntKind.wrap .i64 (((i : Nat) : Int) + ((1 : Nat) : Int)))), (116, .int .i64 (IntKind.wrap .i64 (((i : Nat) : Int) + ((1 : Nat) : Int))))]) (fun φ39 => [((φ23 0), .cells #[.int .u64 ((b33 : Nat) : Int), .pointer p33] 27), ((φ34 0), .cells #[.int .u64 ((b33 : Nat) : Int), .pointer p33] 27)]) (fun φ39 => []) s trivial (fun φ39 => by kernel_rfl) ?_
              intro φ39 w39 s
              rw [nat_addI (a := i) (b := 1) (by have hq0 := of_decide_eq_true hc5; have hq1 := of_decide_eq_true hc5; have hq2 := of_decide_eq_true hc12; have hq3 := of_decide_eq_true hc13; have hq4 := of_decide_eq_true hc12; have hq5 := of_decide_eq_true hc13; have hq6 := of_decide_eq_false hc21; have hq7 := of_decide_eq_true hc28; have hq8 := of_decide_eq_true hc30; have hq9 := of_decide_eq_true hc28; omega)]
              refine ops_done (by kernel_rfl) ?_
              have hk9 := of_decide_eq_true hc30
              exact ⟨⟨m - 1, (i + 1, b33, p33), _, _, _, by omega, rfl, s, (List.Sublist.cons₂ _ (List.Sublist.cons _ List.Sublist.slnil)), by kernel_rfl, hle26, by simp only; omega, h33_0⟩⟩
            ·
              rw [hc30]
              refine cond_false_rule (b := false) (by kernel_rfl) rfl ?_
              refine wp_exit ?_
              refine wp_seq ?_
              refine region_rule ?_
              refine ops_rule (C := []) [((φ23 0), .cells #[.int .u64 ((tb : Nat) : Int), .pointer tp] 27)] [] 1 [.o 0, .o 0] 0 (fun φ40 => [(117, .agg #[.int .u64 ((tb : Nat) : Int), .pointer tp])]) (fun φ40 => [((φ23 0), .cells #[.int .u64 ((tb : Nat) : Int), .pointer tp] 27)]) (fun φ40 => [(φ23 0), (φ23 0)]) s trivial (fun φ40 => by kernel_rfl) ?_
              intro φ40 w40 s
              refine call_rule (some 118) s (spDepth_c (i := i) ht27) (by kernel_rfl) ?_
              intro v41 I41 w41 le41 h41 s
              replace hT := Tab.mono le41 hT
              replace h14_0 := ERep.mono le41 h14_0
              replace hle26 := leMono le41 hle26
              replace ht27 := ERep.mono le41 ht27
              obtain rfl := h41
              refine ops_rule (C := []) [((φ23 0), .cells #[.int .u64 ((tb : Nat) : Int), .pointer tp] 27)] [] 4 [] 0 (fun φ42 => [(6, .bool (((min i 16 : Nat) : Int) == (if ((16 : Nat) : Int) < ((dp % 19 : Nat) : Int) then ((16 : Nat) : Int) else ((dp % 19 : Nat) : Int)))), (121, .bool (((min i 16 : Nat) : Int) == (if ((16 : Nat) : Int) < ((dp % 19 : Nat) : Int) then ((16 : Nat) : Int) else ((dp % 19 : Nat) : Int)))), (120, .int .i64 (if ((16 : Nat) : Int) < ((dp % 19 : Nat) : Int) then ((16 : Nat) : Int) else ((dp % 19 : Nat) : Int))), (119, .int .i64 ((dp % 19 : Nat) : Int))]) (fun φ42 => [((φ23 0), .cells #[.int .u64 ((tb : Nat) : Int), .pointer tp] 27)]) (fun φ42 => []) s trivial (fun φ42 => by kernel_rfl) ?_
              intro φ42 w42 s
              rw [nat_min (a := (dp % 19)) (b := 16)]
              rw [nat_eql (a := (min i 16)) (b := (min (dp % 19) 16))]
              refine ops_done (by kernel_rfl) ?_
              refine wp_ret ?_
              refine ret_rule (C := []) [((φ23 0), .cells #[.int .u64 ((tb : Nat) : Int), .pointer tp] 27)] [] (.bool (decide ((min i 16) = (min (dp % 19) 16)))) [] [] s trivial (by kernel_rfl) ?_
              exact ⟨_, _, _, rfl, s, congrArg Value.bool (decide_eq_true (by have := of_decide_eq_false hc30; omega))⟩
          ·
            refine wp_seq ?_
            refine region_rule ?_
            refine ops_rule (C := []) [((φ23 0), .cells #[.int .u64 ((tb : Nat) : Int), .pointer tp] 27)] [] 1 [] 0 (fun φ43 => [(92, .bool (decide (((i : Nat) : Int) < ((dp % 19 : Nat) : Int))))]) (fun φ43 => [((φ23 0), .cells #[.int .u64 ((tb : Nat) : Int), .pointer tp] 27)]) (fun φ43 => []) s trivial (fun φ43 => by kernel_rfl) ?_
            intro φ43 w43 s
            rw [nat_lss (a := i) (b := (dp % 19))]
            refine ops_done (by kernel_rfl) ?_
            refine wp_seq ?_
            rcases Bool.eq_false_or_eq_true (decide (i < (dp % 19))) with hc44 | hc44
            ·
              rw [hc44]
              refine cond_true_rule (b := true) (by kernel_rfl) rfl ?_
              refine wp_skip ?_
              refine wp_seq ?_
              refine wp_block ?_
              refine wp_seq ?_
              refine region_rule ?_
              refine ops_rule (C := []) [((φ23 0), .cells #[.int .u64 ((tb : Nat) : Int), .pointer tp] 27)] [] 2 [] 0 (fun φ45 => [(15, .int .i64 ((i : Nat) : Int)), (93, .int .i64 ((i : Nat) : Int))]) (fun φ45 => [((φ23 0), .cells #[.int .u64 ((tb : Nat) : Int), .pointer tp] 27)]) (fun φ45 => []) s trivial (fun φ45 => by kernel_rfl) ?_
              intro φ45 w45 s
              refine ops_done (by kernel_rfl) ?_
              refine wp_seq ?_
              refine region_rule ?_
              refine ops_rule (C := []) [((φ23 0), .cells #[.int .u64 ((tb : Nat) : Int), .pointer tp] 27)] [] 2 [.o 0, .o 0] 0 (fun φ46 => [(96, .agg #[.int .u64 0, .pointer none]), (95, .agg #[.int .u64 ((tb : Nat) : Int), .pointer tp])]) (fun φ46 => [((φ23 0), .cells #[.int .u64 ((tb : Nat) : Int), .pointer tp] 27)]) (fun φ46 => [(φ23 0), (φ23 0)]) s trivial (fun φ46 => by kernel_rfl) ?_
              intro φ46 w46 s
              refine call_rule (some 97) s (spNo_c (of_decide_eq_false hc28) ht27) (by kernel_rfl) ?_
              intro v47 I47 w47 le47 h47 s
              replace hT := Tab.mono le47 hT
              replace h14_0 := ERep.mono le47 h14_0
              replace hle26 := leMono le47 hle26
              replace ht27 := ERep.mono le47 ht27
              obtain rfl := h47
              refine ops_rule (C := []) [((φ23 0), .cells #[.int .u64 ((tb : Nat) : Int), .pointer tp] 27)] [] 6 [.o 1, .o 1] 1 (fun φ48 => [(17, .int .i64 3), (16, .pointer (some ⟨(φ48 0), 0, none⟩)), (99, .int .i64 3), (98, .agg #[.int .u64 0, .pointer none]), (94, .tuple #[.agg #[.int .u64 0, .pointer none], .int .i64 3])]) (fun φ48 => [((φ23 0), .cells #[.int .u64 ((tb : Nat) : Int), .pointer tp] 27), ((φ48 0), .cells #[.int .u64 0, .pointer none] 27)]) (fun φ48 => [(φ48 0), (φ48 0)]) s trivial (fun φ48 => by kernel_rfl) ?_
              intro φ48 w48 s
              refine ops_done (by kernel_rfl) ?_
              refine wp_seq ?_
              refine wp_seq ?_
              refine region_rule ?_
              refine ops_rule (C := []) [((φ23 0), .cells #[.int .u64 ((tb : Nat) : Int), .pointer tp] 27), ((φ48 0), .cells #[.int .u64 0, .pointer none] 27)] [] 4 [] 0 (fun φ49 => [(103, .bool (decide (((i : Nat) : Int) < ((16 : Nat) : Int)))), (102, .int .i64 ((i : Nat) : Int)), (101, .bool false), (100, .int .i64 3)]) (fun φ49 => [((φ23 0), .cells #[.int .u64 ((tb : Nat) : Int), .pointer tp] 27), ((φ48 0), .cells #[.int .u64 0, .pointer none] 27)]) (fun φ49 => []) s trivial (fun φ49 => by kernel_rfl) ?_
              intro φ49 w49 s
              rw [nat_lss (a := i) (b := 16)]
              rw [hc28]
              refine ops_rule (C := []) [((φ23 0), .cells #[.int .u64 ((tb : Nat) : Int), .pointer tp] 27), ((φ48 0), .cells #[.int .u64 0, .pointer none] 27)] [] 9 [] 0 (fun φ50 => [(112, .bool false), (111, .bool false), (110, .bool false), (109, .int .i64 3), (108, .bool true), (107, .bool true), (106, .int .i64 3), (105, .bool false), (104, .bool false)]) (fun φ50 => [((φ23 0), .cells #[.int .u64 ((tb : Nat) : Int), .pointer tp] 27), ((φ48 0), .cells #[.int .u64 0, .pointer none] 27)]) (fun φ50 => []) s trivial (fun φ50 => by kernel_rfl) ?_
              intro φ50 w50 s
              refine ops_done (by kernel_rfl) ?_
              refine cond_false_rule (b := false) (by kernel_rfl) rfl ?_
              refine wp_skip ?_
              refine wp_seq ?_
              refine region_rule ?_
              refine ops_rule (C := []) [((φ23 0), .cells #[.int .u64 ((tb : Nat) : Int), .pointer tp] 27), ((φ48 0), .cells #[.int .u64 0, .pointer none] 27)] [] 2 [] 0 (fun φ51 => [(114, .bool false), (113, .int .i64 3)]) (fun φ51 => [((φ23 0), .cells #[.int .u64 ((tb : Nat) : Int), .pointer tp] 27), ((φ48 0), .cells #[.int .u64 0, .pointer none] 27)]) (fun φ51 => []) s trivial (fun φ51 => by kernel_rfl) ?_
              intro φ51 w51 s
              refine ops_done (by kernel_rfl) ?_
              refine cond_false_rule (b := false) (by kernel_rfl) rfl ?_
              refine wp_skip ?_
              refine region_rule ?_
              refine ops_rule (C := []) [((φ23 0), .cells #[.int .u64 ((tb : Nat) : Int), .pointer tp] 27), ((φ48 0), .cells #[.int .u64 0, .pointer none] 27)] [] 2 [] 0 (fun φ52 => [(91, .int .i64 (IntKind.wrap .i64 (((i : Nat) : Int) + ((1 : Nat) : Int)))), (116, .int .i64 (IntKind.wrap .i64 (((i : Nat) : Int) + ((1 : Nat) : Int))))]) (fun φ52 => [((φ23 0), .cells #[.int .u64 ((tb : Nat) : Int), .pointer tp] 27), ((φ48 0), .cells #[.int .u64 0, .pointer none] 27)]) (fun φ52 => []) s trivial (fun φ52 => by kernel_rfl) ?_
              intro φ52 w52 s
              rw [nat_addI (a := i) (b := 1) (by have hq0 := of_decide_eq_true hc5; have hq1 := of_decide_eq_true hc5; have hq2 := of_decide_eq_true hc12; have hq3 := of_decide_eq_true hc13; have hq4 := of_decide_eq_true hc12; have hq5 := of_decide_eq_true hc13; have hq6 := of_decide_eq_false hc21; have hq7 := of_decide_eq_false hc28; have hq8 := of_decide_eq_true hc44; have hq9 := of_decide_eq_false hc28; omega)]
              refine ops_done (by kernel_rfl) ?_
              have hk9 := of_decide_eq_true hc44
              exact ⟨⟨m - 1, (i + 1, tb, tp), _, _, _, by omega, rfl, s, (List.Sublist.cons₂ _ (List.Sublist.cons _ List.Sublist.slnil)), by kernel_rfl, hle26, by simp only; omega, (by rw [Nat.min_eq_right (by have := of_decide_eq_false hc28; omega)]; have h9 := ht27; rw [Nat.min_eq_right (by have := of_decide_eq_false hc28; omega)] at h9; exact h9)⟩⟩
            ·
              rw [hc44]
              refine cond_false_rule (b := false) (by kernel_rfl) rfl ?_
              refine wp_exit ?_
              refine wp_seq ?_
              refine region_rule ?_
              refine ops_rule (C := []) [((φ23 0), .cells #[.int .u64 ((tb : Nat) : Int), .pointer tp] 27)] [] 1 [.o 0, .o 0] 0 (fun φ53 => [(117, .agg #[.int .u64 ((tb : Nat) : Int), .pointer tp])]) (fun φ53 => [((φ23 0), .cells #[.int .u64 ((tb : Nat) : Int), .pointer tp] 27)]) (fun φ53 => [(φ23 0), (φ23 0)]) s trivial (fun φ53 => by kernel_rfl) ?_
              intro φ53 w53 s
              refine call_rule (some 118) s (spDepth_c (i := i) ht27) (by kernel_rfl) ?_
              intro v54 I54 w54 le54 h54 s
              replace hT := Tab.mono le54 hT
              replace h14_0 := ERep.mono le54 h14_0
              replace hle26 := leMono le54 hle26
              replace ht27 := ERep.mono le54 ht27
              obtain rfl := h54
              refine ops_rule (C := []) [((φ23 0), .cells #[.int .u64 ((tb : Nat) : Int), .pointer tp] 27)] [] 4 [] 0 (fun φ55 => [(6, .bool (((min i 16 : Nat) : Int) == (if ((16 : Nat) : Int) < ((dp % 19 : Nat) : Int) then ((16 : Nat) : Int) else ((dp % 19 : Nat) : Int)))), (121, .bool (((min i 16 : Nat) : Int) == (if ((16 : Nat) : Int) < ((dp % 19 : Nat) : Int) then ((16 : Nat) : Int) else ((dp % 19 : Nat) : Int)))), (120, .int .i64 (if ((16 : Nat) : Int) < ((dp % 19 : Nat) : Int) then ((16 : Nat) : Int) else ((dp % 19 : Nat) : Int))), (119, .int .i64 ((dp % 19 : Nat) : Int))]) (fun φ55 => [((φ23 0), .cells #[.int .u64 ((tb : Nat) : Int), .pointer tp] 27)]) (fun φ55 => []) s trivial (fun φ55 => by kernel_rfl) ?_
              intro φ55 w55 s
              rw [nat_min (a := (dp % 19)) (b := 16)]
              rw [nat_eql (a := (min i 16)) (b := (min (dp % 19) 16))]
              refine ops_done (by kernel_rfl) ?_
              refine wp_ret ?_
              refine ret_rule (C := []) [((φ23 0), .cells #[.int .u64 ((tb : Nat) : Int), .pointer tp] 27)] [] (.bool (decide ((min i 16) = (min (dp % 19) 16)))) [] [] s trivial (by kernel_rfl) ?_
              exact ⟨_, _, _, rfl, s, congrArg Value.bool (decide_eq_true (by have := of_decide_eq_false hc44; omega))⟩
      ·
        refine call_rule (some 49) s (nodeOver_c (n := base) (a := n) (of_decide_eq_true hc5) (by have hq0 := of_decide_eq_true hc5; have hq1 := of_decide_eq_true hc5; have hq2 := of_decide_eq_true hc12; have hq3 := of_decide_eq_false hc13; omega)) (by kernel_rfl) ?_
        intro v56 I56 w56 le56 h56 s
        replace hT := Tab.mono le56 hT
        obtain rfl := h56
        refine ops_rule (C := []) [((φ7 0), .cells #[.int .u64 ((n : Nat) : Int), .pointer none] 27)] [] 6 [.o 1, .o 1] 1 (fun φ57 => [(10, .int .i64 4), (9, .pointer (some ⟨(φ57 0), 0, none⟩)), (51, .int .i64 4), (50, .agg #[.int .u64 0, .pointer none]), (45, .tuple #[.agg #[.int .u64 0, .pointer none], .int .i64 4])]) (fun φ57 => [((φ7 0), .cells #[.int .u64 ((n : Nat) : Int), .pointer none] 27), ((φ57 0), .cells #[.int .u64 0, .pointer none] 27)]) (fun φ57 => [(φ57 0), (φ57 0)]) s trivial (fun φ57 => by kernel_rfl) ?_
        intro φ57 w57 s
        refine ops_done (by kernel_rfl) ?_
        refine wp_seq ?_
        refine region_rule ?_
        refine ops_rule (C := []) [((φ7 0), .cells #[.int .u64 ((n : Nat) : Int), .pointer none] 27), ((φ57 0), .cells #[.int .u64 0, .pointer none] 27)] [] 3 [] 0 (fun φ58 => [(54, .bool (decide (((base : Nat) : Int) ≤ ((1048576 : Nat) : Int)))), (53, .bool (decide (((base : Nat) : Int) ≤ ((1048576 : Nat) : Int)))), (52, .int .u64 ((base : Nat) : Int))]) (fun φ58 => [((φ7 0), .cells #[.int .u64 ((n : Nat) : Int), .pointer none] 27), ((φ57 0), .cells #[.int .u64 0, .pointer none] 27)]) (fun φ58 => []) s trivial (fun φ58 => by kernel_rfl) ?_
        intro φ58 w58 s
        rw [nat_leq (a := base) (b := 1048576)]
        rw [hc12]
        refine ops_rule (C := []) [((φ7 0), .cells #[.int .u64 ((n : Nat) : Int), .pointer none] 27), ((φ57 0), .cells #[.int .u64 0, .pointer none] 27)] [] 6 [] 0 (fun φ59 => [(11, .bool (decide ((IntKind.wrap .u64 (((base : Nat) : Int) + ((n : Nat) : Int))) ≤ ((1048576 : Nat) : Int)))), (59, .bool (decide ((IntKind.wrap .u64 (((base : Nat) : Int) + ((n : Nat) : Int))) ≤ ((1048576 : Nat) : Int)))), (58, .bool (decide ((IntKind.wrap .u64 (((base : Nat) : Int) + ((n : Nat) : Int))) ≤ ((1048576 : Nat) : Int)))), (57, .int .u64 (IntKind.wrap .u64 (((base : Nat) : Int) + ((n : Nat) : Int)))), (56, .int .u64 ((n : Nat) : Int)), (55, .int .u64 ((base : Nat) : Int))]) (fun φ59 => [((φ7 0), .cells #[.int .u64 ((n : Nat) : Int), .pointer none] 27), ((φ57 0), .cells #[.int .u64 0, .pointer none] 27)]) (fun φ59 => []) s trivial (fun φ59 => by kernel_rfl) ?_
        intro φ59 w59 s
        rw [nat_addU (a := base) (b := n) (by have hq0 := of_decide_eq_true hc5; have hq1 := of_decide_eq_true hc5; have hq2 := of_decide_eq_true hc12; have hq3 := of_decide_eq_false hc13; have hq4 := of_decide_eq_true hc12; omega)]
        rw [nat_leq (a := (base + n)) (b := 1048576)]
        rw [hc13]
        refine ops_done (by kernel_rfl) ?_
        refine wp_seq ?_
        refine region_rule ?_
        refine ops_rule (C := []) [((φ7 0), .cells #[.int .u64 ((n : Nat) : Int), .pointer none] 27), ((φ57 0), .cells #[.int .u64 0, .pointer none] 27)] [] 23 [] 0 (fun φ60 => [(82, .bool false), (81, .bool false), (80, undef), (79, undef), (78, undef), (77, undef), (76, undef), (75, undef), (74, .bool false), (73, .bool false), (72, .bool false), (71, .bool false), (70, .bool false), (69, .bool false), (68, .int .i64 4), (67, .bool true), (66, .bool true), (65, .bool false), (64, .bool false), (63, .bool false), (62, .bool false), (61, .bool false), (60, .int .i64 4)]) (fun φ60 => [((φ7 0), .cells #[.int .u64 ((n : Nat) : Int), .pointer none] 27), ((φ57 0), .cells #[.int .u64 0, .pointer none] 27)]) (fun φ60 => []) s trivial (fun φ60 => by kernel_rfl) ?_
        intro φ60 w60 s
        refine ops_done (by kernel_rfl) ?_
        refine cond_false_rule (b := false) (by kernel_rfl) rfl ?_
        refine wp_skip ?_
        refine wp_seq ?_
        refine region_rule ?_
        refine call_rule (some 84) s (leafOk_c (n := 1) (by omega)) (by kernel_rfl) ?_
        intro v61 I61 w61 le61 h61 s
        replace hT := Tab.mono le61 hT
        obtain rfl := h61
        refine ops_rule (C := []) [((φ7 0), .cells #[.int .u64 ((n : Nat) : Int), .pointer none] 27), ((φ57 0), .cells #[.int .u64 0, .pointer none] 27)] [] 6 [.o 2, .o 2] 1 (fun φ62 => [(13, .int .i64 0), (12, .pointer (some ⟨(φ62 0), 0, none⟩)), (86, .int .i64 0), (85, .agg #[.int .u64 1, .pointer none]), (83, .tuple #[.agg #[.int .u64 1, .pointer none], .int .i64 0])]) (fun φ62 => [((φ7 0), .cells #[.int .u64 ((n : Nat) : Int), .pointer none] 27), ((φ57 0), .cells #[.int .u64 0, .pointer none] 27), ((φ62 0), .cells #[.int .u64 1, .pointer none] 27)]) (fun φ62 => [(φ62 0), (φ62 0)]) s trivial (fun φ62 => by kernel_rfl) ?_
        intro φ62 w62 s
        refine ops_done (by kernel_rfl) ?_
        refine wp_seq ?_
        refine region_rule ?_
        refine ops_rule (C := []) [((φ7 0), .cells #[.int .u64 ((n : Nat) : Int), .pointer none] 27), ((φ57 0), .cells #[.int .u64 0, .pointer none] 27), ((φ62 0), .cells #[.int .u64 1, .pointer none] 27)] [] 4 [] 0 (fun φ63 => [(14, .int .i64 (IntKind.wrap .i64 (Int.tmod ((dp : Nat) : Int) ((19 : Nat) : Int)))), (89, .int .i64 (IntKind.wrap .i64 (Int.tmod ((dp : Nat) : Int) ((19 : Nat) : Int)))), (88, .int .u8 (Int.tmod ((dp : Nat) : Int) ((19 : Nat) : Int))), (87, .int .u8 ((dp : Nat) : Int))]) (fun φ63 => [((φ7 0), .cells #[.int .u64 ((n : Nat) : Int), .pointer none] 27), ((φ57 0), .cells #[.int .u64 0, .pointer none] 27), ((φ62 0), .cells #[.int .u64 1, .pointer none] 27)]) (fun φ63 => []) s trivial (fun φ63 => by kernel_rfl) ?_
        intro φ63 w63 s
        rw [nat_rem (a := dp) (b := 19)]
        rw [nat_wrapI (a := (dp % 19)) (by have hq0 := of_decide_eq_true hc5; have hq1 := of_decide_eq_true hc5; have hq2 := of_decide_eq_true hc12; have hq3 := of_decide_eq_false hc13; have hq4 := of_decide_eq_true hc12; have hq5 := of_decide_eq_false hc13; omega)]
        refine ops_done (by kernel_rfl) ?_
        refine wp_seq ?_
        refine wp_seq ?_
        refine region_rule ?_
        refine ops_rule (C := []) [((φ7 0), .cells #[.int .u64 ((n : Nat) : Int), .pointer none] 27), ((φ57 0), .cells #[.int .u64 0, .pointer none] 27), ((φ62 0), .cells #[.int .u64 1, .pointer none] 27)] [] 2 [] 0 (fun φ64 => [(91, .int .i64 0), (90, .int .i64 ((dp % 19 : Nat) : Int))]) (fun φ64 => [((φ7 0), .cells #[.int .u64 ((n : Nat) : Int), .pointer none] 27), ((φ57 0), .cells #[.int .u64 0, .pointer none] 27), ((φ62 0), .cells #[.int .u64 1, .pointer none] 27)]) (fun φ64 => []) s trivial (fun φ64 => by kernel_rfl) ?_
        intro φ64 w64 s
        refine ops_done (by kernel_rfl) ?_
        refine wp_block ?_
        have hle65 := IM.Le.refl I61
        refine loop_rule (fun (x : Nat × Nat × Option Addr) => [(12, .pointer (some ⟨(φ62 0), 0, none⟩)), (14, .int .i64 ((dp % 19 : Nat) : Int)), (90, .int .i64 ((dp % 19 : Nat) : Int)), (91, .int .i64 ((x.1 : Nat) : Int))]) (fun (x : Nat × Nat × Option Addr) => [((φ62 0), .cells #[.int .u64 ((x.2.1 : Nat) : Int), .pointer x.2.2] 27)]) (fun m (x : Nat × Nat × Option Addr) J => IM.Le I61 J ∧ x.1 + m = dp % 19 ∧ ERep J (spE (min x.1 16)) x.2.1 x.2.2) (dp % 19) (0, 1, none) s (by kernel_rfl) (List.Sublist.cons _ (List.Sublist.cons _ (List.Sublist.cons₂ _ List.Sublist.slnil))) ⟨IM.Le.refl _, Nat.zero_add _, ⟨rfl, rfl⟩⟩ ?_
        rintro m ⟨i, tb, tp⟩ I66 w66 evj s ⟨le66, hm, ht66⟩
        dsimp only at s hm ht66 ⊢
        replace hT := Tab.mono le66 hT
        replace hle65 := leMono le66 hle65
        rcases Bool.eq_false_or_eq_true (decide (i < 16)) with hc67 | hc67
        ·
          refine wp_seq ?_
          refine region_rule ?_
          refine ops_rule (C := []) [((φ62 0), .cells #[.int .u64 ((tb : Nat) : Int), .pointer tp] 27)] [] 1 [] 0 (fun φ68 => [(92, .bool (decide (((i : Nat) : Int) < ((dp % 19 : Nat) : Int))))]) (fun φ68 => [((φ62 0), .cells #[.int .u64 ((tb : Nat) : Int), .pointer tp] 27)]) (fun φ68 => []) s trivial (fun φ68 => by kernel_rfl) ?_
          intro φ68 w68 s
          rw [nat_lss (a := i) (b := (dp % 19))]
          refine ops_done (by kernel_rfl) ?_
          refine wp_seq ?_
          rcases Bool.eq_false_or_eq_true (decide (i < (dp % 19))) with hc69 | hc69
          ·
            rw [hc69]
            refine cond_true_rule (b := true) (by kernel_rfl) rfl ?_
            refine wp_skip ?_
            refine wp_seq ?_
            refine wp_block ?_
            refine wp_seq ?_
            refine region_rule ?_
            refine ops_rule (C := []) [((φ62 0), .cells #[.int .u64 ((tb : Nat) : Int), .pointer tp] 27)] [] 2 [] 0 (fun φ70 => [(15, .int .i64 ((i : Nat) : Int)), (93, .int .i64 ((i : Nat) : Int))]) (fun φ70 => [((φ62 0), .cells #[.int .u64 ((tb : Nat) : Int), .pointer tp] 27)]) (fun φ70 => []) s trivial (fun φ70 => by kernel_rfl) ?_
            intro φ70 w70 s
            refine ops_done (by kernel_rfl) ?_
            refine wp_seq ?_
            refine region_rule ?_
            refine ops_rule (C := []) [((φ62 0), .cells #[.int .u64 ((tb : Nat) : Int), .pointer tp] 27)] [] 2 [.o 0, .o 0] 0 (fun φ71 => [(96, .agg #[.int .u64 0, .pointer none]), (95, .agg #[.int .u64 ((tb : Nat) : Int), .pointer tp])]) (fun φ71 => [((φ62 0), .cells #[.int .u64 ((tb : Nat) : Int), .pointer tp] 27)]) (fun φ71 => [(φ62 0), (φ62 0)]) s trivial (fun φ71 => by kernel_rfl) ?_
            intro φ71 w71 s
            refine call_rule (some 97) s (spUp_c (of_decide_eq_true hc67) ht66) (by kernel_rfl) ?_
            intro v72 I72 w72 le72 h72 s
            replace hT := Tab.mono le72 hT
            replace hle65 := leMono le72 hle65
            replace ht66 := ERep.mono le72 ht66
            obtain ⟨b72, p72, rfl, h72_0⟩ := h72
            refine ops_rule (C := []) [((φ62 0), .cells #[.int .u64 ((tb : Nat) : Int), .pointer tp] 27)] [] 6 [.o 1, .o 1] 1 (fun φ73 => [(17, .int .i64 0), (16, .pointer (some ⟨(φ73 0), 0, none⟩)), (99, .int .i64 0), (98, .agg #[.int .u64 ((b72 : Nat) : Int), .pointer p72]), (94, .tuple #[.agg #[.int .u64 ((b72 : Nat) : Int), .pointer p72], .int .i64 0])]) (fun φ73 => [((φ62 0), .cells #[.int .u64 ((tb : Nat) : Int), .pointer tp] 27), ((φ73 0), .cells #[.int .u64 ((b72 : Nat) : Int), .pointer p72] 27)]) (fun φ73 => [(φ73 0), (φ73 0)]) s trivial (fun φ73 => by kernel_rfl) ?_
            intro φ73 w73 s
            refine ops_done (by kernel_rfl) ?_
            refine wp_seq ?_
            refine wp_seq ?_
            refine region_rule ?_
            refine ops_rule (C := []) [((φ62 0), .cells #[.int .u64 ((tb : Nat) : Int), .pointer tp] 27), ((φ73 0), .cells #[.int .u64 ((b72 : Nat) : Int), .pointer p72] 27)] [] 4 [] 0 (fun φ74 => [(103, .bool (decide (((i : Nat) : Int) < ((16 : Nat) : Int)))), (102, .int .i64 ((i : Nat) : Int)), (101, .bool true), (100, .int .i64 0)]) (fun φ74 => [((φ62 0), .cells #[.int .u64 ((tb : Nat) : Int), .pointer tp] 27), ((φ73 0), .cells #[.int .u64 ((b72 : Nat) : Int), .pointer p72] 27)]) (fun φ74 => []) s trivial (fun φ74 => by kernel_rfl) ?_
            intro φ74 w74 s
            rw [nat_lss (a := i) (b := 16)]
            rw [hc67]
            refine ops_rule (C := []) [((φ62 0), .cells #[.int .u64 ((tb : Nat) : Int), .pointer tp] 27), ((φ73 0), .cells #[.int .u64 ((b72 : Nat) : Int), .pointer p72] 27)] [] 9 [] 0 (fun φ75 => [(112, .bool false), (111, .bool false), (110, undef), (109, undef), (108, .bool false), (107, .bool false), (106, .int .i64 0), (105, .bool false), (104, .bool false)]) (fun φ75 => [((φ62 0), .cells #[.int .u64 ((tb : Nat) : Int), .pointer tp] 27), ((φ73 0), .cells #[.int .u64 ((b72 : Nat) : Int), .pointer p72] 27)]) (fun φ75 => []) s trivial (fun φ75 => by kernel_rfl) ?_
            intro φ75 w75 s
            refine ops_done (by kernel_rfl) ?_
            refine cond_false_rule (b := false) (by kernel_rfl) rfl ?_
            refine wp_skip ?_
            refine wp_seq ?_
            refine region_rule ?_
            refine ops_rule (C := []) [((φ62 0), .cells #[.int .u64 ((tb : Nat) : Int), .pointer tp] 27), ((φ73 0), .cells #[.int .u64 ((b72 : Nat) : Int), .pointer p72] 27)] [] 2 [] 0 (fun φ76 => [(114, .bool true), (113, .int .i64 0)]) (fun φ76 => [((φ62 0), .cells #[.int .u64 ((tb : Nat) : Int), .pointer tp] 27), ((φ73 0), .cells #[.int .u64 ((b72 : Nat) : Int), .pointer p72] 27)]) (fun φ76 => []) s trivial (fun φ76 => by kernel_rfl) ?_
            intro φ76 w76 s
            refine ops_done (by kernel_rfl) ?_
            refine cond_true_rule (b := true) (by kernel_rfl) rfl ?_
            refine region_rule ?_
            refine ops_rule (C := []) [((φ62 0), .cells #[.int .u64 ((tb : Nat) : Int), .pointer tp] 27), ((φ73 0), .cells #[.int .u64 ((b72 : Nat) : Int), .pointer p72] 27)] [] 2 [.o 1, .o 1, .o 0, .o 0] 0 (fun φ77 => [(115, .agg #[.int .u64 ((b72 : Nat) : Int), .pointer p72])]) (fun φ77 => [((φ62 0), .cells #[.int .u64 ((b72 : Nat) : Int), .pointer p72] 27), ((φ73 0), .cells #[.int .u64 ((b72 : Nat) : Int), .pointer p72] 27)]) (fun φ77 => [(φ73 0), (φ73 0), (φ62 0), (φ62 0)]) s trivial (fun φ77 => by kernel_rfl) ?_
            intro φ77 w77 s
            refine ops_done (by kernel_rfl) ?_
            refine region_rule ?_
            refine ops_rule (C := []) [((φ62 0), .cells #[.int .u64 ((b72 : Nat) : Int), .pointer p72] 27), ((φ73 0), .cells #[.int .u64 ((b72 : Nat) : Int), .pointer p72] 27)] [] 2 [] 0 (fun φ78 => [(91, .int .i64 (IntKind.wrap .i64 (((i : Nat) : Int) + ((1 : Nat) : Int)))), (116, .int .i64 (IntKind.wrap .i64 (((i : Nat) : Int) + ((1 : Nat) : Int))))]) (fun φ78 => [((φ62 0), .cells #[.int .u64 ((b72 : Nat) : Int), .pointer p72] 27), ((φ73 0), .cells #[.int .u64 ((b72 : Nat) : Int), .pointer p72] 27)]) (fun φ78 => []) s trivial (fun φ78 => by kernel_rfl) ?_
            intro φ78 w78 s
            rw [nat_addI (a := i) (b := 1) (by have hq0 := of_decide_eq_true hc5; have hq1 := of_decide_eq_true hc5; have hq2 := of_decide_eq_true hc12; have hq3 := of_decide_eq_false hc13; have hq4 := of_decide_eq_true hc12; have hq5 := of_decide_eq_false hc13; have hq6 := of_decide_eq_true hc67; have hq7 := of_decide_eq_true hc69; have hq8 := of_decide_eq_true hc67; omega)]
            refine ops_done (by kernel_rfl) ?_
            have hk9 := of_decide_eq_true hc69
            exact ⟨⟨m - 1, (i + 1, b72, p72), _, _, _, by omega, rfl, s, (List.Sublist.cons₂ _ (List.Sublist.cons _ List.Sublist.slnil)), by kernel_rfl, hle65, by simp only; omega, h72_0⟩⟩
          ·
            rw [hc69]
            refine cond_false_rule (b := false) (by kernel_rfl) rfl ?_
            refine wp_exit ?_
            refine wp_seq ?_
            refine region_rule ?_
            refine ops_rule (C := []) [((φ62 0), .cells #[.int .u64 ((tb : Nat) : Int), .pointer tp] 27)] [] 1 [.o 0, .o 0] 0 (fun φ79 => [(117, .agg #[.int .u64 ((tb : Nat) : Int), .pointer tp])]) (fun φ79 => [((φ62 0), .cells #[.int .u64 ((tb : Nat) : Int), .pointer tp] 27)]) (fun φ79 => [(φ62 0), (φ62 0)]) s trivial (fun φ79 => by kernel_rfl) ?_
            intro φ79 w79 s
            refine call_rule (some 118) s (spDepth_c (i := i) ht66) (by kernel_rfl) ?_
            intro v80 I80 w80 le80 h80 s
            replace hT := Tab.mono le80 hT
            replace hle65 := leMono le80 hle65
            replace ht66 := ERep.mono le80 ht66
            obtain rfl := h80
            refine ops_rule (C := []) [((φ62 0), .cells #[.int .u64 ((tb : Nat) : Int), .pointer tp] 27)] [] 4 [] 0 (fun φ81 => [(6, .bool (((min i 16 : Nat) : Int) == (if ((16 : Nat) : Int) < ((dp % 19 : Nat) : Int) then ((16 : Nat) : Int) else ((dp % 19 : Nat) : Int)))), (121, .bool (((min i 16 : Nat) : Int) == (if ((16 : Nat) : Int) < ((dp % 19 : Nat) : Int) then ((16 : Nat) : Int) else ((dp % 19 : Nat) : Int)))), (120, .int .i64 (if ((16 : Nat) : Int) < ((dp % 19 : Nat) : Int) then ((16 : Nat) : Int) else ((dp % 19 : Nat) : Int))), (119, .int .i64 ((dp % 19 : Nat) : Int))]) (fun φ81 => [((φ62 0), .cells #[.int .u64 ((tb : Nat) : Int), .pointer tp] 27)]) (fun φ81 => []) s trivial (fun φ81 => by kernel_rfl) ?_
            intro φ81 w81 s
            rw [nat_min (a := (dp % 19)) (b := 16)]
            rw [nat_eql (a := (min i 16)) (b := (min (dp % 19) 16))]
            refine ops_done (by kernel_rfl) ?_
            refine wp_ret ?_
            refine ret_rule (C := []) [((φ62 0), .cells #[.int .u64 ((tb : Nat) : Int), .pointer tp] 27)] [] (.bool (decide ((min i 16) = (min (dp % 19) 16)))) [] [] s trivial (by kernel_rfl) ?_
            exact ⟨_, _, _, rfl, s, congrArg Value.bool (decide_eq_true (by have := of_decide_eq_false hc69; omega))⟩
        ·
          refine wp_seq ?_
          refine region_rule ?_
          refine ops_rule (C := []) [((φ62 0), .cells #[.int .u64 ((tb : Nat) : Int), .pointer tp] 27)] [] 1 [] 0 (fun φ82 => [(92, .bool (decide (((i : Nat) : Int) < ((dp % 19 : Nat) : Int))))]) (fun φ82 => [((φ62 0), .cells #[.int .u64 ((tb : Nat) : Int), .pointer tp] 27)]) (fun φ82 => []) s trivial (fun φ82 => by kernel_rfl) ?_
          intro φ82 w82 s
          rw [nat_lss (a := i) (b := (dp % 19))]
          refine ops_done (by kernel_rfl) ?_
          refine wp_seq ?_
          rcases Bool.eq_false_or_eq_true (decide (i < (dp % 19))) with hc83 | hc83
          ·
            rw [hc83]
            refine cond_true_rule (b := true) (by kernel_rfl) rfl ?_
            refine wp_skip ?_
            refine wp_seq ?_
            refine wp_block ?_
            refine wp_seq ?_
            refine region_rule ?_
            refine ops_rule (C := []) [((φ62 0), .cells #[.int .u64 ((tb : Nat) : Int), .pointer tp] 27)] [] 2 [] 0 (fun φ84 => [(15, .int .i64 ((i : Nat) : Int)), (93, .int .i64 ((i : Nat) : Int))]) (fun φ84 => [((φ62 0), .cells #[.int .u64 ((tb : Nat) : Int), .pointer tp] 27)]) (fun φ84 => []) s trivial (fun φ84 => by kernel_rfl) ?_
            intro φ84 w84 s
            refine ops_done (by kernel_rfl) ?_
            refine wp_seq ?_
            refine region_rule ?_
            refine ops_rule (C := []) [((φ62 0), .cells #[.int .u64 ((tb : Nat) : Int), .pointer tp] 27)] [] 2 [.o 0, .o 0] 0 (fun φ85 => [(96, .agg #[.int .u64 0, .pointer none]), (95, .agg #[.int .u64 ((tb : Nat) : Int), .pointer tp])]) (fun φ85 => [((φ62 0), .cells #[.int .u64 ((tb : Nat) : Int), .pointer tp] 27)]) (fun φ85 => [(φ62 0), (φ62 0)]) s trivial (fun φ85 => by kernel_rfl) ?_
            intro φ85 w85 s
            refine call_rule (some 97) s (spNo_c (of_decide_eq_false hc67) ht66) (by kernel_rfl) ?_
            intro v86 I86 w86 le86 h86 s
            replace hT := Tab.mono le86 hT
            replace hle65 := leMono le86 hle65
            replace ht66 := ERep.mono le86 ht66
            obtain rfl := h86
            refine ops_rule (C := []) [((φ62 0), .cells #[.int .u64 ((tb : Nat) : Int), .pointer tp] 27)] [] 6 [.o 1, .o 1] 1 (fun φ87 => [(17, .int .i64 3), (16, .pointer (some ⟨(φ87 0), 0, none⟩)), (99, .int .i64 3), (98, .agg #[.int .u64 0, .pointer none]), (94, .tuple #[.agg #[.int .u64 0, .pointer none], .int .i64 3])]) (fun φ87 => [((φ62 0), .cells #[.int .u64 ((tb : Nat) : Int), .pointer tp] 27), ((φ87 0), .cells #[.int .u64 0, .pointer none] 27)]) (fun φ87 => [(φ87 0), (φ87 0)]) s trivial (fun φ87 => by kernel_rfl) ?_
            intro φ87 w87 s
            refine ops_done (by kernel_rfl) ?_
            refine wp_seq ?_
            refine wp_seq ?_
            refine region_rule ?_
            refine ops_rule (C := []) [((φ62 0), .cells #[.int .u64 ((tb : Nat) : Int), .pointer tp] 27), ((φ87 0), .cells #[.int .u64 0, .pointer none] 27)] [] 4 [] 0 (fun φ88 => [(103, .bool (decide (((i : Nat) : Int) < ((16 : Nat) : Int)))), (102, .int .i64 ((i : Nat) : Int)), (101, .bool false), (100, .int .i64 3)]) (fun φ88 => [((φ62 0), .cells #[.int .u64 ((tb : Nat) : Int), .pointer tp] 27), ((φ87 0), .cells #[.int .u64 0, .pointer none] 27)]) (fun φ88 => []) s trivial (fun φ88 => by kernel_rfl) ?_
            intro φ88 w88 s
            rw [nat_lss (a := i) (b := 16)]
            rw [hc67]
            refine ops_rule (C := []) [((φ62 0), .cells #[.int .u64 ((tb : Nat) : Int), .pointer tp] 27), ((φ87 0), .cells #[.int .u64 0, .pointer none] 27)] [] 9 [] 0 (fun φ89 => [(112, .bool false), (111, .bool false), (110, .bool false), (109, .int .i64 3), (108, .bool true), (107, .bool true), (106, .int .i64 3), (105, .bool false), (104, .bool false)]) (fun φ89 => [((φ62 0), .cells #[.int .u64 ((tb : Nat) : Int), .pointer tp] 27), ((φ87 0), .cells #[.int .u64 0, .pointer none] 27)]) (fun φ89 => []) s trivial (fun φ89 => by kernel_rfl) ?_
            intro φ89 w89 s
            refine ops_done (by kernel_rfl) ?_
            refine cond_false_rule (b := false) (by kernel_rfl) rfl ?_
            refine wp_skip ?_
            refine wp_seq ?_
            refine region_rule ?_
            refine ops_rule (C := []) [((φ62 0), .cells #[.int .u64 ((tb : Nat) : Int), .pointer tp] 27), ((φ87 0), .cells #[.int .u64 0, .pointer none] 27)] [] 2 [] 0 (fun φ90 => [(114, .bool false), (113, .int .i64 3)]) (fun φ90 => [((φ62 0), .cells #[.int .u64 ((tb : Nat) : Int), .pointer tp] 27), ((φ87 0), .cells #[.int .u64 0, .pointer none] 27)]) (fun φ90 => []) s trivial (fun φ90 => by kernel_rfl) ?_
            intro φ90 w90 s
            refine ops_done (by kernel_rfl) ?_
            refine cond_false_rule (b := false) (by kernel_rfl) rfl ?_
            refine wp_skip ?_
            refine region_rule ?_
            refine ops_rule (C := []) [((φ62 0), .cells #[.int .u64 ((tb : Nat) : Int), .pointer tp] 27), ((φ87 0), .cells #[.int .u64 0, .pointer none] 27)] [] 2 [] 0 (fun φ91 => [(91, .int .i64 (IntKind.wrap .i64 (((i : Nat) : Int) + ((1 : Nat) : Int)))), (116, .int .i64 (IntKind.wrap .i64 (((i : Nat) : Int) + ((1 : Nat) : Int))))]) (fun φ91 => [((φ62 0), .cells #[.int .u64 ((tb : Nat) : Int), .pointer tp] 27), ((φ87 0), .cells #[.int .u64 0, .pointer none] 27)]) (fun φ91 => []) s trivial (fun φ91 => by kernel_rfl) ?_
            intro φ91 w91 s
            rw [nat_addI (a := i) (b := 1) (by have hq0 := of_decide_eq_true hc5; have hq1 := of_decide_eq_true hc5; have hq2 := of_decide_eq_true hc12; have hq3 := of_decide_eq_false hc13; have hq4 := of_decide_eq_true hc12; have hq5 := of_decide_eq_false hc13; have hq6 := of_decide_eq_false hc67; have hq7 := of_decide_eq_true hc83; have hq8 := of_decide_eq_false hc67; omega)]
            refine ops_done (by kernel_rfl) ?_
            have hk9 := of_decide_eq_true hc83
            exact ⟨⟨m - 1, (i + 1, tb, tp), _, _, _, by omega, rfl, s, (List.Sublist.cons₂ _ (List.Sublist.cons _ List.Sublist.slnil)), by kernel_rfl, hle65, by simp only; omega, (by rw [Nat.min_eq_right (by have := of_decide_eq_false hc67; omega)]; have h9 := ht66; rw [Nat.min_eq_right (by have := of_decide_eq_false hc67; omega)] at h9; exact h9)⟩⟩
          ·
            rw [hc83]
            refine cond_false_rule (b := false) (by kernel_rfl) rfl ?_
            refine wp_exit ?_
            refine wp_seq ?_
            refine region_rule ?_
            refine ops_rule (C := []) [((φ62 0), .cells #[.int .u64 ((tb : Nat) : Int), .pointer tp] 27)] [] 1 [.o 0, .o 0] 0 (fun φ92 => [(117, .agg #[.int .u64 ((tb : Nat) : Int), .pointer tp])]) (fun φ92 => [((φ62 0), .cells #[.int .u64 ((tb : Nat) : Int), .pointer tp] 27)]) (fun φ92 => [(φ62 0), (φ62 0)]) s trivial (fun φ92 => by kernel_rfl) ?_
            intro φ92 w92 s
            refine call_rule (some 118) s (spDepth_c (i := i) ht66) (by kernel_rfl) ?_
            intro v93 I93 w93 le93 h93 s
            replace hT := Tab.mono le93 hT
            replace hle65 := leMono le93 hle65
            replace ht66 := ERep.mono le93 ht66
            obtain rfl := h93
            refine ops_rule (C := []) [((φ62 0), .cells #[.int .u64 ((tb : Nat) : Int), .pointer tp] 27)] [] 4 [] 0 (fun φ94 => [(6, .bool (((min i 16 : Nat) : Int) == (if ((16 : Nat) : Int) < ((dp % 19 : Nat) : Int) then ((16 : Nat) : Int) else ((dp % 19 : Nat) : Int)))), (121, .bool (((min i 16 : Nat) : Int) == (if ((16 : Nat) : Int) < ((dp % 19 : Nat) : Int) then ((16 : Nat) : Int) else ((dp % 19 : Nat) : Int)))), (120, .int .i64 (if ((16 : Nat) : Int) < ((dp % 19 : Nat) : Int) then ((16 : Nat) : Int) else ((dp % 19 : Nat) : Int))), (119, .int .i64 ((dp % 19 : Nat) : Int))]) (fun φ94 => [((φ62 0), .cells #[.int .u64 ((tb : Nat) : Int), .pointer tp] 27)]) (fun φ94 => []) s trivial (fun φ94 => by kernel_rfl) ?_
            intro φ94 w94 s
            rw [nat_min (a := (dp % 19)) (b := 16)]
            rw [nat_eql (a := (min i 16)) (b := (min (dp % 19) 16))]
            refine ops_done (by kernel_rfl) ?_
            refine wp_ret ?_
            refine ret_rule (C := []) [((φ62 0), .cells #[.int .u64 ((tb : Nat) : Int), .pointer tp] 27)] [] (.bool (decide ((min i 16) = (min (dp % 19) 16)))) [] [] s trivial (by kernel_rfl) ?_
            exact ⟨_, _, _, rfl, s, congrArg Value.bool (decide_eq_true (by have := of_decide_eq_false hc83; omega))⟩
    ·
      refine call_rule (some 49) s (nodeOver_c (n := base) (a := n) (of_decide_eq_true hc5) (by have hq0 := of_decide_eq_true hc5; have hq1 := of_decide_eq_true hc5; have hq2 := of_decide_eq_false hc12; omega)) (by kernel_rfl) ?_
      intro v95 I95 w95 le95 h95 s
      replace hT := Tab.mono le95 hT
      obtain rfl := h95
      refine ops_rule (C := []) [((φ7 0), .cells #[.int .u64 ((n : Nat) : Int), .pointer none] 27)] [] 6 [.o 1, .o 1] 1 (fun φ96 => [(10, .int .i64 4), (9, .pointer (some ⟨(φ96 0), 0, none⟩)), (51, .int .i64 4), (50, .agg #[.int .u64 0, .pointer none]), (45, .tuple #[.agg #[.int .u64 0, .pointer none], .int .i64 4])]) (fun φ96 => [((φ7 0), .cells #[.int .u64 ((n : Nat) : Int), .pointer none] 27), ((φ96 0), .cells #[.int .u64 0, .pointer none] 27)]) (fun φ96 => [(φ96 0), (φ96 0)]) s trivial (fun φ96 => by kernel_rfl) ?_
      intro φ96 w96 s
      refine ops_done (by kernel_rfl) ?_
      refine wp_seq ?_
      refine region_rule ?_
      refine ops_rule (C := []) [((φ7 0), .cells #[.int .u64 ((n : Nat) : Int), .pointer none] 27), ((φ96 0), .cells #[.int .u64 0, .pointer none] 27)] [] 3 [] 0 (fun φ97 => [(54, .bool (decide (((base : Nat) : Int) ≤ ((1048576 : Nat) : Int)))), (53, .bool (decide (((base : Nat) : Int) ≤ ((1048576 : Nat) : Int)))), (52, .int .u64 ((base : Nat) : Int))]) (fun φ97 => [((φ7 0), .cells #[.int .u64 ((n : Nat) : Int), .pointer none] 27), ((φ96 0), .cells #[.int .u64 0, .pointer none] 27)]) (fun φ97 => []) s trivial (fun φ97 => by kernel_rfl) ?_
      intro φ97 w97 s
      rw [nat_leq (a := base) (b := 1048576)]
      rw [hc12]
      refine ops_rule (C := []) [((φ7 0), .cells #[.int .u64 ((n : Nat) : Int), .pointer none] 27), ((φ96 0), .cells #[.int .u64 0, .pointer none] 27)] [] 6 [] 0 (fun φ98 => [(11, .bool false), (59, .bool false), (58, undef), (57, undef), (56, undef), (55, undef)]) (fun φ98 => [((φ7 0), .cells #[.int .u64 ((n : Nat) : Int), .pointer none] 27), ((φ96 0), .cells #[.int .u64 0, .pointer none] 27)]) (fun φ98 => []) s trivial (fun φ98 => by kernel_rfl) ?_
      intro φ98 w98 s
      refine ops_done (by kernel_rfl) ?_
      refine wp_seq ?_
      refine region_rule ?_
      refine ops_rule (C := []) [((φ7 0), .cells #[.int .u64 ((n : Nat) : Int), .pointer none] 27), ((φ96 0), .cells #[.int .u64 0, .pointer none] 27)] [] 23 [] 0 (fun φ99 => [(82, .bool false), (81, .bool false), (80, undef), (79, undef), (78, undef), (77, undef), (76, undef), (75, undef), (74, .bool false), (73, .bool false), (72, .bool false), (71, .bool false), (70, .bool false), (69, .bool false), (68, .int .i64 4), (67, .bool true), (66, .bool true), (65, .bool false), (64, .bool false), (63, .bool false), (62, .bool false), (61, .bool false), (60, .int .i64 4)]) (fun φ99 => [((φ7 0), .cells #[.int .u64 ((n : Nat) : Int), .pointer none] 27), ((φ96 0), .cells #[.int .u64 0, .pointer none] 27)]) (fun φ99 => []) s trivial (fun φ99 => by kernel_rfl) ?_
      intro φ99 w99 s
      refine ops_done (by kernel_rfl) ?_
      refine cond_false_rule (b := false) (by kernel_rfl) rfl ?_
      refine wp_skip ?_
      refine wp_seq ?_
      refine region_rule ?_
      refine call_rule (some 84) s (leafOk_c (n := 1) (by omega)) (by kernel_rfl) ?_
      intro v100 I100 w100 le100 h100 s
      replace hT := Tab.mono le100 hT
      obtain rfl := h100
      refine ops_rule (C := []) [((φ7 0), .cells #[.int .u64 ((n : Nat) : Int), .pointer none] 27), ((φ96 0), .cells #[.int .u64 0, .pointer none] 27)] [] 6 [.o 2, .o 2] 1 (fun φ101 => [(13, .int .i64 0), (12, .pointer (some ⟨(φ101 0), 0, none⟩)), (86, .int .i64 0), (85, .agg #[.int .u64 1, .pointer none]), (83, .tuple #[.agg #[.int .u64 1, .pointer none], .int .i64 0])]) (fun φ101 => [((φ7 0), .cells #[.int .u64 ((n : Nat) : Int), .pointer none] 27), ((φ96 0), .cells #[.int .u64 0, .pointer none] 27), ((φ101 0), .cells #[.int .u64 1, .pointer none] 27)]) (fun φ101 => [(φ101 0), (φ101 0)]) s trivial (fun φ101 => by kernel_rfl) ?_
      intro φ101 w101 s
      refine ops_done (by kernel_rfl) ?_
      refine wp_seq ?_
      refine region_rule ?_
      refine ops_rule (C := []) [((φ7 0), .cells #[.int .u64 ((n : Nat) : Int), .pointer none] 27), ((φ96 0), .cells #[.int .u64 0, .pointer none] 27), ((φ101 0), .cells #[.int .u64 1, .pointer none] 27)] [] 4 [] 0 (fun φ102 => [(14, .int .i64 (IntKind.wrap .i64 (Int.tmod ((dp : Nat) : Int) ((19 : Nat) : Int)))), (89, .int .i64 (IntKind.wrap .i64 (Int.tmod ((dp : Nat) : Int) ((19 : Nat) : Int)))), (88, .int .u8 (Int.tmod ((dp : Nat) : Int) ((19 : Nat) : Int))), (87, .int .u8 ((dp : Nat) : Int))]) (fun φ102 => [((φ7 0), .cells #[.int .u64 ((n : Nat) : Int), .pointer none] 27), ((φ96 0), .cells #[.int .u64 0, .pointer none] 27), ((φ101 0), .cells #[.int .u64 1, .pointer none] 27)]) (fun φ102 => []) s trivial (fun φ102 => by kernel_rfl) ?_
      intro φ102 w102 s
      rw [nat_rem (a := dp) (b := 19)]
      rw [nat_wrapI (a := (dp % 19)) (by have hq0 := of_decide_eq_true hc5; have hq1 := of_decide_eq_true hc5; have hq2 := of_decide_eq_false hc12; have hq3 := of_decide_eq_false hc12; omega)]
      refine ops_done (by kernel_rfl) ?_
      refine wp_seq ?_
      refine wp_seq ?_
      refine region_rule ?_
      refine ops_rule (C := []) [((φ7 0), .cells #[.int .u64 ((n : Nat) : Int), .pointer none] 27), ((φ96 0), .cells #[.int .u64 0, .pointer none] 27), ((φ101 0), .cells #[.int .u64 1, .pointer none] 27)] [] 2 [] 0 (fun φ103 => [(91, .int .i64 0), (90, .int .i64 ((dp % 19 : Nat) : Int))]) (fun φ103 => [((φ7 0), .cells #[.int .u64 ((n : Nat) : Int), .pointer none] 27), ((φ96 0), .cells #[.int .u64 0, .pointer none] 27), ((φ101 0), .cells #[.int .u64 1, .pointer none] 27)]) (fun φ103 => []) s trivial (fun φ103 => by kernel_rfl) ?_
      intro φ103 w103 s
      refine ops_done (by kernel_rfl) ?_
      refine wp_block ?_
      have hle104 := IM.Le.refl I100
      refine loop_rule (fun (x : Nat × Nat × Option Addr) => [(12, .pointer (some ⟨(φ101 0), 0, none⟩)), (14, .int .i64 ((dp % 19 : Nat) : Int)), (90, .int .i64 ((dp % 19 : Nat) : Int)), (91, .int .i64 ((x.1 : Nat) : Int))]) (fun (x : Nat × Nat × Option Addr) => [((φ101 0), .cells #[.int .u64 ((x.2.1 : Nat) : Int), .pointer x.2.2] 27)]) (fun m (x : Nat × Nat × Option Addr) J => IM.Le I100 J ∧ x.1 + m = dp % 19 ∧ ERep J (spE (min x.1 16)) x.2.1 x.2.2) (dp % 19) (0, 1, none) s (by kernel_rfl) (List.Sublist.cons _ (List.Sublist.cons _ (List.Sublist.cons₂ _ List.Sublist.slnil))) ⟨IM.Le.refl _, Nat.zero_add _, ⟨rfl, rfl⟩⟩ ?_
      rintro m ⟨i, tb, tp⟩ I105 w105 evj s ⟨le105, hm, ht105⟩
      dsimp only at s hm ht105 ⊢
      replace hT := Tab.mono le105 hT
      replace hle104 := leMono le105 hle104
      rcases Bool.eq_false_or_eq_true (decide (i < 16)) with hc106 | hc106
      ·
        refine wp_seq ?_
        refine region_rule ?_
        refine ops_rule (C := []) [((φ101 0), .cells #[.int .u64 ((tb : Nat) : Int), .pointer tp] 27)] [] 1 [] 0 (fun φ107 => [(92, .bool (decide (((i : Nat) : Int) < ((dp % 19 : Nat) : Int))))]) (fun φ107 => [((φ101 0), .cells #[.int .u64 ((tb : Nat) : Int), .pointer tp] 27)]) (fun φ107 => []) s trivial (fun φ107 => by kernel_rfl) ?_
        intro φ107 w107 s
        rw [nat_lss (a := i) (b := (dp % 19))]
        refine ops_done (by kernel_rfl) ?_
        refine wp_seq ?_
        rcases Bool.eq_false_or_eq_true (decide (i < (dp % 19))) with hc108 | hc108
        ·
          rw [hc108]
          refine cond_true_rule (b := true) (by kernel_rfl) rfl ?_
          refine wp_skip ?_
          refine wp_seq ?_
          refine wp_block ?_
          refine wp_seq ?_
          refine region_rule ?_
          refine ops_rule (C := []) [((φ101 0), .cells #[.int .u64 ((tb : Nat) : Int), .pointer tp] 27)] [] 2 [] 0 (fun φ109 => [(15, .int .i64 ((i : Nat) : Int)), (93, .int .i64 ((i : Nat) : Int))]) (fun φ109 => [((φ101 0), .cells #[.int .u64 ((tb : Nat) : Int), .pointer tp] 27)]) (fun φ109 => []) s trivial (fun φ109 => by kernel_rfl) ?_
          intro φ109 w109 s
          refine ops_done (by kernel_rfl) ?_
          refine wp_seq ?_
          refine region_rule ?_
          refine ops_rule (C := []) [((φ101 0), .cells #[.int .u64 ((tb : Nat) : Int), .pointer tp] 27)] [] 2 [.o 0, .o 0] 0 (fun φ110 => [(96, .agg #[.int .u64 0, .pointer none]), (95, .agg #[.int .u64 ((tb : Nat) : Int), .pointer tp])]) (fun φ110 => [((φ101 0), .cells #[.int .u64 ((tb : Nat) : Int), .pointer tp] 27)]) (fun φ110 => [(φ101 0), (φ101 0)]) s trivial (fun φ110 => by kernel_rfl) ?_
          intro φ110 w110 s
          refine call_rule (some 97) s (spUp_c (of_decide_eq_true hc106) ht105) (by kernel_rfl) ?_
          intro v111 I111 w111 le111 h111 s
          replace hT := Tab.mono le111 hT
          replace hle104 := leMono le111 hle104
          replace ht105 := ERep.mono le111 ht105
          obtain ⟨b111, p111, rfl, h111_0⟩ := h111
          refine ops_rule (C := []) [((φ101 0), .cells #[.int .u64 ((tb : Nat) : Int), .pointer tp] 27)] [] 6 [.o 1, .o 1] 1 (fun φ112 => [(17, .int .i64 0), (16, .pointer (some ⟨(φ112 0), 0, none⟩)), (99, .int .i64 0), (98, .agg #[.int .u64 ((b111 : Nat) : Int), .pointer p111]), (94, .tuple #[.agg #[.int .u64 ((b111 : Nat) : Int), .pointer p111], .int .i64 0])]) (fun φ112 => [((φ101 0), .cells #[.int .u64 ((tb : Nat) : Int), .pointer tp] 27), ((φ112 0), .cells #[.int .u64 ((b111 : Nat) : Int), .pointer p111] 27)]) (fun φ112 => [(φ112 0), (φ112 0)]) s trivial (fun φ112 => by kernel_rfl) ?_
          intro φ112 w112 s
          refine ops_done (by kernel_rfl) ?_
          refine wp_seq ?_
          refine wp_seq ?_
          refine region_rule ?_
          refine ops_rule (C := []) [((φ101 0), .cells #[.int .u64 ((tb : Nat) : Int), .pointer tp] 27), ((φ112 0), .cells #[.int .u64 ((b111 : Nat) : Int), .pointer p111] 27)] [] 4 [] 0 (fun φ113 => [(103, .bool (decide (((i : Nat) : Int) < ((16 : Nat) : Int)))), (102, .int .i64 ((i : Nat) : Int)), (101, .bool true), (100, .int .i64 0)]) (fun φ113 => [((φ101 0), .cells #[.int .u64 ((tb : Nat) : Int), .pointer tp] 27), ((φ112 0), .cells #[.int .u64 ((b111 : Nat) : Int), .pointer p111] 27)]) (fun φ113 => []) s trivial (fun φ113 => by kernel_rfl) ?_
          intro φ113 w113 s
          rw [nat_lss (a := i) (b := 16)]
          rw [hc106]
          refine ops_rule (C := []) [((φ101 0), .cells #[.int .u64 ((tb : Nat) : Int), .pointer tp] 27), ((φ112 0), .cells #[.int .u64 ((b111 : Nat) : Int), .pointer p111] 27)] [] 9 [] 0 (fun φ114 => [(112, .bool false), (111, .bool false), (110, undef), (109, undef), (108, .bool false), (107, .bool false), (106, .int .i64 0), (105, .bool false), (104, .bool false)]) (fun φ114 => [((φ101 0), .cells #[.int .u64 ((tb : Nat) : Int), .pointer tp] 27), ((φ112 0), .cells #[.int .u64 ((b111 : Nat) : Int), .pointer p111] 27)]) (fun φ114 => []) s trivial (fun φ114 => by kernel_rfl) ?_
          intro φ114 w114 s
          refine ops_done (by kernel_rfl) ?_
          refine cond_false_rule (b := false) (by kernel_rfl) rfl ?_
          refine wp_skip ?_
          refine wp_seq ?_
          refine region_rule ?_
          refine ops_rule (C := []) [((φ101 0), .cells #[.int .u64 ((tb : Nat) : Int), .pointer tp] 27), ((φ112 0), .cells #[.int .u64 ((b111 : Nat) : Int), .pointer p111] 27)] [] 2 [] 0 (fun φ115 => [(114, .bool true), (113, .int .i64 0)]) (fun φ115 => [((φ101 0), .cells #[.int .u64 ((tb : Nat) : Int), .pointer tp] 27), ((φ112 0), .cells #[.int .u64 ((b111 : Nat) : Int), .pointer p111] 27)]) (fun φ115 => []) s trivial (fun φ115 => by kernel_rfl) ?_
          intro φ115 w115 s
          refine ops_done (by kernel_rfl) ?_
          refine cond_true_rule (b := true) (by kernel_rfl) rfl ?_
          refine region_rule ?_
          refine ops_rule (C := []) [((φ101 0), .cells #[.int .u64 ((tb : Nat) : Int), .pointer tp] 27), ((φ112 0), .cells #[.int .u64 ((b111 : Nat) : Int), .pointer p111] 27)] [] 2 [.o 1, .o 1, .o 0, .o 0] 0 (fun φ116 => [(115, .agg #[.int .u64 ((b111 : Nat) : Int), .pointer p111])]) (fun φ116 => [((φ101 0), .cells #[.int .u64 ((b111 : Nat) : Int), .pointer p111] 27), ((φ112 0), .cells #[.int .u64 ((b111 : Nat) : Int), .pointer p111] 27)]) (fun φ116 => [(φ112 0), (φ112 0), (φ101 0), (φ101 0)]) s trivial (fun φ116 => by kernel_rfl) ?_
          intro φ116 w116 s
          refine ops_done (by kernel_rfl) ?_
          refine region_rule ?_
          refine ops_rule (C := []) [((φ101 0), .cells #[.int .u64 ((b111 : Nat) : Int), .pointer p111] 27), ((φ112 0), .cells #[.int .u64 ((b111 : Nat) : Int), .pointer p111] 27)] [] 2 [] 0 (fun φ117 => [(91, .int .i64 (IntKind.wrap .i64 (((i : Nat) : Int) + ((1 : Nat) : Int)))), (116, .int .i64 (IntKind.wrap .i64 (((i : Nat) : Int) + ((1 : Nat) : Int))))]) (fun φ117 => [((φ101 0), .cells #[.int .u64 ((b111 : Nat) : Int), .pointer p111] 27), ((φ112 0), .cells #[.int .u64 ((b111 : Nat) : Int), .pointer p111] 27)]) (fun φ117 => []) s trivial (fun φ117 => by kernel_rfl) ?_
          intro φ117 w117 s
          rw [nat_addI (a := i) (b := 1) (by have hq0 := of_decide_eq_true hc5; have hq1 := of_decide_eq_true hc5; have hq2 := of_decide_eq_false hc12; have hq3 := of_decide_eq_false hc12; have hq4 := of_decide_eq_true hc106; have hq5 := of_decide_eq_true hc108; have hq6 := of_decide_eq_true hc106; omega)]
          refine ops_done (by kernel_rfl) ?_
          have hk9 := of_decide_eq_true hc108
          exact ⟨⟨m - 1, (i + 1, b111, p111), _, _, _, by omega, rfl, s, (List.Sublist.cons₂ _ (List.Sublist.cons _ List.Sublist.slnil)), by kernel_rfl, hle104, by simp only; omega, h111_0⟩⟩
        ·
          rw [hc108]
          refine cond_false_rule (b := false) (by kernel_rfl) rfl ?_
          refine wp_exit ?_
          refine wp_seq ?_
          refine region_rule ?_
          refine ops_rule (C := []) [((φ101 0), .cells #[.int .u64 ((tb : Nat) : Int), .pointer tp] 27)] [] 1 [.o 0, .o 0] 0 (fun φ118 => [(117, .agg #[.int .u64 ((tb : Nat) : Int), .pointer tp])]) (fun φ118 => [((φ101 0), .cells #[.int .u64 ((tb : Nat) : Int), .pointer tp] 27)]) (fun φ118 => [(φ101 0), (φ101 0)]) s trivial (fun φ118 => by kernel_rfl) ?_
          intro φ118 w118 s
          refine call_rule (some 118) s (spDepth_c (i := i) ht105) (by kernel_rfl) ?_
          intro v119 I119 w119 le119 h119 s
          replace hT := Tab.mono le119 hT
          replace hle104 := leMono le119 hle104
          replace ht105 := ERep.mono le119 ht105
          obtain rfl := h119
          refine ops_rule (C := []) [((φ101 0), .cells #[.int .u64 ((tb : Nat) : Int), .pointer tp] 27)] [] 4 [] 0 (fun φ120 => [(6, .bool (((min i 16 : Nat) : Int) == (if ((16 : Nat) : Int) < ((dp % 19 : Nat) : Int) then ((16 : Nat) : Int) else ((dp % 19 : Nat) : Int)))), (121, .bool (((min i 16 : Nat) : Int) == (if ((16 : Nat) : Int) < ((dp % 19 : Nat) : Int) then ((16 : Nat) : Int) else ((dp % 19 : Nat) : Int)))), (120, .int .i64 (if ((16 : Nat) : Int) < ((dp % 19 : Nat) : Int) then ((16 : Nat) : Int) else ((dp % 19 : Nat) : Int))), (119, .int .i64 ((dp % 19 : Nat) : Int))]) (fun φ120 => [((φ101 0), .cells #[.int .u64 ((tb : Nat) : Int), .pointer tp] 27)]) (fun φ120 => []) s trivial (fun φ120 => by kernel_rfl) ?_
          intro φ120 w120 s
          rw [nat_min (a := (dp % 19)) (b := 16)]
          rw [nat_eql (a := (min i 16)) (b := (min (dp % 19) 16))]
          refine ops_done (by kernel_rfl) ?_
          refine wp_ret ?_
          refine ret_rule (C := []) [((φ101 0), .cells #[.int .u64 ((tb : Nat) : Int), .pointer tp] 27)] [] (.bool (decide ((min i 16) = (min (dp % 19) 16)))) [] [] s trivial (by kernel_rfl) ?_
          exact ⟨_, _, _, rfl, s, congrArg Value.bool (decide_eq_true (by have := of_decide_eq_false hc108; omega))⟩
      ·
        refine wp_seq ?_
        refine region_rule ?_
        refine ops_rule (C := []) [((φ101 0), .cells #[.int .u64 ((tb : Nat) : Int), .pointer tp] 27)] [] 1 [] 0 (fun φ121 => [(92, .bool (decide (((i : Nat) : Int) < ((dp % 19 : Nat) : Int))))]) (fun φ121 => [((φ101 0), .cells #[.int .u64 ((tb : Nat) : Int), .pointer tp] 27)]) (fun φ121 => []) s trivial (fun φ121 => by kernel_rfl) ?_
        intro φ121 w121 s
        rw [nat_lss (a := i) (b := (dp % 19))]
        refine ops_done (by kernel_rfl) ?_
        refine wp_seq ?_
        rcases Bool.eq_false_or_eq_true (decide (i < (dp % 19))) with hc122 | hc122
        ·
          rw [hc122]
          refine cond_true_rule (b := true) (by kernel_rfl) rfl ?_
          refine wp_skip ?_
          refine wp_seq ?_
          refine wp_block ?_
          refine wp_seq ?_
          refine region_rule ?_
          refine ops_rule (C := []) [((φ101 0), .cells #[.int .u64 ((tb : Nat) : Int), .pointer tp] 27)] [] 2 [] 0 (fun φ123 => [(15, .int .i64 ((i : Nat) : Int)), (93, .int .i64 ((i : Nat) : Int))]) (fun φ123 => [((φ101 0), .cells #[.int .u64 ((tb : Nat) : Int), .pointer tp] 27)]) (fun φ123 => []) s trivial (fun φ123 => by kernel_rfl) ?_
          intro φ123 w123 s
          refine ops_done (by kernel_rfl) ?_
          refine wp_seq ?_
          refine region_rule ?_
          refine ops_rule (C := []) [((φ101 0), .cells #[.int .u64 ((tb : Nat) : Int), .pointer tp] 27)] [] 2 [.o 0, .o 0] 0 (fun φ124 => [(96, .agg #[.int .u64 0, .pointer none]), (95, .agg #[.int .u64 ((tb : Nat) : Int), .pointer tp])]) (fun φ124 => [((φ101 0), .cells #[.int .u64 ((tb : Nat) : Int), .pointer tp] 27)]) (fun φ124 => [(φ101 0), (φ101 0)]) s trivial (fun φ124 => by kernel_rfl) ?_
          intro φ124 w124 s
          refine call_rule (some 97) s (spNo_c (of_decide_eq_false hc106) ht105) (by kernel_rfl) ?_
          intro v125 I125 w125 le125 h125 s
          replace hT := Tab.mono le125 hT
          replace hle104 := leMono le125 hle104
          replace ht105 := ERep.mono le125 ht105
          obtain rfl := h125
          refine ops_rule (C := []) [((φ101 0), .cells #[.int .u64 ((tb : Nat) : Int), .pointer tp] 27)] [] 6 [.o 1, .o 1] 1 (fun φ126 => [(17, .int .i64 3), (16, .pointer (some ⟨(φ126 0), 0, none⟩)), (99, .int .i64 3), (98, .agg #[.int .u64 0, .pointer none]), (94, .tuple #[.agg #[.int .u64 0, .pointer none], .int .i64 3])]) (fun φ126 => [((φ101 0), .cells #[.int .u64 ((tb : Nat) : Int), .pointer tp] 27), ((φ126 0), .cells #[.int .u64 0, .pointer none] 27)]) (fun φ126 => [(φ126 0), (φ126 0)]) s trivial (fun φ126 => by kernel_rfl) ?_
          intro φ126 w126 s
          refine ops_done (by kernel_rfl) ?_
          refine wp_seq ?_
          refine wp_seq ?_
          refine region_rule ?_
          refine ops_rule (C := []) [((φ101 0), .cells #[.int .u64 ((tb : Nat) : Int), .pointer tp] 27), ((φ126 0), .cells #[.int .u64 0, .pointer none] 27)] [] 4 [] 0 (fun φ127 => [(103, .bool (decide (((i : Nat) : Int) < ((16 : Nat) : Int)))), (102, .int .i64 ((i : Nat) : Int)), (101, .bool false), (100, .int .i64 3)]) (fun φ127 => [((φ101 0), .cells #[.int .u64 ((tb : Nat) : Int), .pointer tp] 27), ((φ126 0), .cells #[.int .u64 0, .pointer none] 27)]) (fun φ127 => []) s trivial (fun φ127 => by kernel_rfl) ?_
          intro φ127 w127 s
          rw [nat_lss (a := i) (b := 16)]
          rw [hc106]
          refine ops_rule (C := []) [((φ101 0), .cells #[.int .u64 ((tb : Nat) : Int), .pointer tp] 27), ((φ126 0), .cells #[.int .u64 0, .pointer none] 27)] [] 9 [] 0 (fun φ128 => [(112, .bool false), (111, .bool false), (110, .bool false), (109, .int .i64 3), (108, .bool true), (107, .bool true), (106, .int .i64 3), (105, .bool false), (104, .bool false)]) (fun φ128 => [((φ101 0), .cells #[.int .u64 ((tb : Nat) : Int), .pointer tp] 27), ((φ126 0), .cells #[.int .u64 0, .pointer none] 27)]) (fun φ128 => []) s trivial (fun φ128 => by kernel_rfl) ?_
          intro φ128 w128 s
          refine ops_done (by kernel_rfl) ?_
          refine cond_false_rule (b := false) (by kernel_rfl) rfl ?_
          refine wp_skip ?_
          refine wp_seq ?_
          refine region_rule ?_
          refine ops_rule (C := []) [((φ101 0), .cells #[.int .u64 ((tb : Nat) : Int), .pointer tp] 27), ((φ126 0), .cells #[.int .u64 0, .pointer none] 27)] [] 2 [] 0 (fun φ129 => [(114, .bool false), (113, .int .i64 3)]) (fun φ129 => [((φ101 0), .cells #[.int .u64 ((tb : Nat) : Int), .pointer tp] 27), ((φ126 0), .cells #[.int .u64 0, .pointer none] 27)]) (fun φ129 => []) s trivial (fun φ129 => by kernel_rfl) ?_
          intro φ129 w129 s
          refine ops_done (by kernel_rfl) ?_
          refine cond_false_rule (b := false) (by kernel_rfl) rfl ?_
          refine wp_skip ?_
          refine region_rule ?_
          refine ops_rule (C := []) [((φ101 0), .cells #[.int .u64 ((tb : Nat) : Int), .pointer tp] 27), ((φ126 0), .cells #[.int .u64 0, .pointer none] 27)] [] 2 [] 0 (fun φ130 => [(91, .int .i64 (IntKind.wrap .i64 (((i : Nat) : Int) + ((1 : Nat) : Int)))), (116, .int .i64 (IntKind.wrap .i64 (((i : Nat) : Int) + ((1 : Nat) : Int))))]) (fun φ130 => [((φ101 0), .cells #[.int .u64 ((tb : Nat) : Int), .pointer tp] 27), ((φ126 0), .cells #[.int .u64 0, .pointer none] 27)]) (fun φ130 => []) s trivial (fun φ130 => by kernel_rfl) ?_
          intro φ130 w130 s
          rw [nat_addI (a := i) (b := 1) (by have hq0 := of_decide_eq_true hc5; have hq1 := of_decide_eq_true hc5; have hq2 := of_decide_eq_false hc12; have hq3 := of_decide_eq_false hc12; have hq4 := of_decide_eq_false hc106; have hq5 := of_decide_eq_true hc122; have hq6 := of_decide_eq_false hc106; omega)]
          refine ops_done (by kernel_rfl) ?_
          have hk9 := of_decide_eq_true hc122
          exact ⟨⟨m - 1, (i + 1, tb, tp), _, _, _, by omega, rfl, s, (List.Sublist.cons₂ _ (List.Sublist.cons _ List.Sublist.slnil)), by kernel_rfl, hle104, by simp only; omega, (by rw [Nat.min_eq_right (by have := of_decide_eq_false hc106; omega)]; have h9 := ht105; rw [Nat.min_eq_right (by have := of_decide_eq_false hc106; omega)] at h9; exact h9)⟩⟩
        ·
          rw [hc122]
          refine cond_false_rule (b := false) (by kernel_rfl) rfl ?_
          refine wp_exit ?_
          refine wp_seq ?_
          refine region_rule ?_
          refine ops_rule (C := []) [((φ101 0), .cells #[.int .u64 ((tb : Nat) : Int), .pointer tp] 27)] [] 1 [.o 0, .o 0] 0 (fun φ131 => [(117, .agg #[.int .u64 ((tb : Nat) : Int), .pointer tp])]) (fun φ131 => [((φ101 0), .cells #[.int .u64 ((tb : Nat) : Int), .pointer tp] 27)]) (fun φ131 => [(φ101 0), (φ101 0)]) s trivial (fun φ131 => by kernel_rfl) ?_
          intro φ131 w131 s
          refine call_rule (some 118) s (spDepth_c (i := i) ht105) (by kernel_rfl) ?_
          intro v132 I132 w132 le132 h132 s
          replace hT := Tab.mono le132 hT
          replace hle104 := leMono le132 hle104
          replace ht105 := ERep.mono le132 ht105
          obtain rfl := h132
          refine ops_rule (C := []) [((φ101 0), .cells #[.int .u64 ((tb : Nat) : Int), .pointer tp] 27)] [] 4 [] 0 (fun φ133 => [(6, .bool (((min i 16 : Nat) : Int) == (if ((16 : Nat) : Int) < ((dp % 19 : Nat) : Int) then ((16 : Nat) : Int) else ((dp % 19 : Nat) : Int)))), (121, .bool (((min i 16 : Nat) : Int) == (if ((16 : Nat) : Int) < ((dp % 19 : Nat) : Int) then ((16 : Nat) : Int) else ((dp % 19 : Nat) : Int)))), (120, .int .i64 (if ((16 : Nat) : Int) < ((dp % 19 : Nat) : Int) then ((16 : Nat) : Int) else ((dp % 19 : Nat) : Int))), (119, .int .i64 ((dp % 19 : Nat) : Int))]) (fun φ133 => [((φ101 0), .cells #[.int .u64 ((tb : Nat) : Int), .pointer tp] 27)]) (fun φ133 => []) s trivial (fun φ133 => by kernel_rfl) ?_
          intro φ133 w133 s
          rw [nat_min (a := (dp % 19)) (b := 16)]
          rw [nat_eql (a := (min i 16)) (b := (min (dp % 19) 16))]
          refine ops_done (by kernel_rfl) ?_
          refine wp_ret ?_
          refine ret_rule (C := []) [((φ101 0), .cells #[.int .u64 ((tb : Nat) : Int), .pointer tp] 27)] [] (.bool (decide ((min i 16) = (min (dp % 19) 16)))) [] [] s trivial (by kernel_rfl) ?_
          exact ⟨_, _, _, rfl, s, congrArg Value.bool (decide_eq_true (by have := of_decide_eq_false hc122; omega))⟩
  ·
    refine call_rule (some 22) s (leafNo_c (n := n) (by have := of_decide_eq_false hc5; omega)) (by kernel_rfl) ?_
    intro v134 I134 w134 le134 h134 s
    replace hT := Tab.mono le134 hT
    obtain rfl := h134
    refine ops_rule (C := []) [] [] 6 [.o 0, .o 0] 1 (fun φ135 => [(8, .int .i64 4), (7, .pointer (some ⟨(φ135 0), 0, none⟩)), (24, .int .i64 4), (23, .agg #[.int .u64 0, .pointer none]), (20, .tuple #[.agg #[.int .u64 0, .pointer none], .int .i64 4])]) (fun φ135 => [((φ135 0), .cells #[.int .u64 0, .pointer none] 27)]) (fun φ135 => [(φ135 0), (φ135 0)]) s trivial (fun φ135 => by kernel_rfl) ?_
    intro φ135 w135 s
    refine ops_done (by kernel_rfl) ?_
    refine wp_seq ?_
    refine wp_seq ?_
    refine region_rule ?_
    refine ops_rule (C := []) [((φ135 0), .cells #[.int .u64 0, .pointer none] 27)] [] 4 [] 0 (fun φ136 => [(28, .bool (decide (((n : Nat) : Int) ≤ ((1048576 : Nat) : Int)))), (27, .int .u64 ((n : Nat) : Int)), (26, .bool false), (25, .int .i64 4)]) (fun φ136 => [((φ135 0), .cells #[.int .u64 0, .pointer none] 27)]) (fun φ136 => []) s trivial (fun φ136 => by kernel_rfl) ?_
    intro φ136 w136 s
    rw [nat_leq (a := n) (b := 1048576)]
    rw [hc5]
    refine ops_rule (C := []) [((φ135 0), .cells #[.int .u64 0, .pointer none] 27)] [] 9 [.o 0, .o 0] 0 (fun φ137 => [(37, .agg #[.int .u64 0, .pointer none]), (36, .bool false), (35, .bool false), (34, .int .i64 4), (33, .bool true), (32, .bool true), (31, .int .i64 4), (30, .bool false), (29, .bool false)]) (fun φ137 => [((φ135 0), .cells #[.int .u64 0, .pointer none] 27)]) (fun φ137 => [(φ135 0), (φ135 0)]) s trivial (fun φ137 => by kernel_rfl) ?_
    intro φ137 w137 s
    refine call_rule (some 38) s (textK_c (t := (E.leaf 0)) (l := [48]) (by kernel_rfl) hT (ERep.lf _ 0) (by decide) (by decide)) (by kernel_rfl) ?_
    intro v138 I138 w138 le138 h138 s
    replace hT := Tab.mono le138 hT
    obtain rfl := h138
    refine ops_rule (C := []) [((φ135 0), .cells #[.int .u64 0, .pointer none] 27)] [] 4 [] 0 (fun φ139 => [(42, .bool false), (41, .bool false), (40, .bool false), (39, .bool false)]) (fun φ139 => [((φ135 0), .cells #[.int .u64 0, .pointer none] 27)]) (fun φ139 => []) s trivial (fun φ139 => by kernel_rfl) ?_
    intro φ139 w139 s
    refine ops_done (by kernel_rfl) ?_
    refine cond_false_rule (b := false) (by kernel_rfl) rfl ?_
    refine wp_skip ?_
    refine wp_seq ?_
    refine wp_seq ?_
    refine region_rule ?_
    refine ops_rule (C := []) [((φ135 0), .cells #[.int .u64 0, .pointer none] 27)] [] 2 [] 0 (fun φ140 => [(44, .bool false), (43, .int .i64 4)]) (fun φ140 => [((φ135 0), .cells #[.int .u64 0, .pointer none] 27)]) (fun φ140 => []) s trivial (fun φ140 => by kernel_rfl) ?_
    intro φ140 w140 s
    refine ops_done (by kernel_rfl) ?_
    refine cond_false_rule (b := false) (by kernel_rfl) rfl ?_
    refine wp_skip ?_
    refine wp_seq ?_
    refine region_rule ?_
    refine call_rule (some 84) s (leafOk_c (n := 1) (by omega)) (by kernel_rfl) ?_
    intro v141 I141 w141 le141 h141 s
    replace hT := Tab.mono le141 hT
    obtain rfl := h141
    refine ops_rule (C := []) [((φ135 0), .cells #[.int .u64 0, .pointer none] 27)] [] 6 [.o 1, .o 1] 1 (fun φ142 => [(13, .int .i64 0), (12, .pointer (some ⟨(φ142 0), 0, none⟩)), (86, .int .i64 0), (85, .agg #[.int .u64 1, .pointer none]), (83, .tuple #[.agg #[.int .u64 1, .pointer none], .int .i64 0])]) (fun φ142 => [((φ135 0), .cells #[.int .u64 0, .pointer none] 27), ((φ142 0), .cells #[.int .u64 1, .pointer none] 27)]) (fun φ142 => [(φ142 0), (φ142 0)]) s trivial (fun φ142 => by kernel_rfl) ?_
    intro φ142 w142 s
    refine ops_done (by kernel_rfl) ?_
    refine wp_seq ?_
    refine region_rule ?_
    refine ops_rule (C := []) [((φ135 0), .cells #[.int .u64 0, .pointer none] 27), ((φ142 0), .cells #[.int .u64 1, .pointer none] 27)] [] 4 [] 0 (fun φ143 => [(14, .int .i64 (IntKind.wrap .i64 (Int.tmod ((dp : Nat) : Int) ((19 : Nat) : Int)))), (89, .int .i64 (IntKind.wrap .i64 (Int.tmod ((dp : Nat) : Int) ((19 : Nat) : Int)))), (88, .int .u8 (Int.tmod ((dp : Nat) : Int) ((19 : Nat) : Int))), (87, .int .u8 ((dp : Nat) : Int))]) (fun φ143 => [((φ135 0), .cells #[.int .u64 0, .pointer none] 27), ((φ142 0), .cells #[.int .u64 1, .pointer none] 27)]) (fun φ143 => []) s trivial (fun φ143 => by kernel_rfl) ?_
    intro φ143 w143 s
    rw [nat_rem (a := dp) (b := 19)]
    rw [nat_wrapI (a := (dp % 19)) (by have hq0 := of_decide_eq_false hc5; have hq1 := of_decide_eq_false hc5; omega)]
    refine ops_done (by kernel_rfl) ?_
    refine wp_seq ?_
    refine wp_seq ?_
    refine region_rule ?_
    refine ops_rule (C := []) [((φ135 0), .cells #[.int .u64 0, .pointer none] 27), ((φ142 0), .cells #[.int .u64 1, .pointer none] 27)] [] 2 [] 0 (fun φ144 => [(91, .int .i64 0), (90, .int .i64 ((dp % 19 : Nat) : Int))]) (fun φ144 => [((φ135 0), .cells #[.int .u64 0, .pointer none] 27), ((φ142 0), .cells #[.int .u64 1, .pointer none] 27)]) (fun φ144 => []) s trivial (fun φ144 => by kernel_rfl) ?_
    intro φ144 w144 s
    refine ops_done (by kernel_rfl) ?_
    refine wp_block ?_
    have hle145 := IM.Le.refl I141
    refine loop_rule (fun (x : Nat × Nat × Option Addr) => [(12, .pointer (some ⟨(φ142 0), 0, none⟩)), (14, .int .i64 ((dp % 19 : Nat) : Int)), (90, .int .i64 ((dp % 19 : Nat) : Int)), (91, .int .i64 ((x.1 : Nat) : Int))]) (fun (x : Nat × Nat × Option Addr) => [((φ142 0), .cells #[.int .u64 ((x.2.1 : Nat) : Int), .pointer x.2.2] 27)]) (fun m (x : Nat × Nat × Option Addr) J => IM.Le I141 J ∧ x.1 + m = dp % 19 ∧ ERep J (spE (min x.1 16)) x.2.1 x.2.2) (dp % 19) (0, 1, none) s (by kernel_rfl) (List.Sublist.cons _ (List.Sublist.cons₂ _ List.Sublist.slnil)) ⟨IM.Le.refl _, Nat.zero_add _, ⟨rfl, rfl⟩⟩ ?_
    rintro m ⟨i, tb, tp⟩ I146 w146 evj s ⟨le146, hm, ht146⟩
    dsimp only at s hm ht146 ⊢
    replace hT := Tab.mono le146 hT
    replace hle145 := leMono le146 hle145
    rcases Bool.eq_false_or_eq_true (decide (i < 16)) with hc147 | hc147
    ·
      refine wp_seq ?_
      refine region_rule ?_
      refine ops_rule (C := []) [((φ142 0), .cells #[.int .u64 ((tb : Nat) : Int), .pointer tp] 27)] [] 1 [] 0 (fun φ148 => [(92, .bool (decide (((i : Nat) : Int) < ((dp % 19 : Nat) : Int))))]) (fun φ148 => [((φ142 0), .cells #[.int .u64 ((tb : Nat) : Int), .pointer tp] 27)]) (fun φ148 => []) s trivial (fun φ148 => by kernel_rfl) ?_
      intro φ148 w148 s
      rw [nat_lss (a := i) (b := (dp % 19))]
      refine ops_done (by kernel_rfl) ?_
      refine wp_seq ?_
      rcases Bool.eq_false_or_eq_true (decide (i < (dp % 19))) with hc149 | hc149
      ·
        rw [hc149]
        refine cond_true_rule (b := true) (by kernel_rfl) rfl ?_
        refine wp_skip ?_
        refine wp_seq ?_
        refine wp_block ?_
        refine wp_seq ?_
        refine region_rule ?_
        refine ops_rule (C := []) [((φ142 0), .cells #[.int .u64 ((tb : Nat) : Int), .pointer tp] 27)] [] 2 [] 0 (fun φ150 => [(15, .int .i64 ((i : Nat) : Int)), (93, .int .i64 ((i : Nat) : Int))]) (fun φ150 => [((φ142 0), .cells #[.int .u64 ((tb : Nat) : Int), .pointer tp] 27)]) (fun φ150 => []) s trivial (fun φ150 => by kernel_rfl) ?_
        intro φ150 w150 s
        refine ops_done (by kernel_rfl) ?_
        refine wp_seq ?_
        refine region_rule ?_
        refine ops_rule (C := []) [((φ142 0), .cells #[.int .u64 ((tb : Nat) : Int), .pointer tp] 27)] [] 2 [.o 0, .o 0] 0 (fun φ151 => [(96, .agg #[.int .u64 0, .pointer none]), (95, .agg #[.int .u64 ((tb : Nat) : Int), .pointer tp])]) (fun φ151 => [((φ142 0), .cells #[.int .u64 ((tb : Nat) : Int), .pointer tp] 27)]) (fun φ151 => [(φ142 0), (φ142 0)]) s trivial (fun φ151 => by kernel_rfl) ?_
        intro φ151 w151 s
        refine call_rule (some 97) s (spUp_c (of_decide_eq_true hc147) ht146) (by kernel_rfl) ?_
        intro v152 I152 w152 le152 h152 s
        replace hT := Tab.mono le152 hT
        replace hle145 := leMono le152 hle145
        replace ht146 := ERep.mono le152 ht146
        obtain ⟨b152, p152, rfl, h152_0⟩ := h152
        refine ops_rule (C := []) [((φ142 0), .cells #[.int .u64 ((tb : Nat) : Int), .pointer tp] 27)] [] 6 [.o 1, .o 1] 1 (fun φ153 => [(17, .int .i64 0), (16, .pointer (some ⟨(φ153 0), 0, none⟩)), (99, .int .i64 0), (98, .agg #[.int .u64 ((b152 : Nat) : Int), .pointer p152]), (94, .tuple #[.agg #[.int .u64 ((b152 : Nat) : Int), .pointer p152], .int .i64 0])]) (fun φ153 => [((φ142 0), .cells #[.int .u64 ((tb : Nat) : Int), .pointer tp] 27), ((φ153 0), .cells #[.int .u64 ((b152 : Nat) : Int), .pointer p152] 27)]) (fun φ153 => [(φ153 0), (φ153 0)]) s trivial (fun φ153 => by kernel_rfl) ?_
        intro φ153 w153 s
        refine ops_done (by kernel_rfl) ?_
        refine wp_seq ?_
        refine wp_seq ?_
        refine region_rule ?_
        refine ops_rule (C := []) [((φ142 0), .cells #[.int .u64 ((tb : Nat) : Int), .pointer tp] 27), ((φ153 0), .cells #[.int .u64 ((b152 : Nat) : Int), .pointer p152] 27)] [] 4 [] 0 (fun φ154 => [(103, .bool (decide (((i : Nat) : Int) < ((16 : Nat) : Int)))), (102, .int .i64 ((i : Nat) : Int)), (101, .bool true), (100, .int .i64 0)]) (fun φ154 => [((φ142 0), .cells #[.int .u64 ((tb : Nat) : Int), .pointer tp] 27), ((φ153 0), .cells #[.int .u64 ((b152 : Nat) : Int), .pointer p152] 27)]) (fun φ154 => []) s trivial (fun φ154 => by kernel_rfl) ?_
        intro φ154 w154 s
        rw [nat_lss (a := i) (b := 16)]
        rw [hc147]
        refine ops_rule (C := []) [((φ142 0), .cells #[.int .u64 ((tb : Nat) : Int), .pointer tp] 27), ((φ153 0), .cells #[.int .u64 ((b152 : Nat) : Int), .pointer p152] 27)] [] 9 [] 0 (fun φ155 => [(112, .bool false), (111, .bool false), (110, undef), (109, undef), (108, .bool false), (107, .bool false), (106, .int .i64 0), (105, .bool false), (104, .bool false)]) (fun φ155 => [((φ142 0), .cells #[.int .u64 ((tb : Nat) : Int), .pointer tp] 27), ((φ153 0), .cells #[.int .u64 ((b152 : Nat) : Int), .pointer p152] 27)]) (fun φ155 => []) s trivial (fun φ155 => by kernel_rfl) ?_
        intro φ155 w155 s
        refine ops_done (by kernel_rfl) ?_
        refine cond_false_rule (b := false) (by kernel_rfl) rfl ?_
        refine wp_skip ?_
        refine wp_seq ?_
        refine region_rule ?_
        refine ops_rule (C := []) [((φ142 0), .cells #[.int .u64 ((tb : Nat) : Int), .pointer tp] 27), ((φ153 0), .cells #[.int .u64 ((b152 : Nat) : Int), .pointer p152] 27)] [] 2 [] 0 (fun φ156 => [(114, .bool true), (113, .int .i64 0)]) (fun φ156 => [((φ142 0), .cells #[.int .u64 ((tb : Nat) : Int), .pointer tp] 27), ((φ153 0), .cells #[.int .u64 ((b152 : Nat) : Int), .pointer p152] 27)]) (fun φ156 => []) s trivial (fun φ156 => by kernel_rfl) ?_
        intro φ156 w156 s
        refine ops_done (by kernel_rfl) ?_
        refine cond_true_rule (b := true) (by kernel_rfl) rfl ?_
        refine region_rule ?_
        refine ops_rule (C := []) [((φ142 0), .cells #[.int .u64 ((tb : Nat) : Int), .pointer tp] 27), ((φ153 0), .cells #[.int .u64 ((b152 : Nat) : Int), .pointer p152] 27)] [] 2 [.o 1, .o 1, .o 0, .o 0] 0 (fun φ157 => [(115, .agg #[.int .u64 ((b152 : Nat) : Int), .pointer p152])]) (fun φ157 => [((φ142 0), .cells #[.int .u64 ((b152 : Nat) : Int), .pointer p152] 27), ((φ153 0), .cells #[.int .u64 ((b152 : Nat) : Int), .pointer p152] 27)]) (fun φ157 => [(φ153 0), (φ153 0), (φ142 0), (φ142 0)]) s trivial (fun φ157 => by kernel_rfl) ?_
        intro φ157 w157 s
        refine ops_done (by kernel_rfl) ?_
        refine region_rule ?_
        refine ops_rule (C := []) [((φ142 0), .cells #[.int .u64 ((b152 : Nat) : Int), .pointer p152] 27), ((φ153 0), .cells #[.int .u64 ((b152 : Nat) : Int), .pointer p152] 27)] [] 2 [] 0 (fun φ158 => [(91, .int .i64 (IntKind.wrap .i64 (((i : Nat) : Int) + ((1 : Nat) : Int)))), (116, .int .i64 (IntKind.wrap .i64 (((i : Nat) : Int) + ((1 : Nat) : Int))))]) (fun φ158 => [((φ142 0), .cells #[.int .u64 ((b152 : Nat) : Int), .pointer p152] 27), ((φ153 0), .cells #[.int .u64 ((b152 : Nat) : Int), .pointer p152] 27)]) (fun φ158 => []) s trivial (fun φ158 => by kernel_rfl) ?_
        intro φ158 w158 s
        rw [nat_addI (a := i) (b := 1) (by have hq0 := of_decide_eq_false hc5; have hq1 := of_decide_eq_false hc5; have hq2 := of_decide_eq_true hc147; have hq3 := of_decide_eq_true hc149; have hq4 := of_decide_eq_true hc147; omega)]
        refine ops_done (by kernel_rfl) ?_
        have hk9 := of_decide_eq_true hc149
        exact ⟨⟨m - 1, (i + 1, b152, p152), _, _, _, by omega, rfl, s, (List.Sublist.cons₂ _ (List.Sublist.cons _ List.Sublist.slnil)), by kernel_rfl, hle145, by simp only; omega, h152_0⟩⟩
      ·
        rw [hc149]
        refine cond_false_rule (b := false) (by kernel_rfl) rfl ?_
        refine wp_exit ?_
        refine wp_seq ?_
        refine region_rule ?_
        refine ops_rule (C := []) [((φ142 0), .cells #[.int .u64 ((tb : Nat) : Int), .pointer tp] 27)] [] 1 [.o 0, .o 0] 0 (fun φ159 => [(117, .agg #[.int .u64 ((tb : Nat) : Int), .pointer tp])]) (fun φ159 => [((φ142 0), .cells #[.int .u64 ((tb : Nat) : Int), .pointer tp] 27)]) (fun φ159 => [(φ142 0), (φ142 0)]) s trivial (fun φ159 => by kernel_rfl) ?_
        intro φ159 w159 s
        refine call_rule (some 118) s (spDepth_c (i := i) ht146) (by kernel_rfl) ?_
        intro v160 I160 w160 le160 h160 s
        replace hT := Tab.mono le160 hT
        replace hle145 := leMono le160 hle145
        replace ht146 := ERep.mono le160 ht146
        obtain rfl := h160
        refine ops_rule (C := []) [((φ142 0), .cells #[.int .u64 ((tb : Nat) : Int), .pointer tp] 27)] [] 4 [] 0 (fun φ161 => [(6, .bool (((min i 16 : Nat) : Int) == (if ((16 : Nat) : Int) < ((dp % 19 : Nat) : Int) then ((16 : Nat) : Int) else ((dp % 19 : Nat) : Int)))), (121, .bool (((min i 16 : Nat) : Int) == (if ((16 : Nat) : Int) < ((dp % 19 : Nat) : Int) then ((16 : Nat) : Int) else ((dp % 19 : Nat) : Int)))), (120, .int .i64 (if ((16 : Nat) : Int) < ((dp % 19 : Nat) : Int) then ((16 : Nat) : Int) else ((dp % 19 : Nat) : Int))), (119, .int .i64 ((dp % 19 : Nat) : Int))]) (fun φ161 => [((φ142 0), .cells #[.int .u64 ((tb : Nat) : Int), .pointer tp] 27)]) (fun φ161 => []) s trivial (fun φ161 => by kernel_rfl) ?_
        intro φ161 w161 s
        rw [nat_min (a := (dp % 19)) (b := 16)]
        rw [nat_eql (a := (min i 16)) (b := (min (dp % 19) 16))]
        refine ops_done (by kernel_rfl) ?_
        refine wp_ret ?_
        refine ret_rule (C := []) [((φ142 0), .cells #[.int .u64 ((tb : Nat) : Int), .pointer tp] 27)] [] (.bool (decide ((min i 16) = (min (dp % 19) 16)))) [] [] s trivial (by kernel_rfl) ?_
        exact ⟨_, _, _, rfl, s, congrArg Value.bool (decide_eq_true (by have := of_decide_eq_false hc149; omega))⟩
    ·
      refine wp_seq ?_
      refine region_rule ?_
      refine ops_rule (C := []) [((φ142 0), .cells #[.int .u64 ((tb : Nat) : Int), .pointer tp] 27)] [] 1 [] 0 (fun φ162 => [(92, .bool (decide (((i : Nat) : Int) < ((dp % 19 : Nat) : Int))))]) (fun φ162 => [((φ142 0), .cells #[.int .u64 ((tb : Nat) : Int), .pointer tp] 27)]) (fun φ162 => []) s trivial (fun φ162 => by kernel_rfl) ?_
      intro φ162 w162 s
      rw [nat_lss (a := i) (b := (dp % 19))]
      refine ops_done (by kernel_rfl) ?_
      refine wp_seq ?_
      rcases Bool.eq_false_or_eq_true (decide (i < (dp % 19))) with hc163 | hc163
      ·
        rw [hc163]
        refine cond_true_rule (b := true) (by kernel_rfl) rfl ?_
        refine wp_skip ?_
        refine wp_seq ?_
        refine wp_block ?_
        refine wp_seq ?_
        refine region_rule ?_
        refine ops_rule (C := []) [((φ142 0), .cells #[.int .u64 ((tb : Nat) : Int), .pointer tp] 27)] [] 2 [] 0 (fun φ164 => [(15, .int .i64 ((i : Nat) : Int)), (93, .int .i64 ((i : Nat) : Int))]) (fun φ164 => [((φ142 0), .cells #[.int .u64 ((tb : Nat) : Int), .pointer tp] 27)]) (fun φ164 => []) s trivial (fun φ164 => by kernel_rfl) ?_
        intro φ164 w164 s
        refine ops_done (by kernel_rfl) ?_
        refine wp_seq ?_
        refine region_rule ?_
        refine ops_rule (C := []) [((φ142 0), .cells #[.int .u64 ((tb : Nat) : Int), .pointer tp] 27)] [] 2 [.o 0, .o 0] 0 (fun φ165 => [(96, .agg #[.int .u64 0, .pointer none]), (95, .agg #[.int .u64 ((tb : Nat) : Int), .pointer tp])]) (fun φ165 => [((φ142 0), .cells #[.int .u64 ((tb : Nat) : Int), .pointer tp] 27)]) (fun φ165 => [(φ142 0), (φ142 0)]) s trivial (fun φ165 => by kernel_rfl) ?_
        intro φ165 w165 s
        refine call_rule (some 97) s (spNo_c (of_decide_eq_false hc147) ht146) (by kernel_rfl) ?_
        intro v166 I166 w166 le166 h166 s
        replace hT := Tab.mono le166 hT
        replace hle145 := leMono le166 hle145
        replace ht146 := ERep.mono le166 ht146
        obtain rfl := h166
        refine ops_rule (C := []) [((φ142 0), .cells #[.int .u64 ((tb : Nat) : Int), .pointer tp] 27)] [] 6 [.o 1, .o 1] 1 (fun φ167 => [(17, .int .i64 3), (16, .pointer (some ⟨(φ167 0), 0, none⟩)), (99, .int .i64 3), (98, .agg #[.int .u64 0, .pointer none]), (94, .tuple #[.agg #[.int .u64 0, .pointer none], .int .i64 3])]) (fun φ167 => [((φ142 0), .cells #[.int .u64 ((tb : Nat) : Int), .pointer tp] 27), ((φ167 0), .cells #[.int .u64 0, .pointer none] 27)]) (fun φ167 => [(φ167 0), (φ167 0)]) s trivial (fun φ167 => by kernel_rfl) ?_
        intro φ167 w167 s
        refine ops_done (by kernel_rfl) ?_
        refine wp_seq ?_
        refine wp_seq ?_
        refine region_rule ?_
        refine ops_rule (C := []) [((φ142 0), .cells #[.int .u64 ((tb : Nat) : Int), .pointer tp] 27), ((φ167 0), .cells #[.int .u64 0, .pointer none] 27)] [] 4 [] 0 (fun φ168 => [(103, .bool (decide (((i : Nat) : Int) < ((16 : Nat) : Int)))), (102, .int .i64 ((i : Nat) : Int)), (101, .bool false), (100, .int .i64 3)]) (fun φ168 => [((φ142 0), .cells #[.int .u64 ((tb : Nat) : Int), .pointer tp] 27), ((φ167 0), .cells #[.int .u64 0, .pointer none] 27)]) (fun φ168 => []) s trivial (fun φ168 => by kernel_rfl) ?_
        intro φ168 w168 s
        rw [nat_lss (a := i) (b := 16)]
        rw [hc147]
        refine ops_rule (C := []) [((φ142 0), .cells #[.int .u64 ((tb : Nat) : Int), .pointer tp] 27), ((φ167 0), .cells #[.int .u64 0, .pointer none] 27)] [] 9 [] 0 (fun φ169 => [(112, .bool false), (111, .bool false), (110, .bool false), (109, .int .i64 3), (108, .bool true), (107, .bool true), (106, .int .i64 3), (105, .bool false), (104, .bool false)]) (fun φ169 => [((φ142 0), .cells #[.int .u64 ((tb : Nat) : Int), .pointer tp] 27), ((φ167 0), .cells #[.int .u64 0, .pointer none] 27)]) (fun φ169 => []) s trivial (fun φ169 => by kernel_rfl) ?_
        intro φ169 w169 s
        refine ops_done (by kernel_rfl) ?_
        refine cond_false_rule (b := false) (by kernel_rfl) rfl ?_
        refine wp_skip ?_
        refine wp_seq ?_
        refine region_rule ?_
        refine ops_rule (C := []) [((φ142 0), .cells #[.int .u64 ((tb : Nat) : Int), .pointer tp] 27), ((φ167 0), .cells #[.int .u64 0, .pointer none] 27)] [] 2 [] 0 (fun φ170 => [(114, .bool false), (113, .int .i64 3)]) (fun φ170 => [((φ142 0), .cells #[.int .u64 ((tb : Nat) : Int), .pointer tp] 27), ((φ167 0), .cells #[.int .u64 0, .pointer none] 27)]) (fun φ170 => []) s trivial (fun φ170 => by kernel_rfl) ?_
        intro φ170 w170 s
        refine ops_done (by kernel_rfl) ?_
        refine cond_false_rule (b := false) (by kernel_rfl) rfl ?_
        refine wp_skip ?_
        refine region_rule ?_
        refine ops_rule (C := []) [((φ142 0), .cells #[.int .u64 ((tb : Nat) : Int), .pointer tp] 27), ((φ167 0), .cells #[.int .u64 0, .pointer none] 27)] [] 2 [] 0 (fun φ171 => [(91, .int .i64 (IntKind.wrap .i64 (((i : Nat) : Int) + ((1 : Nat) : Int)))), (116, .int .i64 (IntKind.wrap .i64 (((i : Nat) : Int) + ((1 : Nat) : Int))))]) (fun φ171 => [((φ142 0), .cells #[.int .u64 ((tb : Nat) : Int), .pointer tp] 27), ((φ167 0), .cells #[.int .u64 0, .pointer none] 27)]) (fun φ171 => []) s trivial (fun φ171 => by kernel_rfl) ?_
        intro φ171 w171 s
        rw [nat_addI (a := i) (b := 1) (by have hq0 := of_decide_eq_false hc5; have hq1 := of_decide_eq_false hc5; have hq2 := of_decide_eq_false hc147; have hq3 := of_decide_eq_true hc163; have hq4 := of_decide_eq_false hc147; omega)]
        refine ops_done (by kernel_rfl) ?_
        have hk9 := of_decide_eq_true hc163
        exact ⟨⟨m - 1, (i + 1, tb, tp), _, _, _, by omega, rfl, s, (List.Sublist.cons₂ _ (List.Sublist.cons _ List.Sublist.slnil)), by kernel_rfl, hle145, by simp only; omega, (by rw [Nat.min_eq_right (by have := of_decide_eq_false hc147; omega)]; have h9 := ht146; rw [Nat.min_eq_right (by have := of_decide_eq_false hc147; omega)] at h9; exact h9)⟩⟩
      ·
        rw [hc163]
        refine cond_false_rule (b := false) (by kernel_rfl) rfl ?_
        refine wp_exit ?_
        refine wp_seq ?_
        refine region_rule ?_
        refine ops_rule (C := []) [((φ142 0), .cells #[.int .u64 ((tb : Nat) : Int), .pointer tp] 27)] [] 1 [.o 0, .o 0] 0 (fun φ172 => [(117, .agg #[.int .u64 ((tb : Nat) : Int), .pointer tp])]) (fun φ172 => [((φ142 0), .cells #[.int .u64 ((tb : Nat) : Int), .pointer tp] 27)]) (fun φ172 => [(φ142 0), (φ142 0)]) s trivial (fun φ172 => by kernel_rfl) ?_
        intro φ172 w172 s
        refine call_rule (some 118) s (spDepth_c (i := i) ht146) (by kernel_rfl) ?_
        intro v173 I173 w173 le173 h173 s
        replace hT := Tab.mono le173 hT
        replace hle145 := leMono le173 hle145
        replace ht146 := ERep.mono le173 ht146
        obtain rfl := h173
        refine ops_rule (C := []) [((φ142 0), .cells #[.int .u64 ((tb : Nat) : Int), .pointer tp] 27)] [] 4 [] 0 (fun φ174 => [(6, .bool (((min i 16 : Nat) : Int) == (if ((16 : Nat) : Int) < ((dp % 19 : Nat) : Int) then ((16 : Nat) : Int) else ((dp % 19 : Nat) : Int)))), (121, .bool (((min i 16 : Nat) : Int) == (if ((16 : Nat) : Int) < ((dp % 19 : Nat) : Int) then ((16 : Nat) : Int) else ((dp % 19 : Nat) : Int)))), (120, .int .i64 (if ((16 : Nat) : Int) < ((dp % 19 : Nat) : Int) then ((16 : Nat) : Int) else ((dp % 19 : Nat) : Int))), (119, .int .i64 ((dp % 19 : Nat) : Int))]) (fun φ174 => [((φ142 0), .cells #[.int .u64 ((tb : Nat) : Int), .pointer tp] 27)]) (fun φ174 => []) s trivial (fun φ174 => by kernel_rfl) ?_
        intro φ174 w174 s
        rw [nat_min (a := (dp % 19)) (b := 16)]
        rw [nat_eql (a := (min i 16)) (b := (min (dp % 19) 16))]
        refine ops_done (by kernel_rfl) ?_
        refine wp_ret ?_
        refine ret_rule (C := []) [((φ142 0), .cells #[.int .u64 ((tb : Nat) : Int), .pointer tp] 27)] [] (.bool (decide ((min i 16) = (min (dp % 19) 16)))) [] [] s trivial (by kernel_rfl) ?_
        exact ⟨_, _, _, rfl, s, congrArg Value.bool (decide_eq_true (by have := of_decide_eq_false hc163; omega))⟩

end Go.Proofs.YtgdickihjaomjaaDoor
