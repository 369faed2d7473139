/- like of layer 2. -/
import Derived.Test.YtgdickihjaomjaaDoorElP30
set_option linter.all false
set_option maxRecDepth 100000
namespace Go.Proofs.YtgdickihjaomjaaDoor
open Go.RowKit Go.Sep
attribute [local irreducible] Go.wpList Go.Code.wp
theorem rminL_c {I : IM} {e : E} {k : Nat} (hn : e.nf) (ht : e.top < 18446744073709551616) (h : RE I e k) : Fun Tryd.prog 71 #[.pointer (some ⟨k, 0, none⟩)] I (fun v J => v = .int .u64 ((e.base : Nat) : Int)) := by
  have h1 := rmin_c e h ht
  rw [E.min_base hn] at h1; exact h1

set_option maxHeartbeats 4000000 in
theorem likeE_step {I : IM} {e : E} {b k : Nat} {p : Option Addr} (hT : Tab I) (h : ERep I e b p) (h2 : RE I e k) (hn : e.nf) (hd : e.depth ≤ 8) (ht : e.top < 18446744073709551616) (ih : ∀ n l r, e = .node n l r → (∀ {J : IM} {b k : Nat} {p : Option Addr}, Tab J → ERep J l b p → RE J l k → Fun Tryd.prog 23 #[evv b p, .pointer (some ⟨k, 0, none⟩)] J (fun v _ => v = .bool true)) ∧ (∀ {J : IM} {b k : Nat} {p : Option Addr}, Tab J → ERep J r b p → RE J r k → Fun Tryd.prog 23 #[evv b p, .pointer (some ⟨k, 0, none⟩)] J (fun v _ => v = .bool true))) : Fun Tryd.prog 23 #[evv b p, .pointer (some ⟨k, 0, none⟩)] I (fun v J => v = .bool true) := by
  cases e with
  | leaf n =>
    clear ih
    obtain ⟨rfl, rfl⟩ := h
    have hre := h2
    refine enter_rule 81 [(0, .agg #[.int .u64 ((b : Nat) : Int), .pointer none]), (1, .pointer (some ⟨k, 0, none⟩))] Tryd.func23 rfl (by kernel_rfl) ?_
    intro w s
    refine wp_seq ?_
    refine region_rule ?_
    refine ops_rule (C := []) [] [] 2 [] 1 (fun φ1 => [(4, .bool false), (2, .pointer (some ⟨(φ1 0), 0, none⟩))]) (fun φ1 => [((φ1 0), .cells #[.int .u64 ((b : Nat) : Int), .pointer none] 27)]) (fun φ1 => []) s trivial (fun φ1 => by kernel_rfl) ?_
    intro φ1 w1 s
    refine ops_done (by kernel_rfl) ?_
    refine wp_seq ?_
    refine wp_seq ?_
    refine draw_rule (C := [(k, .cells #[.int .u64 ((b : Nat) : Int), .pointer none, .pointer none] 112)]) ⟨(fun φ2 xs2 => [.look 0 [.o 0, .o 0] [(φ1 0), (φ1 0)], .call 38 #[.agg #[.int .u64 ((b : Nat) : Int), .pointer none]], .look 0 [] [], .look 0 [] [], .look 0 [] [], .look 0 [.c 0] [k], .look 0 [] [], .look 0 [] [], .look 0 [] [], .look 0 [.o 0, .o 0] [(φ1 0), (φ1 0)], .call 37 #[.agg #[.int .u64 ((b : Nat) : Int), .pointer none]], .look 0 [] [], .look 0 [] [], .look 0 [] [], .look 0 [.c 0] [k], .sub 0 [] [] (.bool (((b : Nat) : Int) != ((b : Nat) : Int))), .look 0 [] [], .look 0 [] [], .look 0 [.o 0, .o 0] [(φ1 0), (φ1 0)], .call 72 #[.agg #[.int .u64 ((b : Nat) : Int), .pointer none]], .look 0 [] [], .call 71 #[.pointer (some ⟨k, 0, none⟩)], .sub 0 [] [] (.bool (((b : Nat) : Int) != ((b : Nat) : Int))), .look 0 [] [], .look 0 [] [], .look 0 [.o 0, .o 0] [(φ1 0), (φ1 0)], .call 34 #[.agg #[.int .u64 ((b : Nat) : Int), .pointer none]], .look 0 [] [], .call 67 #[.pointer (some ⟨k, 0, none⟩)], .sub 0 [] [] (.bool (((E.top (E.leaf b) : Nat) : Int) != ((E.top (E.leaf b) : Nat) : Int))), .look 0 [] [], .look 0 [] [], .look 0 [.o 0, .o 0] [(φ1 0), (φ1 0)], .call 35 #[.agg #[.int .u64 ((b : Nat) : Int), .pointer none]], .look 0 [] [], .call 20 #[.pointer (some ⟨k, 0, none⟩)], .sub 0 [] [] (.bool (((E.depth (E.leaf b) : Nat) : Int) != ((E.depth (E.leaf b) : Nat) : Int))), .look 0 [] [], .look 0 [] [], .look 0 [.o 0, .o 0] [(φ1 0), (φ1 0)], .call 25 #[.agg #[.int .u64 ((b : Nat) : Int), .pointer none]], .look 0 [] [], .call 24 #[.pointer (some ⟨k, 0, none⟩)], .sub 0 [] [] (.bool (!((⟨(textE (E.leaf b)).toArray⟩ : ByteArray).toList == (⟨(textE (E.leaf b)).toArray⟩ : ByteArray).toList))), .look 0 [] []]), (fun φ2 xs2 => [.agg #[.int .u64 ((b : Nat) : Int), .pointer none], .bool true, .pointer (some ⟨k, 0, none⟩), .pointer (some ⟨k, 0, none⟩), .pointer (some ⟨k, 1, none⟩), .pointer none, .bool true, .bool false, .bool false, .agg #[.int .u64 ((b : Nat) : Int), .pointer none], .int .u64 ((b : Nat) : Int), .pointer (some ⟨k, 0, none⟩), .pointer (some ⟨k, 0, none⟩), .pointer (some ⟨k, 0, none⟩), .int .u64 ((b : Nat) : Int), .bool false, .bool false, .bool false, .agg #[.int .u64 ((b : Nat) : Int), .pointer none], .int .u64 ((b : Nat) : Int), .pointer (some ⟨k, 0, none⟩), .int .u64 ((b : Nat) : Int), .bool false, .bool false, .bool false, .agg #[.int .u64 ((b : Nat) : Int), .pointer none], .int .u64 ((E.top (E.leaf b) : Nat) : Int), .pointer (some ⟨k, 0, none⟩), .int .u64 ((E.top (E.leaf b) : Nat) : Int), .bool false, .bool false, .bool false, .agg #[.int .u64 ((b : Nat) : Int), .pointer none], .int .i64 ((E.depth (E.leaf b) : Nat) : Int), .pointer (some ⟨k, 0, none⟩), .int .i64 ((E.depth (E.leaf b) : Nat) : Int), .bool false, .bool false, .bool false, .agg #[.int .u64 ((b : Nat) : Int), .pointer none], .string ⟨(textE (E.leaf b)).toArray⟩, .pointer (some ⟨k, 0, none⟩), .string ⟨(textE (E.leaf b)).toArray⟩, .bool false, .bool false]), (fun φ2 xs2 => [[((φ1 0), .cells #[.int .u64 ((b : Nat) : Int), .pointer none] 27)]]), (fun φ2 xs2 => [[default, default, default, default, default, default, default, default, default, default, default, default, default, default, default, default, default, default, default, default, default, default, default, default, default, default, default, default, default, default, default, default, default, default, default, default, default, default, default, default, default, default, default, default, default]]), [], [1, 3, 1, 1, 1, 1, 1, 1, 1, 1, 3, 1, 1, 1, 1, 5, 1, 1, 1, 3, 1, 3, 5, 1, 1, 1, 3, 1, 3, 5, 1, 1, 1, 3, 1, 3, 5, 1, 1, 1, 3, 1, 3, 5, 1]⟩ (fun j => ([MP.any, MP.any, MP.any, MP.any, MP.any, MP.any, MP.any, MP.any, MP.any, MP.any, MP.any, MP.any, MP.any, MP.any, MP.any, MP.any, MP.any, MP.any, MP.any, MP.any, MP.any, MP.any, MP.any, MP.any, MP.any, MP.any, MP.any, MP.any, MP.any, MP.any, MP.any, MP.any, MP.any, MP.any, MP.any, MP.any, MP.any, MP.any, MP.any, MP.any, MP.any, MP.any, MP.any, MP.any, MP.any] : List MP).getD j MP.any) [1, 10, 19, 21, 26, 28, 33, 35, 40, 42] [15, 22, 29, 36, 43] [] (fun φ2 xs2 => []) (fun φ2 xs2 => [(5, .agg #[.int .u64 ((b : Nat) : Int), .pointer none]), (6, .bool true), (7, .pointer (some ⟨k, 0, none⟩)), (8, .pointer (some ⟨k, 0, none⟩)), (9, .pointer (some ⟨k, 1, none⟩)), (10, .pointer none), (11, .bool true), (12, .bool false), (13, .bool false), (14, .agg #[.int .u64 ((b : Nat) : Int), .pointer none]), (15, .int .u64 ((b : Nat) : Int)), (16, .pointer (some ⟨k, 0, none⟩)), (17, .pointer (some ⟨k, 0, none⟩)), (18, .pointer (some ⟨k, 0, none⟩)), (19, .int .u64 ((b : Nat) : Int)), (20, .bool false), (21, .bool false), (22, .bool false), (23, .agg #[.int .u64 ((b : Nat) : Int), .pointer none]), (24, .int .u64 ((b : Nat) : Int)), (25, .pointer (some ⟨k, 0, none⟩)), (26, .int .u64 ((b : Nat) : Int)), (27, .bool false), (28, .bool false), (29, .bool false), (30, .agg #[.int .u64 ((b : Nat) : Int), .pointer none]), (31, .int .u64 ((E.top (E.leaf b) : Nat) : Int)), (32, .pointer (some ⟨k, 0, none⟩)), (33, .int .u64 ((E.top (E.leaf b) : Nat) : Int)), (34, .bool false), (35, .bool false), (36, .bool false), (37, .agg #[.int .u64 ((b : Nat) : Int), .pointer none]), (38, .int .i64 ((E.depth (E.leaf b) : Nat) : Int)), (39, .pointer (some ⟨k, 0, none⟩)), (40, .int .i64 ((E.depth (E.leaf b) : Nat) : Int)), (41, .bool false), (42, .bool false), (43, .bool false), (44, .agg #[.int .u64 ((b : Nat) : Int), .pointer none]), (45, .string ⟨(textE (E.leaf b)).toArray⟩), (46, .pointer (some ⟨k, 0, none⟩)), (47, .string ⟨(textE (E.leaf b)).toArray⟩), (48, .bool false), (49, .bool false)]) (fun φ2 xs2 => [((φ1 0), .cells #[.int .u64 ((b : Nat) : Int), .pointer none] 27)]) s ⟨h2, trivial⟩ (by kernel_rfl) (by kernel_rfl) (fun _ _ => by kernel_rfl) (fun _ _ => by kernel_rfl) ⟨fun _ _ => by kernel_rfl, fun _ _ => by kernel_rfl, fun _ _ => by kernel_rfl, fun _ _ => by kernel_rfl⟩ (fun _ _ _ => by kernel_rfl) (fun _ _ => by kernel_rfl) (fun _ _ => by kernel_rfl) (fun _ _ => by kernel_rfl) (fun _ _ => by kernel_rfl) (fun _ _ => by kernel_rfl) ⟨kcast (A := ∀ (φ2 : Nat → Nat) (xs2 : Xs), (.bool (((b : Nat) : Int) != ((b : Nat) : Int)) : Value) = .bool false) (by kernel_rfl) (fun φ2 xs2 => congrArg Value.bool (((nat_neq (a := b) (b := b)).trans (decide_eq_false (fun q => q rfl))))), ⟨kcast (A := ∀ (φ2 : Nat → Nat) (xs2 : Xs), (.bool (((b : Nat) : Int) != ((b : Nat) : Int)) : Value) = .bool false) (by kernel_rfl) (fun φ2 xs2 => congrArg Value.bool (((nat_neq (a := b) (b := b)).trans (decide_eq_false (fun q => q rfl))))), ⟨kcast (A := ∀ (φ2 : Nat → Nat) (xs2 : Xs), (.bool (((E.top (E.leaf b) : Nat) : Int) != ((E.top (E.leaf b) : Nat) : Int)) : Value) = .bool false) (by kernel_rfl) (fun φ2 xs2 => congrArg Value.bool (((nat_neq (a := (E.top (E.leaf b))) (b := (E.top (E.leaf b)))).trans (decide_eq_false (fun q => q rfl))))), ⟨kcast (A := ∀ (φ2 : Nat → Nat) (xs2 : Xs), (.bool (((E.depth (E.leaf b) : Nat) : Int) != ((E.depth (E.leaf b) : Nat) : Int)) : Value) = .bool false) (by kernel_rfl) (fun φ2 xs2 => congrArg Value.bool (((nat_neq (a := (E.depth (E.leaf b))) (b := (E.depth (E.leaf b)))).trans (decide_eq_false (fun q => q rfl))))), ⟨kcast (A := ∀ (φ2 : Nat → Nat) (xs2 : Xs), (.bool (!((⟨(textE (E.leaf b)).toArray⟩ : ByteArray).toList == (⟨(textE (E.leaf b)).toArray⟩ : ByteArray).toList)) : Value) = .bool false) (by kernel_rfl) (fun φ2 xs2 => congrArg Value.bool ((congrArg not (beq_self_eq_true _)))), trivial⟩⟩⟩⟩⟩ trivial (by kernel_rfl) ⟨?c2_1, ?c2_10, ?c2_19, ?c2_21, ?c2_26, ?c2_28, ?c2_33, ?c2_35, ?c2_40, ?c2_42, trivial⟩ ?k2
    case c2_1 =>
      refine kcast (A := ∀ (φ2 : Nat → Nat) (xs2 : Xs) (J1_2 : IM), I.Le J1_2 → Fun Tryd.prog 38 #[.agg #[.int .u64 ((b : Nat) : Int), .pointer none]] J1_2 (fun v J' => ∃ x : UX, v = .bool true ∧ (True))) (by kernel_rfl) ?_
      intro φ2 xs2 J1_2 leJ
      exact Fun.mono (isLeaf_c (ERep.lf _ b)) (fun v J' _ h => ⟨UX.d, h, trivial⟩)
    case c2_10 =>
      refine kcast (A := ∀ (φ2 : Nat → Nat) (xs2 : Xs) (J10_2 : IM), I.Le J10_2 → (True) → Fun Tryd.prog 37 #[.agg #[.int .u64 ((b : Nat) : Int), .pointer none]] J10_2 (fun v J' => ∃ x : UX, v = .int .u64 ((b : Nat) : Int) ∧ (True))) (by kernel_rfl) ?_
      intro φ2 xs2 J10_2 leJ
      rintro _
      exact Fun.mono (base_c (ERep.lf _ b)) (fun v J' _ h => ⟨UX.d, h, trivial⟩)
    case c2_19 =>
      refine kcast (A := ∀ (φ2 : Nat → Nat) (xs2 : Xs) (J19_2 : IM), I.Le J19_2 → (True) → (True) → Fun Tryd.prog 72 #[.agg #[.int .u64 ((b : Nat) : Int), .pointer none]] J19_2 (fun v J' => ∃ x : UX, v = .int .u64 ((b : Nat) : Int) ∧ (True))) (by kernel_rfl) ?_
      intro φ2 xs2 J19_2 leJ
      rintro _ _
      exact Fun.mono (min_c (ERep.lf _ b)) (fun v J' _ h => ⟨UX.d, h, trivial⟩)
    case c2_21 =>
      refine kcast (A := ∀ (φ2 : Nat → Nat) (xs2 : Xs) (J21_2 : IM), I.Le J21_2 → (True) → (True) → (True) → Fun Tryd.prog 71 #[.pointer (some ⟨k, 0, none⟩)] J21_2 (fun v J' => ∃ x : UX, v = .int .u64 ((b : Nat) : Int) ∧ (True))) (by kernel_rfl) ?_
      intro φ2 xs2 J21_2 leJ
      rintro _ _ _
      have hre := RE.mono leJ hre
      exact Fun.mono (rminL_c (e := (E.leaf b)) hn ht hre) (fun v J' _ h => ⟨UX.d, h, trivial⟩)
    case c2_26 =>
      refine kcast (A := ∀ (φ2 : Nat → Nat) (xs2 : Xs) (J26_2 : IM), I.Le J26_2 → (True) → (True) → (True) → (True) → Fun Tryd.prog 34 #[.agg #[.int .u64 ((b : Nat) : Int), .pointer none]] J26_2 (fun v J' => ∃ x : UX, v = .int .u64 ((E.top (E.leaf b) : Nat) : Int) ∧ (True))) (by kernel_rfl) ?_
      intro φ2 xs2 J26_2 leJ
      rintro _ _ _ _
      exact Fun.mono (max_c (ERep.lf _ b) ht) (fun v J' _ h => ⟨UX.d, h, trivial⟩)
    case c2_28 =>
      refine kcast (A := ∀ (φ2 : Nat → Nat) (xs2 : Xs) (J28_2 : IM), I.Le J28_2 → (True) → (True) → (True) → (True) → (True) → Fun Tryd.prog 67 #[.pointer (some ⟨k, 0, none⟩)] J28_2 (fun v J' => ∃ x : UX, v = .int .u64 ((E.top (E.leaf b) : Nat) : Int) ∧ (True))) (by kernel_rfl) ?_
      intro φ2 xs2 J28_2 leJ
      rintro _ _ _ _ _
      have hre := RE.mono leJ hre
      exact Fun.mono (rmax_c (E.leaf b) hre ht) (fun v J' _ h => ⟨UX.d, h, trivial⟩)
    case c2_33 =>
      refine kcast (A := ∀ (φ2 : Nat → Nat) (xs2 : Xs) (J33_2 : IM), I.Le J33_2 → (True) → (True) → (True) → (True) → (True) → (True) → Fun Tryd.prog 35 #[.agg #[.int .u64 ((b : Nat) : Int), .pointer none]] J33_2 (fun v J' => ∃ x : UX, v = .int .i64 ((E.depth (E.leaf b) : Nat) : Int) ∧ (True))) (by kernel_rfl) ?_
      intro φ2 xs2 J33_2 leJ
      rintro _ _ _ _ _ _
      exact Fun.mono (depth_c (ERep.lf _ b)) (fun v J' _ h => ⟨UX.d, h, trivial⟩)
    case c2_35 =>
      refine kcast (A := ∀ (φ2 : Nat → Nat) (xs2 : Xs) (J35_2 : IM), I.Le J35_2 → (True) → (True) → (True) → (True) → (True) → (True) → (True) → Fun Tryd.prog 20 #[.pointer (some ⟨k, 0, none⟩)] J35_2 (fun v J' => ∃ x : UX, v = .int .i64 ((E.depth (E.leaf b) : Nat) : Int) ∧ (True))) (by kernel_rfl) ?_
      intro φ2 xs2 J35_2 leJ
      rintro _ _ _ _ _ _ _
      have hre := RE.mono leJ hre
      exact Fun.mono (rdepth_c (E.leaf b) hre (Nat.le_trans hd (by decide))) (fun v J' _ h => ⟨UX.d, h, trivial⟩)
    case c2_40 =>
      refine kcast (A := ∀ (φ2 : Nat → Nat) (xs2 : Xs) (J40_2 : IM), I.Le J40_2 → (True) → (True) → (True) → (True) → (True) → (True) → (True) → (True) → Fun Tryd.prog 25 #[.agg #[.int .u64 ((b : Nat) : Int), .pointer none]] J40_2 (fun v J' => ∃ x : UX, v = .string ⟨(textE (E.leaf b)).toArray⟩ ∧ (True))) (by kernel_rfl) ?_
      intro φ2 xs2 J40_2 leJ
      rintro _ _ _ _ _ _ _ _
      have hT := Tab.mono leJ hT
      exact Fun.mono (text_c hT (ERep.lf _ b) ht (textE_small hd ht)) (fun v J' _ h => ⟨UX.d, h, trivial⟩)
    case c2_42 =>
      refine kcast (A := ∀ (φ2 : Nat → Nat) (xs2 : Xs) (J42_2 : IM), I.Le J42_2 → (True) → (True) → (True) → (True) → (True) → (True) → (True) → (True) → (True) → Fun Tryd.prog 24 #[.pointer (some ⟨k, 0, none⟩)] J42_2 (fun v J' => ∃ x : UX, v = .string ⟨(textE (E.leaf b)).toArray⟩ ∧ (True))) (by kernel_rfl) ?_
      intro φ2 xs2 J42_2 leJ
      rintro _ _ _ _ _ _ _ _ _
      have hre := RE.mono leJ hre
      exact Fun.mono (etext_c (E.leaf b) hre ht (textE_small hd ht)) (fun v J' _ h => ⟨UX.d, h, trivial⟩)
    case k2 =>
      rintro φ2 xs2 I2 w2 le2 s _ _ _ _ _ _ _ _ _ _
      replace hT := Tab.mono le2 hT
      replace hre := RE.mono le2 hre
      replace h2 := le2 _ _ h2
      refine cond_false_rule (b := false) (by kernel_rfl) rfl ?_
      refine wp_skip ?_
      refine wp_seq ?_
      refine wp_seq ?_
      refine region_rule ?_
      refine ops_rule (C := [(k, .cells #[.int .u64 ((b : Nat) : Int), .pointer none, .pointer none] 112)]) [((φ1 0), .cells #[.int .u64 ((b : Nat) : Int), .pointer none] 27)] [] 5 [.c 0] 0 (fun φ3 => [(54, .bool true), (53, .pointer none), (52, .pointer (some ⟨k, 1, none⟩)), (51, .pointer (some ⟨k, 0, none⟩)), (50, .pointer (some ⟨k, 0, none⟩))]) (fun φ3 => [((φ1 0), .cells #[.int .u64 ((b : Nat) : Int), .pointer none] 27)]) (fun φ3 => [k]) s ⟨h2, trivial⟩ (fun φ3 => by kernel_rfl) ?_
      intro φ3 w3 s
      refine ops_done (by kernel_rfl) ?_
      refine cond_true_rule (b := true) (by kernel_rfl) rfl ?_
      refine wp_seq ?_
      refine region_rule ?_
      refine ops_rule (C := []) [((φ1 0), .cells #[.int .u64 ((b : Nat) : Int), .pointer none] 27)] [] 1 [.o 0, .o 0] 0 (fun φ4 => [(55, .agg #[.int .u64 ((b : Nat) : Int), .pointer none])]) (fun φ4 => [((φ1 0), .cells #[.int .u64 ((b : Nat) : Int), .pointer none] 27)]) (fun φ4 => [(φ1 0), (φ1 0)]) s trivial (fun φ4 => by kernel_rfl) ?_
      intro φ4 w4 s
      refine call_rule (some 56) s (left_c (ERep.lf _ b)) (by kernel_rfl) ?_
      intro v5 I5 w5 le5 h5 s
      replace hT := Tab.mono le5 hT
      replace hre := RE.mono le5 hre
      replace h2 := le5 _ _ h2
      obtain ⟨b5, p5, rfl, h5_0⟩ := h5
      refine call_rule (some 57) s (textK_c (t := (E.leaf 0)) (l := [48]) (by kernel_rfl) hT h5_0 (by decide) (by decide)) (by kernel_rfl) ?_
      intro v6 I6 w6 le6 h6 s
      replace hT := Tab.mono le6 hT
      replace hre := RE.mono le6 hre
      replace h5_0 := ERep.mono le6 h5_0
      replace h2 := le6 _ _ h2
      obtain rfl := h6
      refine ops_rule (C := []) [((φ1 0), .cells #[.int .u64 ((b : Nat) : Int), .pointer none] 27)] [] 3 [.o 0, .o 0] 0 (fun φ7 => [(60, .agg #[.int .u64 ((b : Nat) : Int), .pointer none]), (59, .bool true), (58, .bool true)]) (fun φ7 => [((φ1 0), .cells #[.int .u64 ((b : Nat) : Int), .pointer none] 27)]) (fun φ7 => [(φ1 0), (φ1 0)]) s trivial (fun φ7 => by kernel_rfl) ?_
      intro φ7 w7 s
      refine call_rule (some 61) s (right_c (ERep.lf _ b)) (by kernel_rfl) ?_
      intro v8 I8 w8 le8 h8 s
      replace hT := Tab.mono le8 hT
      replace hre := RE.mono le8 hre
      replace h5_0 := ERep.mono le8 h5_0
      replace h2 := le8 _ _ h2
      obtain ⟨b8, p8, rfl, h8_0⟩ := h8
      refine call_rule (some 62) s (textK_c (t := (E.leaf 0)) (l := [48]) (by kernel_rfl) hT h8_0 (by decide) (by decide)) (by kernel_rfl) ?_
      intro v9 I9 w9 le9 h9 s
      replace hT := Tab.mono le9 hT
      replace hre := RE.mono le9 hre
      replace h5_0 := ERep.mono le9 h5_0
      replace h8_0 := ERep.mono le9 h8_0
      replace h2 := le9 _ _ h2
      obtain rfl := h9
      refine ops_rule (C := []) [((φ1 0), .cells #[.int .u64 ((b : Nat) : Int), .pointer none] 27)] [] 3 [] 0 (fun φ10 => [(4, .bool true), (64, .bool true), (63, .bool true)]) (fun φ10 => [((φ1 0), .cells #[.int .u64 ((b : Nat) : Int), .pointer none] 27)]) (fun φ10 => []) s trivial (fun φ10 => by kernel_rfl) ?_
      intro φ10 w10 s
      refine ops_done (by kernel_rfl) ?_
      refine wp_ret ?_
      refine ret_rule (C := []) [((φ1 0), .cells #[.int .u64 ((b : Nat) : Int), .pointer none] 27)] [] (.bool true) [] [] s trivial (by kernel_rfl) ?_
      exact ⟨_, _, _, rfl, s, rfl⟩
  | node n l r =>
    obtain ⟨ihl, ihr⟩ := ih n l r rfl
    clear ih
    have hn0 := h
    obtain ⟨rfl, kk, bl, pl, br, pr, rfl, hk, hl, hr⟩ := h
    have hre := h2
    obtain ⟨kl, kr, hk2, hl2, hr2⟩ := h2
    refine enter_rule 81 [(0, .agg #[.int .u64 ((b : Nat) : Int), .pointer (some ⟨kk, 0, none⟩)]), (1, .pointer (some ⟨k, 0, none⟩))] Tryd.func23 rfl (by kernel_rfl) ?_
    intro w s
    refine wp_seq ?_
    refine region_rule ?_
    refine ops_rule (C := []) [] [] 2 [] 1 (fun φ1 => [(4, .bool false), (2, .pointer (some ⟨(φ1 0), 0, none⟩))]) (fun φ1 => [((φ1 0), .cells #[.int .u64 ((b : Nat) : Int), .pointer (some ⟨kk, 0, none⟩)] 27)]) (fun φ1 => []) s trivial (fun φ1 => by kernel_rfl) ?_
    intro φ1 w1 s
    refine ops_done (by kernel_rfl) ?_
    refine wp_seq ?_
    refine wp_seq ?_
    refine draw_rule (C := [(k, .cells #[.int .u64 ((b : Nat) : Int), .pointer (some ⟨kl, 0, none⟩), .pointer (some ⟨kr, 0, none⟩)] 112)]) ⟨(fun φ2 xs2 => [.look 0 [.o 0, .o 0] [(φ1 0), (φ1 0)], .call 38 #[.agg #[.int .u64 ((b : Nat) : Int), .pointer (some ⟨kk, 0, none⟩)]], .look 0 [] [], .look 0 [] [], .look 0 [] [], .look 0 [.c 0] [k], .look 0 [] [], .look 0 [] [], .look 0 [] [], .look 0 [.o 0, .o 0] [(φ1 0), (φ1 0)], .call 37 #[.agg #[.int .u64 ((b : Nat) : Int), .pointer (some ⟨kk, 0, none⟩)]], .look 0 [] [], .look 0 [] [], .look 0 [] [], .look 0 [.c 0] [k], .sub 0 [] [] (.bool (((b : Nat) : Int) != ((b : Nat) : Int))), .look 0 [] [], .look 0 [] [], .look 0 [.o 0, .o 0] [(φ1 0), (φ1 0)], .call 72 #[.agg #[.int .u64 ((b : Nat) : Int), .pointer (some ⟨kk, 0, none⟩)]], .look 0 [] [], .call 71 #[.pointer (some ⟨k, 0, none⟩)], .sub 0 [] [] (.bool (((b : Nat) : Int) != ((b : Nat) : Int))), .look 0 [] [], .look 0 [] [], .look 0 [.o 0, .o 0] [(φ1 0), (φ1 0)], .call 34 #[.agg #[.int .u64 ((b : Nat) : Int), .pointer (some ⟨kk, 0, none⟩)]], .look 0 [] [], .call 67 #[.pointer (some ⟨k, 0, none⟩)], .sub 0 [] [] (.bool (((E.top (E.node b l r) : Nat) : Int) != ((E.top (E.node b l r) : Nat) : Int))), .look 0 [] [], .look 0 [] [], .look 0 [.o 0, .o 0] [(φ1 0), (φ1 0)], .call 35 #[.agg #[.int .u64 ((b : Nat) : Int), .pointer (some ⟨kk, 0, none⟩)]], .look 0 [] [], .call 20 #[.pointer (some ⟨k, 0, none⟩)], .sub 0 [] [] (.bool (((E.depth (E.node b l r) : Nat) : Int) != ((E.depth (E.node b l r) : Nat) : Int))), .look 0 [] [], .look 0 [] [], .look 0 [.o 0, .o 0] [(φ1 0), (φ1 0)], .call 25 #[.agg #[.int .u64 ((b : Nat) : Int), .pointer (some ⟨kk, 0, none⟩)]], .look 0 [] [], .call 24 #[.pointer (some ⟨k, 0, none⟩)], .sub 0 [] [] (.bool (!((⟨(textE (E.node b l r)).toArray⟩ : ByteArray).toList == (⟨(textE (E.node b l r)).toArray⟩ : ByteArray).toList))), .look 0 [] []]), (fun φ2 xs2 => [.agg #[.int .u64 ((b : Nat) : Int), .pointer (some ⟨kk, 0, none⟩)], .bool false, .pointer (some ⟨k, 0, none⟩), .pointer (some ⟨k, 0, none⟩), .pointer (some ⟨k, 1, none⟩), .pointer (some ⟨kl, 0, none⟩), .bool false, .bool false, .bool false, .agg #[.int .u64 ((b : Nat) : Int), .pointer (some ⟨kk, 0, none⟩)], .int .u64 ((b : Nat) : Int), .pointer (some ⟨k, 0, none⟩), .pointer (some ⟨k, 0, none⟩), .pointer (some ⟨k, 0, none⟩), .int .u64 ((b : Nat) : Int), .bool false, .bool false, .bool false, .agg #[.int .u64 ((b : Nat) : Int), .pointer (some ⟨kk, 0, none⟩)], .int .u64 ((b : Nat) : Int), .pointer (some ⟨k, 0, none⟩), .int .u64 ((b : Nat) : Int), .bool false, .bool false, .bool false, .agg #[.int .u64 ((b : Nat) : Int), .pointer (some ⟨kk, 0, none⟩)], .int .u64 ((E.top (E.node b l r) : Nat) : Int), .pointer (some ⟨k, 0, none⟩), .int .u64 ((E.top (E.node b l r) : Nat) : Int), .bool false, .bool false, .bool false, .agg #[.int .u64 ((b : Nat) : Int), .pointer (some ⟨kk, 0, none⟩)], .int .i64 ((E.depth (E.node b l r) : Nat) : Int), .pointer (some ⟨k, 0, none⟩), .int .i64 ((E.depth (E.node b l r) : Nat) : Int), .bool false, .bool false, .bool false, .agg #[.int .u64 ((b : Nat) : Int), .pointer (some ⟨kk, 0, none⟩)], .string ⟨(textE (E.node b l r)).toArray⟩, .pointer (some ⟨k, 0, none⟩), .string ⟨(textE (E.node b l r)).toArray⟩, .bool false, .bool false]), (fun φ2 xs2 => [[((φ1 0), .cells #[.int .u64 ((b : Nat) : Int), .pointer (some ⟨kk, 0, none⟩)] 27)]]), (fun φ2 xs2 => [[default, default, default, default, default, default, default, default, default, default, default, default, default, default, default, default, default, default, default, default, default, default, default, default, default, default, default, default, default, default, default, default, default, default, default, default, default, default, default, default, default, default, default, default, default]]), [], [1, 3, 1, 1, 1, 1, 1, 1, 1, 1, 3, 1, 1, 1, 1, 5, 1, 1, 1, 3, 1, 3, 5, 1, 1, 1, 3, 1, 3, 5, 1, 1, 1, 3, 1, 3, 5, 1, 1, 1, 3, 1, 3, 5, 1]⟩ (fun j => ([MP.any, MP.any, MP.any, MP.any, MP.any, MP.any, MP.any, MP.any, MP.any, MP.any, MP.any, MP.any, MP.any, MP.any, MP.any, MP.any, MP.any, MP.any, MP.any, MP.any, MP.any, MP.any, MP.any, MP.any, MP.any, MP.any, MP.any, MP.any, MP.any, MP.any, MP.any, MP.any, MP.any, MP.any, MP.any, MP.any, MP.any, MP.any, MP.any, MP.any, MP.any, MP.any, MP.any, MP.any, MP.any] : List MP).getD j MP.any) [1, 10, 19, 21, 26, 28, 33, 35, 40, 42] [15, 22, 29, 36, 43] [] (fun φ2 xs2 => []) (fun φ2 xs2 => [(5, .agg #[.int .u64 ((b : Nat) : Int), .pointer (some ⟨kk, 0, none⟩)]), (6, .bool false), (7, .pointer (some ⟨k, 0, none⟩)), (8, .pointer (some ⟨k, 0, none⟩)), (9, .pointer (some ⟨k, 1, none⟩)), (10, .pointer (some ⟨kl, 0, none⟩)), (11, .bool false), (12, .bool false), (13, .bool false), (14, .agg #[.int .u64 ((b : Nat) : Int), .pointer (some ⟨kk, 0, none⟩)]), (15, .int .u64 ((b : Nat) : Int)), (16, .pointer (some ⟨k, 0, none⟩)), (17, .pointer (some ⟨k, 0, none⟩)), (18, .pointer (some ⟨k, 0, none⟩)), (19, .int .u64 ((b : Nat) : Int)), (20, .bool false), (21, .bool false), (22, .bool false), (23, .agg #[.int .u64 ((b : Nat) : Int), .pointer (some ⟨kk, 0, none⟩)]), (24, .int .u64 ((b : Nat) : Int)), (25, .pointer (some ⟨k, 0, none⟩)), (26, .int .u64 ((b : Nat) : Int)), (27, .bool false), (28, .bool false), (29, .bool false), (30, .agg #[.int .u64 ((b : Nat) : Int), .pointer (some ⟨kk, 0, none⟩)]), (31, .int .u64 ((E.top (E.node b l r) : Nat) : Int)), (32, .pointer (some ⟨k, 0, none⟩)), (33, .int .u64 ((E.top (E.node b l r) : Nat) : Int)), (34, .bool false), (35, .bool false), (36, .bool false), (37, .agg #[.int .u64 ((b : Nat) : Int), .pointer (some ⟨kk, 0, none⟩)]), (38, .int .i64 ((E.depth (E.node b l r) : Nat) : Int)), (39, .pointer (some ⟨k, 0, none⟩)), (40, .int .i64 ((E.depth (E.node b l r) : Nat) : Int)), (41, .bool false), (42, .bool false), (43, .bool false), (44, .agg #[.int .u64 ((b : Nat) : Int), .pointer (some ⟨kk, 0, none⟩)]), (45, .string ⟨(textE (E.node b l r)).toArray⟩), (46, .pointer (some ⟨k, 0, none⟩)), (47, .string ⟨(textE (E.node b l r)).toArray⟩), (48, .bool false), (49, .bool false)]) (fun φ2 xs2 => [((φ1 0), .cells #[.int .u64 ((b : Nat) : Int), .pointer (some ⟨kk, 0, none⟩)] 27)]) s ⟨hk2, trivial⟩ (by kernel_rfl) (by kernel_rfl) (fun _ _ => by kernel_rfl) (fun _ _ => by kernel_rfl) ⟨fun _ _ => by kernel_rfl, fun _ _ => by kernel_rfl, fun _ _ => by kernel_rfl, fun _ _ => by kernel_rfl⟩ (fun _ _ _ => by kernel_rfl) (fun _ _ => by kernel_rfl) (fun _ _ => by kernel_rfl) (fun _ _ => by kernel_rfl) (fun _ _ => by kernel_rfl) (fun _ _ => by kernel_rfl) ⟨kcast (A := ∀ (φ2 : Nat → Nat) (xs2 : Xs), (.bool (((b : Nat) : Int) != ((b : Nat) : Int)) : Value) = .bool false) (by kernel_rfl) (fun φ2 xs2 => congrArg Value.bool (((nat_neq (a := b) (b := b)).trans (decide_eq_false (fun q => q rfl))))), ⟨kcast (A := ∀ (φ2 : Nat → Nat) (xs2 : Xs), (.bool (((b : Nat) : Int) != ((b : Nat) : Int)) : Value) = .bool false) (by kernel_rfl) (fun φ2 xs2 => congrArg Value.bool (((nat_neq (a := b) (b := b)).trans (decide_eq_false (fun q => q rfl))))), ⟨kcast (A := ∀ (φ2 : Nat → Nat) (xs2 : Xs), (.bool (((E.top (E.node b l r) : Nat) : Int) != ((E.top (E.node b l r) : Nat) : Int)) : Value) = .bool false) (by kernel_rfl) (fun φ2 xs2 => congrArg Value.bool (((nat_neq (a := (E.top (E.node b l r))) (b := (E.top (E.node b l r)))).trans (decide_eq_false (fun q => q rfl))))), ⟨kcast (A := ∀ (φ2 : Nat → Nat) (xs2 : Xs), (.bool (((E.depth (E.node b l r) : Nat) : Int) != ((E.depth (E.node b l r) : Nat) : Int)) : Value) = .bool false) (by kernel_rfl) (fun φ2 xs2 => congrArg Value.bool (((nat_neq (a := (E.depth (E.node b l r))) (b := (E.depth (E.node b l r)))).trans (decide_eq_false (fun q => q rfl))))), ⟨kcast (A := ∀ (φ2 : Nat → Nat) (xs2 : Xs), (.bool (!((⟨(textE (E.node b l r)).toArray⟩ : ByteArray).toList == (⟨(textE (E.node b l r)).toArray⟩ : ByteArray).toList)) : Value) = .bool false) (by kernel_rfl) (fun φ2 xs2 => congrArg Value.bool ((congrArg not (beq_self_eq_true _)))), trivial⟩⟩⟩⟩⟩ trivial (by kernel_rfl) ⟨?c2_1, ?c2_10, ?c2_19, ?c2_21, ?c2_26, ?c2_28, ?c2_33, ?c2_35, ?c2_40, ?c2_42, trivial⟩ ?k2
    case c2_1 =>
      refine kcast (A := ∀ (φ2 : Nat → Nat) (xs2 : Xs) (J1_2 : IM), I.Le J1_2 → Fun Tryd.prog 38 #[.agg #[.int .u64 ((b : Nat) : Int), .pointer (some ⟨kk, 0, none⟩)]] J1_2 (fun v J' => ∃ x : UX, v = .bool false ∧ (True))) (by kernel_rfl) ?_
      intro φ2 xs2 J1_2 leJ
      have hn0 := ERep.mono leJ hn0
      exact Fun.mono (isLeaf_c hn0) (fun v J' _ h => ⟨UX.d, h, trivial⟩)
    case c2_10 =>
      refine kcast (A := ∀ (φ2 : Nat → Nat) (xs2 : Xs) (J10_2 : IM), I.Le J10_2 → (True) → Fun Tryd.prog 37 #[.agg #[.int .u64 ((b : Nat) : Int), .pointer (some ⟨kk, 0, none⟩)]] J10_2 (fun v J' => ∃ x : UX, v = .int .u64 ((b : Nat) : Int) ∧ (True))) (by kernel_rfl) ?_
      intro φ2 xs2 J10_2 leJ
      rintro _
      have hn0 := ERep.mono leJ hn0
      exact Fun.mono (base_c hn0) (fun v J' _ h => ⟨UX.d, h, trivial⟩)
    case c2_19 =>
      refine kcast (A := ∀ (φ2 : Nat → Nat) (xs2 : Xs) (J19_2 : IM), I.Le J19_2 → (True) → (True) → Fun Tryd.prog 72 #[.agg #[.int .u64 ((b : Nat) : Int), .pointer (some ⟨kk, 0, none⟩)]] J19_2 (fun v J' => ∃ x : UX, v = .int .u64 ((b : Nat) : Int) ∧ (True))) (by kernel_rfl) ?_
      intro φ2 xs2 J19_2 leJ
      rintro _ _
      have hn0 := ERep.mono leJ hn0
      exact Fun.mono (min_c hn0) (fun v J' _ h => ⟨UX.d, h, trivial⟩)
    case c2_21 =>
      refine kcast (A := ∀ (φ2 : Nat → Nat) (xs2 : Xs) (J21_2 : IM), I.Le J21_2 → (True) → (True) → (True) → Fun Tryd.prog 71 #[.pointer (some ⟨k, 0, none⟩)] J21_2 (fun v J' => ∃ x : UX, v = .int .u64 ((b : Nat) : Int) ∧ (True))) (by kernel_rfl) ?_
      intro φ2 xs2 J21_2 leJ
      rintro _ _ _
      have hre := RE.mono leJ hre
      exact Fun.mono (rminL_c (e := (E.node b l r)) hn ht hre) (fun v J' _ h => ⟨UX.d, h, trivial⟩)
    case c2_26 =>
      refine kcast (A := ∀ (φ2 : Nat → Nat) (xs2 : Xs) (J26_2 : IM), I.Le J26_2 → (True) → (True) → (True) → (True) → Fun Tryd.prog 34 #[.agg #[.int .u64 ((b : Nat) : Int), .pointer (some ⟨kk, 0, none⟩)]] J26_2 (fun v J' => ∃ x : UX, v = .int .u64 ((E.top (E.node b l r) : Nat) : Int) ∧ (True))) (by kernel_rfl) ?_
      intro φ2 xs2 J26_2 leJ
      rintro _ _ _ _
      have hn0 := ERep.mono leJ hn0
      exact Fun.mono (max_c hn0 ht) (fun v J' _ h => ⟨UX.d, h, trivial⟩)
    case c2_28 =>
      refine kcast (A := ∀ (φ2 : Nat → Nat) (xs2 : Xs) (J28_2 : IM), I.Le J28_2 → (True) → (True) → (True) → (True) → (True) → Fun Tryd.prog 67 #[.pointer (some ⟨k, 0, none⟩)] J28_2 (fun v J' => ∃ x : UX, v = .int .u64 ((E.top (E.node b l r) : Nat) : Int) ∧ (True))) (by kernel_rfl) ?_
      intro φ2 xs2 J28_2 leJ
      rintro _ _ _ _ _
      have hre := RE.mono leJ hre
      exact Fun.mono (rmax_c (E.node b l r) hre ht) (fun v J' _ h => ⟨UX.d, h, trivial⟩)
    case c2_33 =>
      refine kcast (A := ∀ (φ2 : Nat → Nat) (xs2 : Xs) (J33_2 : IM), I.Le J33_2 → (True) → (True) → (True) → (True) → (True) → (True) → Fun Tryd.prog 35 #[.agg #[.int .u64 ((b : Nat) : Int), .pointer (some ⟨kk, 0, none⟩)]] J33_2 (fun v J' => ∃ x : UX, v = .int .i64 ((E.depth (E.node b l r) : Nat) : Int) ∧ (True))) (by kernel_rfl) ?_
      intro φ2 xs2 J33_2 leJ
      rintro _ _ _ _ _ _
      have hn0 := ERep.mono leJ hn0
      exact Fun.mono (depth_c hn0) (fun v J' _ h => ⟨UX.d, h, trivial⟩)
    case c2_35 =>
      refine kcast (A := ∀ (φ2 : Nat → Nat) (xs2 : Xs) (J35_2 : IM), I.Le J35_2 → (True) → (True) → (True) → (True) → (True) → (True) → (True) → Fun Tryd.prog 20 #[.pointer (some ⟨k, 0, none⟩)] J35_2 (fun v J' => ∃ x : UX, v = .int .i64 ((E.depth (E.node b l r) : Nat) : Int) ∧ (True))) (by kernel_rfl) ?_
      intro φ2 xs2 J35_2 leJ
      rintro _ _ _ _ _ _ _
      have hre := RE.mono leJ hre
      exact Fun.mono (rdepth_c (E.node b l r) hre (Nat.le_trans hd (by decide))) (fun v J' _ h => ⟨UX.d, h, trivial⟩)
    case c2_40 =>
      refine kcast (A := ∀ (φ2 : Nat → Nat) (xs2 : Xs) (J40_2 : IM), I.Le J40_2 → (True) → (True) → (True) → (True) → (True) → (True) → (True) → (True) → Fun Tryd.prog 25 #[.agg #[.int .u64 ((b : Nat) : Int), .pointer (some ⟨kk, 0, none⟩)]] J40_2 (fun v J' => ∃ x : UX, v = .string ⟨(textE (E.node b l r)).toArray⟩ ∧ (True))) (by kernel_rfl) ?_
      intro φ2 xs2 J40_2 leJ
      rintro _ _ _ _ _ _ _ _
      have hT := Tab.mono leJ hT
      have hn0 := ERep.mono leJ hn0
      exact Fun.mono (text_c hT hn0 ht (textE_small hd ht)) (fun v J' _ h => ⟨UX.d, h, trivial⟩)
    case c2_42 =>
      refine kcast (A := ∀ (φ2 : Nat → Nat) (xs2 : Xs) (J42_2 : IM), I.Le J42_2 → (True) → (True) → (True) → (True) → (True) → (True) → (True) → (True) → (True) → Fun Tryd.prog 24 #[.pointer (some ⟨k, 0, none⟩)] J42_2 (fun v J' => ∃ x : UX, v = .string ⟨(textE (E.node b l r)).toArray⟩ ∧ (True))) (by kernel_rfl) ?_
      intro φ2 xs2 J42_2 leJ
      rintro _ _ _ _ _ _ _ _ _
      have hre := RE.mono leJ hre
      exact Fun.mono (etext_c (E.node b l r) hre ht (textE_small hd ht)) (fun v J' _ h => ⟨UX.d, h, trivial⟩)
    case k2 =>
      rintro φ2 xs2 I2 w2 le2 s _ _ _ _ _ _ _ _ _ _
      replace hT := Tab.mono le2 hT
      replace hl := ERep.mono le2 hl
      replace hr := ERep.mono le2 hr
      replace hn0 := ERep.mono le2 hn0
      replace hre := RE.mono le2 hre
      replace hl2 := RE.mono le2 hl2
      replace hr2 := RE.mono le2 hr2
      replace hk := le2 _ _ hk
      replace hk2 := le2 _ _ hk2
      refine cond_false_rule (b := false) (by kernel_rfl) rfl ?_
      refine wp_skip ?_
      refine wp_seq ?_
      refine wp_seq ?_
      refine region_rule ?_
      refine ops_rule (C := [(k, .cells #[.int .u64 ((b : Nat) : Int), .pointer (some ⟨kl, 0, none⟩), .pointer (some ⟨kr, 0, none⟩)] 112)]) [((φ1 0), .cells #[.int .u64 ((b : Nat) : Int), .pointer (some ⟨kk, 0, none⟩)] 27)] [] 5 [.c 0] 0 (fun φ3 => [(54, .bool false), (53, .pointer (some ⟨kl, 0, none⟩)), (52, .pointer (some ⟨k, 1, none⟩)), (51, .pointer (some ⟨k, 0, none⟩)), (50, .pointer (some ⟨k, 0, none⟩))]) (fun φ3 => [((φ1 0), .cells #[.int .u64 ((b : Nat) : Int), .pointer (some ⟨kk, 0, none⟩)] 27)]) (fun φ3 => [k]) s ⟨hk2, trivial⟩ (fun φ3 => by kernel_rfl) ?_
      intro φ3 w3 s
      refine ops_done (by kernel_rfl) ?_
      refine cond_false_rule (b := false) (by kernel_rfl) rfl ?_
      refine wp_skip ?_
      refine wp_seq ?_
      refine draw_rule (C := [(k, .cells #[.int .u64 ((b : Nat) : Int), .pointer (some ⟨kl, 0, none⟩), .pointer (some ⟨kr, 0, none⟩)] 112)]) ⟨(fun φ4 xs4 => [.look 0 [.o 0, .o 0] [(φ1 0), (φ1 0)], .call 39 #[.agg #[.int .u64 ((b : Nat) : Int), .pointer (some ⟨kk, 0, none⟩)]], .look 0 [] [], .look 0 [] [], .look 0 [] [], .look 0 [.c 0] [k], .call 23 #[.agg #[.int .u64 (((xs4 1).n 0 : Nat) : Int), .pointer ((xs4 1).p 0)], .pointer (some ⟨kl, 0, none⟩)], .look 0 [] [], .look 0 [.o 0, .o 0] [(φ1 0), (φ1 0)], .call 40 #[.agg #[.int .u64 ((b : Nat) : Int), .pointer (some ⟨kk, 0, none⟩)]], .look 0 [] [], .look 0 [] [], .look 0 [] [], .look 0 [.c 0] [k], .call 23 #[.agg #[.int .u64 (((xs4 9).n 0 : Nat) : Int), .pointer ((xs4 9).p 0)], .pointer (some ⟨kr, 0, none⟩)], .look 0 [] [], .look 0 [] []]), (fun φ4 xs4 => [.agg #[.int .u64 ((b : Nat) : Int), .pointer (some ⟨kk, 0, none⟩)], .agg #[.int .u64 (((xs4 1).n 0 : Nat) : Int), .pointer ((xs4 1).p 0)], .pointer (some ⟨k, 0, none⟩), .pointer (some ⟨k, 0, none⟩), .pointer (some ⟨k, 1, none⟩), .pointer (some ⟨kl, 0, none⟩), .bool true, .bool true, .agg #[.int .u64 ((b : Nat) : Int), .pointer (some ⟨kk, 0, none⟩)], .agg #[.int .u64 (((xs4 9).n 0 : Nat) : Int), .pointer ((xs4 9).p 0)], .pointer (some ⟨k, 0, none⟩), .pointer (some ⟨k, 0, none⟩), .pointer (some ⟨k, 2, none⟩), .pointer (some ⟨kr, 0, none⟩), .bool true, .bool true, .bool true]), (fun φ4 xs4 => [[((φ1 0), .cells #[.int .u64 ((b : Nat) : Int), .pointer (some ⟨kk, 0, none⟩)] 27)]]), (fun φ4 xs4 => [[default, default, default, default, default, default, default, default, default, default, default, default, default, default, default, default, default]]), [], [1, 3, 1, 1, 1, 1, 3, 1, 1, 3, 1, 1, 1, 1, 3, 1, 1]⟩ (fun j => ([MP.any, ⟨fun x J => ERep J l (x.n 0) (x.p 0), fun le h => ERep.mono le h⟩, MP.any, MP.any, MP.any, MP.any, MP.any, MP.any, MP.any, ⟨fun x J => ERep J r (x.n 0) (x.p 0), fun le h => ERep.mono le h⟩, MP.any, MP.any, MP.any, MP.any, MP.any, MP.any, MP.any] : List MP).getD j MP.any) [1, 6, 9, 14] [] [] (fun φ4 xs4 => []) (fun φ4 xs4 => [(65, .agg #[.int .u64 ((b : Nat) : Int), .pointer (some ⟨kk, 0, none⟩)]), (66, .agg #[.int .u64 (((xs4 1).n 0 : Nat) : Int), .pointer ((xs4 1).p 0)]), (67, .pointer (some ⟨k, 0, none⟩)), (68, .pointer (some ⟨k, 0, none⟩)), (69, .pointer (some ⟨k, 1, none⟩)), (70, .pointer (some ⟨kl, 0, none⟩)), (71, .bool true), (72, .bool true), (73, .agg #[.int .u64 ((b : Nat) : Int), .pointer (some ⟨kk, 0, none⟩)]), (74, .agg #[.int .u64 (((xs4 9).n 0 : Nat) : Int), .pointer ((xs4 9).p 0)]), (75, .pointer (some ⟨k, 0, none⟩)), (76, .pointer (some ⟨k, 0, none⟩)), (77, .pointer (some ⟨k, 2, none⟩)), (78, .pointer (some ⟨kr, 0, none⟩)), (79, .bool true), (80, .bool true), (4, .bool true)]) (fun φ4 xs4 => [((φ1 0), .cells #[.int .u64 ((b : Nat) : Int), .pointer (some ⟨kk, 0, none⟩)] 27)]) s ⟨hk2, trivial⟩ (by kernel_rfl) (by kernel_rfl) (fun _ _ => by kernel_rfl) (fun _ _ => by kernel_rfl) ⟨fun _ _ => by kernel_rfl, fun _ _ => by kernel_rfl, fun _ _ => by kernel_rfl, fun _ _ => by kernel_rfl⟩ (fun _ _ _ => by kernel_rfl) (fun _ _ => by kernel_rfl) (fun _ _ => by kernel_rfl) (fun _ _ => by kernel_rfl) (fun _ _ => by kernel_rfl) (fun _ _ => by kernel_rfl) trivial trivial (by kernel_rfl) ⟨?c4_1, ?c4_6, ?c4_9, ?c4_14, trivial⟩ ?k4
      case c4_1 =>
        refine kcast (A := ∀ (φ4 : Nat → Nat) (xs4 : Xs) (J1_4 : IM), I2.Le J1_4 → Fun Tryd.prog 39 #[.agg #[.int .u64 ((b : Nat) : Int), .pointer (some ⟨kk, 0, none⟩)]] J1_4 (fun v J' => ∃ x : UX, v = .agg #[.int .u64 ((x.n 0 : Nat) : Int), .pointer (x.p 0)] ∧ (ERep J' l (x.n 0) (x.p 0)))) (by kernel_rfl) ?_
        intro φ4 xs4 J1_4 leJ
        have hn0 := ERep.mono leJ hn0
        exact Fun.mono (left_c hn0) (fun v J' _ ⟨y0, y1, hv, g0⟩ => ⟨{ UX.d with n := fun j => y0, p := fun j => y1 }, hv, g0⟩)
      case c4_6 =>
        refine kcast (A := ∀ (φ4 : Nat → Nat) (xs4 : Xs) (J6_4 : IM), I2.Le J6_4 → (ERep J6_4 l ((xs4 1).n 0) ((xs4 1).p 0)) → Fun Tryd.prog 23 #[.agg #[.int .u64 (((xs4 1).n 0 : Nat) : Int), .pointer ((xs4 1).p 0)], .pointer (some ⟨kl, 0, none⟩)] J6_4 (fun v J' => ∃ x : UX, v = .bool true ∧ (True))) (by kernel_rfl) ?_
        intro φ4 xs4 J6_4 leJ
        rintro h4_1_0
        have hT := Tab.mono leJ hT
        have hl2 := RE.mono leJ hl2
        exact Fun.mono (ihl hT h4_1_0 hl2) (fun v J' _ h => ⟨UX.d, h, trivial⟩)
      case c4_9 =>
        refine kcast (A := ∀ (φ4 : Nat → Nat) (xs4 : Xs) (J9_4 : IM), I2.Le J9_4 → (ERep J9_4 l ((xs4 1).n 0) ((xs4 1).p 0)) → (True) → Fun Tryd.prog 40 #[.agg #[.int .u64 ((b : Nat) : Int), .pointer (some ⟨kk, 0, none⟩)]] J9_4 (fun v J' => ∃ x : UX, v = .agg #[.int .u64 ((x.n 0 : Nat) : Int), .pointer (x.p 0)] ∧ (ERep J' r (x.n 0) (x.p 0)))) (by kernel_rfl) ?_
        intro φ4 xs4 J9_4 leJ
        rintro h4_1_0 _
        have hn0 := ERep.mono leJ hn0
        exact Fun.mono (right_c hn0) (fun v J' _ ⟨y0, y1, hv, g0⟩ => ⟨{ UX.d with n := fun j => y0, p := fun j => y1 }, hv, g0⟩)
      case c4_14 =>
        refine kcast (A := ∀ (φ4 : Nat → Nat) (xs4 : Xs) (J14_4 : IM), I2.Le J14_4 → (ERep J14_4 l ((xs4 1).n 0) ((xs4 1).p 0)) → (True) → (ERep J14_4 r ((xs4 9).n 0) ((xs4 9).p 0)) → Fun Tryd.prog 23 #[.agg #[.int .u64 (((xs4 9).n 0 : Nat) : Int), .pointer ((xs4 9).p 0)], .pointer (some ⟨kr, 0, none⟩)] J14_4 (fun v J' => ∃ x : UX, v = .bool true ∧ (True))) (by kernel_rfl) ?_
        intro φ4 xs4 J14_4 leJ
        rintro h4_1_0 _ h4_9_0
        have hT := Tab.mono leJ hT
        have hr2 := RE.mono leJ hr2
        exact Fun.mono (ihr hT h4_9_0 hr2) (fun v J' _ h => ⟨UX.d, h, trivial⟩)
      case k4 =>
        rintro φ4 xs4 I4 w4 le4 s h4_1_0 _ h4_9_0 _
        replace hT := Tab.mono le4 hT
        replace hl := ERep.mono le4 hl
        replace hr := ERep.mono le4 hr
        replace hn0 := ERep.mono le4 hn0
        replace hre := RE.mono le4 hre
        replace hl2 := RE.mono le4 hl2
        replace hr2 := RE.mono le4 hr2
        replace hk := le4 _ _ hk
        replace hk2 := le4 _ _ hk2
        refine wp_ret ?_
        refine ret_rule (C := []) [((φ1 0), .cells #[.int .u64 ((b : Nat) : Int), .pointer (some ⟨kk, 0, none⟩)] 27)] [] (.bool true) [] [] s trivial (by kernel_rfl) ?_
        exact ⟨_, _, _, rfl, s, rfl⟩

theorem likeE_c : ∀ (e : E) {I : IM} {b k : Nat} {p : Option Addr}, Tab I → ERep I e b p → RE I e k → e.nf → e.depth ≤ 8 → e.top < 18446744073709551616 → Fun Tryd.prog 23 #[evv b p, .pointer (some ⟨k, 0, none⟩)] I (fun v J => v = .bool true)
  | .leaf n, _, _, _, _, hT, h, h2, hn, hd, ht => likeE_step hT h h2 hn hd ht (fun n l r h => by cases h)
  | .node n l r, _, _, _, _, hT, h, h2, hn, hd, ht => likeE_step hT h h2 hn hd ht (fun n' l' r' e => by
      cases e
      have ht1 : n + max l.top r.top < 18446744073709551616 := ht
      have hd1 : 1 + max l.depth r.depth ≤ 8 := hd
      exact ⟨fun {J} {b} {k} {p} a1 a2 a3 => likeE_c l a1 a2 a3 hn.1 (by omega) (by omega), fun {J} {b} {k} {p} a1 a2 a3 => likeE_c r a1 a2 a3 hn.2.1 (by omega) (by omega)⟩)

end Go.Proofs.YtgdickihjaomjaaDoor
