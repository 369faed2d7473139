/- The document's events: Node. -/
import Derived.Test.YtgdickihjaomjaaSwP10
set_option linter.all false
set_option maxRecDepth 100000
namespace Go.Proofs.Ytgdickihjaomjaa.Ev
open Go.RowKit Go.Sep

theorem rminB_c {I : IM} {e : E} {k : Nat} (h : RE I e k) (hn : e.nf) (ht : e.top < 18446744073709551616) : Fun Try.prog 60 #[.pointer (some ⟨k, 0, none⟩)] I (fun v _ => v = .int .u64 ((e.base : Nat) : Int)) :=
  (rmin_c e h ht).mono fun v J _ hv => by rw [hv, E.min_base hn]
theorem mk_node9 {n m : Nat} {l r : E} (hc : ¬ (l.isLeaf = true ∧ r.isLeaf = true ∧ l.base = r.base)) (hm : min l.base r.base = m) : E.mk n l r = .node (n + m) (E.dn m l) (E.dn m r) := by
  unfold E.mk; rw [if_neg hc, hm]
theorem mk_leaf9 {n a b : Nat} (h : a = b) : E.mk n (.leaf a) (.leaf b) = .leaf (n + a) := by
  unfold E.mk; rw [if_pos ⟨rfl, rfl, h⟩]; rfl

set_option maxHeartbeats 4000000 in
theorem rnode_c {I : IM} {n : Nat} {l r : E} {ka kb : Nat} (hl : RE I l ka) (hr : RE I r kb) (hnl : l.nf) (hnr : r.nf) (hb : n + max l.top r.top < 18446744073709551616) : Fun Try.prog 47 #[.int .u64 ((n : Nat) : Int), .pointer (some ⟨ka, 0, none⟩), .pointer (some ⟨kb, 0, none⟩)] I (fun v J => ∃ k, v = .pointer (some ⟨k, 0, none⟩) ∧ RE J (E.mk n l r) k) := by
  have htl : l.top < 18446744073709551616 := by omega
  have htr : r.top < 18446744073709551616 := by omega
  have hbl := E.base_le l
  have hbr := E.base_le r
  cases l with
  | leaf a =>
    cases r with
    | leaf b =>
      have hna := hnl
      have hta := htl
      have hl0 : RE _ (E.leaf a) ka := hl
      have hab : a ≤ (E.leaf a).top := hbl
      have hnb := hnr
      have htb := htr
      have hr0 : RE _ (E.leaf b) kb := hr
      have hbb : b ≤ (E.leaf b).top := hbr
      refine enter_rule 83 [(0, .int .u64 ((n : Nat) : Int)), (1, .pointer (some ⟨ka, 0, none⟩)), (2, .pointer (some ⟨kb, 0, none⟩))] Try.func47 rfl (by kernel_rfl) ?_
      intro w s
      refine wp_seq ?_
      refine region_rule ?_
      refine ops_rule (C := []) [] [] 1 [] 0 (fun φ1 => [(6, .pointer none)]) (fun φ1 => []) (fun φ1 => []) s trivial (fun φ1 => by kernel_rfl) ?_
      intro φ1 w1 s
      refine ops_done (by kernel_rfl) ?_
      refine wp_seq ?_
      refine wp_seq ?_
      refine draw_rule (C := [(ka, .cells #[.int .u64 ((a : Nat) : Int), .pointer none, .pointer none] 86), (kb, .cells #[.int .u64 ((b : Nat) : Int), .pointer none, .pointer none] 86)]) ⟨(fun φ2 xs2 => [.look 0 [] [], .look 0 [] [], .look 0 [] [], .look 0 [.c 0] [ka], .look 0 [] [], .look 0 [] [], .look 0 [] [], .look 0 [] [], .look 0 [] [], .look 0 [.c 1] [kb], .look 0 [] [], .look 0 [] [], .look 0 [] [], .look 0 [] [], .look 0 [] [], .look 0 [] [], .look 0 [.c 0] [ka], .look 0 [] [], .look 0 [] [], .look 0 [] [], .look 0 [.c 1] [kb], .sub 0 [] [] (.bool (((a : Nat) : Int) == ((b : Nat) : Int))), .look 0 [] []]), (fun φ2 xs2 => [.pointer (some ⟨ka, 0, none⟩), .pointer (some ⟨ka, 0, none⟩), .pointer (some ⟨ka, 1, none⟩), .pointer none, .bool true, .bool true, .pointer (some ⟨kb, 0, none⟩), .pointer (some ⟨kb, 0, none⟩), .pointer (some ⟨kb, 1, none⟩), .pointer none, .bool true, .bool true, .bool true, .pointer (some ⟨ka, 0, none⟩), .pointer (some ⟨ka, 0, none⟩), .pointer (some ⟨ka, 0, none⟩), .int .u64 ((a : Nat) : Int), .pointer (some ⟨kb, 0, none⟩), .pointer (some ⟨kb, 0, none⟩), .pointer (some ⟨kb, 0, none⟩), .int .u64 ((b : Nat) : Int), .bool (decide (a = b)), .bool (decide (a = b))]), (fun φ2 xs2 => [[]]), (fun φ2 xs2 => [[default, default, default, default, default, default, default, default, default, default, default, default, default, default, default, default, default, default, default, default, default, default, default]]), [], [1, 1, 1, 1, 1, 1, 1, 1, 1, 1, 1, 1, 1, 1, 1, 1, 1, 1, 1, 1, 1, 5, 1]⟩ (fun j => ([MP.any, MP.any, MP.any, MP.any, MP.any, MP.any, MP.any, MP.any, MP.any, MP.any, MP.any, MP.any, MP.any, MP.any, MP.any, MP.any, MP.any, MP.any, MP.any, MP.any, MP.any, MP.any, MP.any] : List MP).getD j MP.any) [] [21] [] (fun φ2 xs2 => []) (fun φ2 xs2 => [(8, .pointer (some ⟨ka, 0, none⟩)), (9, .pointer (some ⟨ka, 0, none⟩)), (10, .pointer (some ⟨ka, 1, none⟩)), (11, .pointer none), (12, .bool true), (13, .bool true), (14, .pointer (some ⟨kb, 0, none⟩)), (15, .pointer (some ⟨kb, 0, none⟩)), (16, .pointer (some ⟨kb, 1, none⟩)), (17, .pointer none), (18, .bool true), (19, .bool true), (20, .bool true), (21, .pointer (some ⟨ka, 0, none⟩)), (22, .pointer (some ⟨ka, 0, none⟩)), (23, .pointer (some ⟨ka, 0, none⟩)), (24, .int .u64 ((a : Nat) : Int)), (25, .pointer (some ⟨kb, 0, none⟩)), (26, .pointer (some ⟨kb, 0, none⟩)), (27, .pointer (some ⟨kb, 0, none⟩)), (28, .int .u64 ((b : Nat) : Int)), (29, .bool (decide (a = b))), (30, .bool (decide (a = b)))]) (fun φ2 xs2 => []) s ⟨hl, ⟨hr, trivial⟩⟩ (by kernel_rfl) (by kernel_rfl) (fun _ _ => by kernel_rfl) (fun _ _ => by kernel_rfl) ⟨fun _ _ => by kernel_rfl, fun _ _ => by kernel_rfl, fun _ _ => by kernel_rfl, fun _ _ => by kernel_rfl⟩ (fun _ _ _ => by kernel_rfl) (fun _ _ => by kernel_rfl) (fun _ _ => by kernel_rfl) (fun _ _ => by kernel_rfl) (fun _ _ => by kernel_rfl) (fun _ _ => by kernel_rfl) ⟨kcast (A := ∀ (φ2 : Nat → Nat) (xs2 : Xs), (.bool (((a : Nat) : Int) == ((b : Nat) : Int)) : Value) = .bool (decide (a = b))) (by kernel_rfl) (fun φ2 xs2 => congrArg Value.bool ((nat_eql (a := a) (b := b)))), trivial⟩ trivial (by kernel_rfl) trivial ?k2
      case k2 =>
        rintro φ2 xs2 I2 w2 le2 s 
        replace hl0 := RE.mono le2 hl0
        replace hr0 := RE.mono le2 hr0
        replace hl := le2 _ _ hl
        replace hr := le2 _ _ hr
        rcases Bool.eq_false_or_eq_true (decide (a = b)) with hc3 | hc3
        ·
          rw [hc3]
          refine cond_true_rule (b := true) (by kernel_rfl) rfl ?_
          refine wp_seq ?_
          refine region_rule ?_
          refine ops_rule (C := [(ka, .cells #[.int .u64 ((a : Nat) : Int), .pointer none, .pointer none] 86)]) [] [] 6 [.c 0] 0 (fun φ4 => [(36, .int .u64 (IntKind.wrap .u64 (((n : Nat) : Int) + ((a : Nat) : Int)))), (35, .int .u64 ((a : Nat) : Int)), (34, .pointer (some ⟨ka, 0, none⟩)), (33, .pointer (some ⟨ka, 0, none⟩)), (32, .pointer (some ⟨ka, 0, none⟩)), (31, .int .u64 ((n : Nat) : Int))]) (fun φ4 => []) (fun φ4 => [ka]) s ⟨hl, trivial⟩ (fun φ4 => by kernel_rfl) ?_
          intro φ4 w4 s
          rw [nat_addU (a := n) (b := a) (by have hq0 := of_decide_eq_true hc3; omega)]
          refine call_rule (some 37) s (rleaf_c (n := (n + a))) (by kernel_rfl) ?_
          intro v5 I5 w5 le5 h5 s
          replace hl0 := RE.mono le5 hl0
          replace hr0 := RE.mono le5 hr0
          replace hl := le5 _ _ hl
          replace hr := le5 _ _ hr
          obtain ⟨k5, rfl, h5_0⟩ := h5
          refine ops_rule (C := []) [] [] 1 [] 0 (fun φ6 => [(6, .pointer (some ⟨k5, 0, none⟩))]) (fun φ6 => []) (fun φ6 => []) s trivial (fun φ6 => by kernel_rfl) ?_
          intro φ6 w6 s
          refine ops_done (by kernel_rfl) ?_
          refine wp_ret ?_
          refine ret_rule (C := []) [] [] (.pointer (some ⟨k5, 0, none⟩)) [] [] s trivial (by kernel_rfl) ?_
          exact ⟨_, _, _, rfl, s, ⟨_, rfl, by rw [mk_leaf9 (of_decide_eq_true hc3)]; exact h5_0⟩⟩
        ·
          rw [hc3]
          refine cond_false_rule (b := false) (by kernel_rfl) rfl ?_
          refine wp_skip ?_
          refine wp_seq ?_
          refine region_rule ?_
          refine ops_rule (C := []) [] [] 1 [] 0 (fun φ7 => [(38, .pointer (some ⟨ka, 0, none⟩))]) (fun φ7 => []) (fun φ7 => []) s trivial (fun φ7 => by kernel_rfl) ?_
          intro φ7 w7 s
          refine call_rule (some 39) s (rminB_c hl0 hna hta) (by kernel_rfl) ?_
          intro v8 I8 w8 le8 h8 s
          replace hl0 := RE.mono le8 hl0
          replace hr0 := RE.mono le8 hr0
          replace hl := le8 _ _ hl
          replace hr := le8 _ _ hr
          obtain rfl := h8
          refine ops_rule (C := []) [] [] 1 [] 0 (fun φ9 => [(7, .int .u64 ((a : Nat) : Int))]) (fun φ9 => []) (fun φ9 => []) s trivial (fun φ9 => by kernel_rfl) ?_
          intro φ9 w9 s
          refine ops_done (by kernel_rfl) ?_
          refine wp_seq ?_
          refine wp_seq ?_
          refine region_rule ?_
          refine ops_rule (C := []) [] [] 1 [] 0 (fun φ10 => [(40, .pointer (some ⟨kb, 0, none⟩))]) (fun φ10 => []) (fun φ10 => []) s trivial (fun φ10 => by kernel_rfl) ?_
          intro φ10 w10 s
          refine call_rule (some 41) s (rminB_c hr0 hnb htb) (by kernel_rfl) ?_
          intro v11 I11 w11 le11 h11 s
          replace hl0 := RE.mono le11 hl0
          replace hr0 := RE.mono le11 hr0
          replace hl := le11 _ _ hl
          replace hr := le11 _ _ hr
          obtain rfl := h11
          refine ops_rule (C := []) [] [] 2 [] 0 (fun φ12 => [(43, .bool (decide (((b : Nat) : Int) < ((a : Nat) : Int)))), (42, .int .u64 ((a : Nat) : Int))]) (fun φ12 => []) (fun φ12 => []) s trivial (fun φ12 => by kernel_rfl) ?_
          intro φ12 w12 s
          rw [nat_lss (a := b) (b := a)]
          refine ops_done (by kernel_rfl) ?_
          rcases Bool.eq_false_or_eq_true (decide (b < a)) with hc13 | hc13
          ·
            rw [hc13]
            refine cond_true_rule (b := true) (by kernel_rfl) rfl ?_
            refine region_rule ?_
            refine ops_rule (C := []) [] [] 1 [] 0 (fun φ14 => [(44, .pointer (some ⟨kb, 0, none⟩))]) (fun φ14 => []) (fun φ14 => []) s trivial (fun φ14 => by kernel_rfl) ?_
            intro φ14 w14 s
            refine call_rule (some 45) s (rminB_c hr0 hnb htb) (by kernel_rfl) ?_
            intro v15 I15 w15 le15 h15 s
            replace hl0 := RE.mono le15 hl0
            replace hr0 := RE.mono le15 hr0
            replace hl := le15 _ _ hl
            replace hr := le15 _ _ hr
            obtain rfl := h15
            refine ops_rule (C := []) [] [] 1 [] 0 (fun φ16 => [(7, .int .u64 ((b : Nat) : Int))]) (fun φ16 => []) (fun φ16 => []) s trivial (fun φ16 => by kernel_rfl) ?_
            intro φ16 w16 s
            refine ops_done (by kernel_rfl) ?_
            refine wp_seq ?_
            refine draw_rule (C := [(ka, .cells #[.int .u64 ((a : Nat) : Int), .pointer none, .pointer none] 86), (kb, .cells #[.int .u64 ((b : Nat) : Int), .pointer none, .pointer none] 86)]) ⟨(fun φ17 xs17 => [.look 0 [] [], .look 0 [] [], .sub 0 [] [] (.int .u64 (IntKind.wrap .u64 (((n : Nat) : Int) + ((b : Nat) : Int)))), .look 0 [] [], .look 0 [] [], .look 0 [] [], .look 0 [.c 0] [ka], .look 0 [] [], .sub 0 [] [] (.int .u64 (IntKind.wrap .u64 (((a : Nat) : Int) - ((b : Nat) : Int)))), .look 0 [] [], .look 0 [] [], .look 0 [] [], .look 0 [.c 0] [ka], .look 0 [] [], .look 0 [] [], .look 0 [] [], .look 0 [.c 0] [ka], .look 0 [] [], .new, .look 0 [] [], .look 0 [] [], .look 0 [] [], .look 0 [.c 1] [kb], .look 0 [] [], .sub 0 [] [] (.int .u64 (IntKind.wrap .u64 (((b : Nat) : Int) - ((b : Nat) : Int)))), .look 0 [] [], .look 0 [] [], .look 0 [] [], .look 0 [.c 1] [kb], .look 0 [] [], .look 0 [] [], .look 0 [] [], .look 0 [.c 1] [kb], .look 0 [] [], .new, .look 0 [] [], .new, .look 0 [] []]), (fun φ17 xs17 => [.int .u64 ((n : Nat) : Int), .int .u64 ((b : Nat) : Int), .int .u64 ((n + b : Nat) : Int), .pointer (some ⟨ka, 0, none⟩), .pointer (some ⟨ka, 0, none⟩), .pointer (some ⟨ka, 0, none⟩), .int .u64 ((a : Nat) : Int), .int .u64 ((b : Nat) : Int), .int .u64 ((a - b : Nat) : Int), .pointer (some ⟨ka, 0, none⟩), .pointer (some ⟨ka, 0, none⟩), .pointer (some ⟨ka, 1, none⟩), .pointer none, .pointer (some ⟨ka, 0, none⟩), .pointer (some ⟨ka, 0, none⟩), .pointer (some ⟨ka, 2, none⟩), .pointer none, .agg #[.int .u64 ((a - b : Nat) : Int), .pointer none, .pointer none], .pointer (some ⟨(φ17 18), 0, none⟩), .pointer (some ⟨kb, 0, none⟩), .pointer (some ⟨kb, 0, none⟩), .pointer (some ⟨kb, 0, none⟩), .int .u64 ((b : Nat) : Int), .int .u64 ((b : Nat) : Int), .int .u64 ((b - b : Nat) : Int), .pointer (some ⟨kb, 0, none⟩), .pointer (some ⟨kb, 0, none⟩), .pointer (some ⟨kb, 1, none⟩), .pointer none, .pointer (some ⟨kb, 0, none⟩), .pointer (some ⟨kb, 0, none⟩), .pointer (some ⟨kb, 2, none⟩), .pointer none, .agg #[.int .u64 ((b - b : Nat) : Int), .pointer none, .pointer none], .pointer (some ⟨(φ17 34), 0, none⟩), .agg #[.int .u64 ((n + b : Nat) : Int), .pointer (some ⟨(φ17 18), 0, none⟩), .pointer (some ⟨(φ17 34), 0, none⟩)], .pointer (some ⟨(φ17 36), 0, none⟩), .pointer (some ⟨(φ17 36), 0, none⟩)]), (fun φ17 xs17 => [[]]), (fun φ17 xs17 => [[default, default, default, default, default, default, default, default, default, default, default, default, default, default, default, default, default, default, .cells #[.int .u64 ((a - b : Nat) : Int), .pointer none, .pointer none] 86, default, default, default, default, default, default, default, default, default, default, default, default, default, default, default, .cells #[.int .u64 ((b - b : Nat) : Int), .pointer none, .pointer none] 86, default, .cells #[.int .u64 ((n + b : Nat) : Int), .pointer (some ⟨(φ17 18), 0, none⟩), .pointer (some ⟨(φ17 34), 0, none⟩)] 86, default]]), [], [1, 1, 5, 1, 1, 1, 1, 1, 5, 1, 1, 1, 1, 1, 1, 1, 1, 1, 2, 1, 1, 1, 1, 1, 5, 1, 1, 1, 1, 1, 1, 1, 1, 1, 2, 1, 2, 1]⟩ (fun j => ([MP.any, MP.any, MP.any, MP.any, MP.any, MP.any, MP.any, MP.any, MP.any, MP.any, MP.any, MP.any, MP.any, MP.any, MP.any, MP.any, MP.any, MP.any, MP.any, MP.any, MP.any, MP.any, MP.any, MP.any, MP.any, MP.any, MP.any, MP.any, MP.any, MP.any, MP.any, MP.any, MP.any, MP.any, MP.any, MP.any, MP.any, MP.any] : List MP).getD j MP.any) [] [2, 8, 24] [] (fun φ17 xs17 => []) (fun φ17 xs17 => [(46, .int .u64 ((n : Nat) : Int)), (47, .int .u64 ((b : Nat) : Int)), (48, .int .u64 ((n + b : Nat) : Int)), (49, .pointer (some ⟨ka, 0, none⟩)), (50, .pointer (some ⟨ka, 0, none⟩)), (51, .pointer (some ⟨ka, 0, none⟩)), (52, .int .u64 ((a : Nat) : Int)), (53, .int .u64 ((b : Nat) : Int)), (54, .int .u64 ((a - b : Nat) : Int)), (55, .pointer (some ⟨ka, 0, none⟩)), (56, .pointer (some ⟨ka, 0, none⟩)), (57, .pointer (some ⟨ka, 1, none⟩)), (58, .pointer none), (59, .pointer (some ⟨ka, 0, none⟩)), (60, .pointer (some ⟨ka, 0, none⟩)), (61, .pointer (some ⟨ka, 2, none⟩)), (62, .pointer none), (63, .agg #[.int .u64 ((a - b : Nat) : Int), .pointer none, .pointer none]), (64, .pointer (some ⟨(φ17 18), 0, none⟩)), (65, .pointer (some ⟨kb, 0, none⟩)), (66, .pointer (some ⟨kb, 0, none⟩)), (67, .pointer (some ⟨kb, 0, none⟩)), (68, .int .u64 ((b : Nat) : Int)), (69, .int .u64 ((b : Nat) : Int)), (70, .int .u64 ((b - b : Nat) : Int)), (71, .pointer (some ⟨kb, 0, none⟩)), (72, .pointer (some ⟨kb, 0, none⟩)), (73, .pointer (some ⟨kb, 1, none⟩)), (74, .pointer none), (75, .pointer (some ⟨kb, 0, none⟩)), (76, .pointer (some ⟨kb, 0, none⟩)), (77, .pointer (some ⟨kb, 2, none⟩)), (78, .pointer none), (79, .agg #[.int .u64 ((b - b : Nat) : Int), .pointer none, .pointer none]), (80, .pointer (some ⟨(φ17 34), 0, none⟩)), (81, .agg #[.int .u64 ((n + b : Nat) : Int), .pointer (some ⟨(φ17 18), 0, none⟩), .pointer (some ⟨(φ17 34), 0, none⟩)]), (82, .pointer (some ⟨(φ17 36), 0, none⟩)), (6, .pointer (some ⟨(φ17 36), 0, none⟩))]) (fun φ17 xs17 => [((φ17 18), .cells #[.int .u64 ((a - b : Nat) : Int), .pointer none, .pointer none] 86), ((φ17 34), .cells #[.int .u64 ((b - b : Nat) : Int), .pointer none, .pointer none] 86), ((φ17 36), .cells #[.int .u64 ((n + b : Nat) : Int), .pointer (some ⟨(φ17 18), 0, none⟩), .pointer (some ⟨(φ17 34), 0, none⟩)] 86)]) s ⟨hl, ⟨hr, trivial⟩⟩ (by kernel_rfl) (by kernel_rfl) (fun _ _ => by kernel_rfl) (fun _ _ => by kernel_rfl) ⟨fun _ _ => by kernel_rfl, fun _ _ => by kernel_rfl, fun _ _ => by kernel_rfl, fun _ _ => by kernel_rfl⟩ (fun _ _ _ => by kernel_rfl) (fun _ _ => by kernel_rfl) (fun _ _ => by kernel_rfl) (fun _ _ => by kernel_rfl) (fun _ _ => by kernel_rfl) (fun _ _ => by kernel_rfl) ⟨kcast (A := ∀ (φ17 : Nat → Nat) (xs17 : Xs), (.int .u64 (IntKind.wrap .u64 (((n : Nat) : Int) + ((b : Nat) : Int))) : Value) = .int .u64 ((n + b : Nat) : Int)) (by kernel_rfl) (fun φ17 xs17 => congrArg (Value.int .u64) ((nat_addU (a := n) (b := b) (by have hq0 := of_decide_eq_false hc3; have hq1 := of_decide_eq_true hc13; omega)))), ⟨kcast (A := ∀ (φ17 : Nat → Nat) (xs17 : Xs), (.int .u64 (IntKind.wrap .u64 (((a : Nat) : Int) - ((b : Nat) : Int))) : Value) = .int .u64 ((a - b : Nat) : Int)) (by kernel_rfl) (fun φ17 xs17 => congrArg (Value.int .u64) ((nat_subU (a := a) (b := b) (by have hq0 := of_decide_eq_false hc3; have hq1 := of_decide_eq_true hc13; omega) (by have hq0 := of_decide_eq_false hc3; have hq1 := of_decide_eq_true hc13; omega)))), ⟨kcast (A := ∀ (φ17 : Nat → Nat) (xs17 : Xs), (.int .u64 (IntKind.wrap .u64 (((b : Nat) : Int) - ((b : Nat) : Int))) : Value) = .int .u64 ((b - b : Nat) : Int)) (by kernel_rfl) (fun φ17 xs17 => congrArg (Value.int .u64) ((nat_subU (a := b) (b := b) (by have hq0 := of_decide_eq_false hc3; have hq1 := of_decide_eq_true hc13; omega) (by have hq0 := of_decide_eq_false hc3; have hq1 := of_decide_eq_true hc13; omega)))), trivial⟩⟩⟩ trivial (by kernel_rfl) trivial ?k17
            case k17 =>
              rintro φ17 xs17 I17 w17 le17 s 
              replace hl0 := RE.mono le17 hl0
              replace hr0 := RE.mono le17 hr0
              replace hl := le17 _ _ hl
              replace hr := le17 _ _ hr
              refine wp_ret ?_
              refine ret_rule (C := []) [((φ17 18), .cells #[.int .u64 ((a - b : Nat) : Int), .pointer none, .pointer none] 86), ((φ17 34), .cells #[.int .u64 ((b - b : Nat) : Int), .pointer none, .pointer none] 86), ((φ17 36), .cells #[.int .u64 ((n + b : Nat) : Int), .pointer (some ⟨(φ17 18), 0, none⟩), .pointer (some ⟨(φ17 34), 0, none⟩)] 86)] [] (.pointer (some ⟨(φ17 36), 0, none⟩)) [] [] s trivial (by kernel_rfl) ?_
              obtain ⟨I18, le18, hk18, s⟩ := s.freezeAt 0 (φ17 18) (.cells #[.int .u64 ((a - b : Nat) : Int), .pointer none, .pointer none] 86) [((φ17 34), .cells #[.int .u64 ((b - b : Nat) : Int), .pointer none, .pointer none] 86), ((φ17 36), .cells #[.int .u64 ((n + b : Nat) : Int), .pointer (some ⟨(φ17 18), 0, none⟩), .pointer (some ⟨(φ17 34), 0, none⟩)] 86)] (by kernel_rfl) (by kernel_rfl)
              replace hl0 := RE.mono le18 hl0
              replace hr0 := RE.mono le18 hr0
              replace hl := le18 _ _ hl
              replace hr := le18 _ _ hr
              obtain ⟨I19, le19, hk19, s⟩ := s.freezeAt 0 (φ17 34) (.cells #[.int .u64 ((b - b : Nat) : Int), .pointer none, .pointer none] 86) [((φ17 36), .cells #[.int .u64 ((n + b : Nat) : Int), .pointer (some ⟨(φ17 18), 0, none⟩), .pointer (some ⟨(φ17 34), 0, none⟩)] 86)] (by kernel_rfl) (by kernel_rfl)
              replace hl0 := RE.mono le19 hl0
              replace hr0 := RE.mono le19 hr0
              replace hl := le19 _ _ hl
              replace hr := le19 _ _ hr
              replace hk18 := le19 _ _ hk18
              obtain ⟨I20, le20, hk20, s⟩ := s.freezeAt 0 (φ17 36) (.cells #[.int .u64 ((n + b : Nat) : Int), .pointer (some ⟨(φ17 18), 0, none⟩), .pointer (some ⟨(φ17 34), 0, none⟩)] 86) [] (by kernel_rfl) (by kernel_rfl)
              replace hl0 := RE.mono le20 hl0
              replace hr0 := RE.mono le20 hr0
              replace hl := le20 _ _ hl
              replace hr := le20 _ _ hr
              replace hk18 := le20 _ _ hk18
              replace hk19 := le20 _ _ hk19
              have hcm := of_decide_eq_true hc13
              exact ⟨_, _, _, rfl, s, ⟨_, rfl, by rw [mk_node9 (l := E.leaf a) (r := E.leaf b) (m := b) (fun q => (of_decide_eq_false hc3) q.2.2) (show min a b = b by omega)]; exact ⟨_, _, hk20, hk18, hk19⟩⟩⟩
          ·
            rw [hc13]
            refine cond_false_rule (b := false) (by kernel_rfl) rfl ?_
            refine wp_skip ?_
            refine wp_seq ?_
            refine draw_rule (C := [(ka, .cells #[.int .u64 ((a : Nat) : Int), .pointer none, .pointer none] 86), (kb, .cells #[.int .u64 ((b : Nat) : Int), .pointer none, .pointer none] 86)]) ⟨(fun φ21 xs21 => [.look 0 [] [], .look 0 [] [], .sub 0 [] [] (.int .u64 (IntKind.wrap .u64 (((n : Nat) : Int) + ((a : Nat) : Int)))), .look 0 [] [], .look 0 [] [], .look 0 [] [], .look 0 [.c 0] [ka], .look 0 [] [], .sub 0 [] [] (.int .u64 (IntKind.wrap .u64 (((a : Nat) : Int) - ((a : Nat) : Int)))), .look 0 [] [], .look 0 [] [], .look 0 [] [], .look 0 [.c 0] [ka], .look 0 [] [], .look 0 [] [], .look 0 [] [], .look 0 [.c 0] [ka], .look 0 [] [], .new, .look 0 [] [], .look 0 [] [], .look 0 [] [], .look 0 [.c 1] [kb], .look 0 [] [], .sub 0 [] [] (.int .u64 (IntKind.wrap .u64 (((b : Nat) : Int) - ((a : Nat) : Int)))), .look 0 [] [], .look 0 [] [], .look 0 [] [], .look 0 [.c 1] [kb], .look 0 [] [], .look 0 [] [], .look 0 [] [], .look 0 [.c 1] [kb], .look 0 [] [], .new, .look 0 [] [], .new, .look 0 [] []]), (fun φ21 xs21 => [.int .u64 ((n : Nat) : Int), .int .u64 ((a : Nat) : Int), .int .u64 ((n + a : Nat) : Int), .pointer (some ⟨ka, 0, none⟩), .pointer (some ⟨ka, 0, none⟩), .pointer (some ⟨ka, 0, none⟩), .int .u64 ((a : Nat) : Int), .int .u64 ((a : Nat) : Int), .int .u64 ((a - a : Nat) : Int), .pointer (some ⟨ka, 0, none⟩), .pointer (some ⟨ka, 0, none⟩), .pointer (some ⟨ka, 1, none⟩), .pointer none, .pointer (some ⟨ka, 0, none⟩), .pointer (some ⟨ka, 0, none⟩), .pointer (some ⟨ka, 2, none⟩), .pointer none, .agg #[.int .u64 ((a - a : Nat) : Int), .pointer none, .pointer none], .pointer (some ⟨(φ21 18), 0, none⟩), .pointer (some ⟨kb, 0, none⟩), .pointer (some ⟨kb, 0, none⟩), .pointer (some ⟨kb, 0, none⟩), .int .u64 ((b : Nat) : Int), .int .u64 ((a : Nat) : Int), .int .u64 ((b - a : Nat) : Int), .pointer (some ⟨kb, 0, none⟩), .pointer (some ⟨kb, 0, none⟩), .pointer (some ⟨kb, 1, none⟩), .pointer none, .pointer (some ⟨kb, 0, none⟩), .pointer (some ⟨kb, 0, none⟩), .pointer (some ⟨kb, 2, none⟩), .pointer none, .agg #[.int .u64 ((b - a : Nat) : Int), .pointer none, .pointer none], .pointer (some ⟨(φ21 34), 0, none⟩), .agg #[.int .u64 ((n + a : Nat) : Int), .pointer (some ⟨(φ21 18), 0, none⟩), .pointer (some ⟨(φ21 34), 0, none⟩)], .pointer (some ⟨(φ21 36), 0, none⟩), .pointer (some ⟨(φ21 36), 0, none⟩)]), (fun φ21 xs21 => [[]]), (fun φ21 xs21 => [[default, default, default, default, default, default, default, default, default, default, default, default, default, default, default, default, default, default, .cells #[.int .u64 ((a - a : Nat) : Int), .pointer none, .pointer none] 86, default, default, default, default, default, default, default, default, default, default, default, default, default, default, default, .cells #[.int .u64 ((b - a : Nat) : Int), .pointer none, .pointer none] 86, default, .cells #[.int .u64 ((n + a : Nat) : Int), .pointer (some ⟨(φ21 18), 0, none⟩), .pointer (some ⟨(φ21 34), 0, none⟩)] 86, default]]), [], [1, 1, 5, 1, 1, 1, 1, 1, 5, 1, 1, 1, 1, 1, 1, 1, 1, 1, 2, 1, 1, 1, 1, 1, 5, 1, 1, 1, 1, 1, 1, 1, 1, 1, 2, 1, 2, 1]⟩ (fun j => ([MP.any, MP.any, MP.any, MP.any, MP.any, MP.any, MP.any, MP.any, MP.any, MP.any, MP.any, MP.any, MP.any, MP.any, MP.any, MP.any, MP.any, MP.any, MP.any, MP.any, MP.any, MP.any, MP.any, MP.any, MP.any, MP.any, MP.any, MP.any, MP.any, MP.any, MP.any, MP.any, MP.any, MP.any, MP.any, MP.any, MP.any, MP.any] : List MP).getD j MP.any) [] [2, 8, 24] [] (fun φ21 xs21 => []) (fun φ21 xs21 => [(46, .int .u64 ((n : Nat) : Int)), (47, .int .u64 ((a : Nat) : Int)), (48, .int .u64 ((n + a : Nat) : Int)), (49, .pointer (some ⟨ka, 0, none⟩)), (50, .pointer (some ⟨ka, 0, none⟩)), (51, .pointer (some ⟨ka, 0, none⟩)), (52, .int .u64 ((a : Nat) : Int)), (53, .int .u64 ((a : Nat) : Int)), (54, .int .u64 ((a - a : Nat) : Int)), (55, .pointer (some ⟨ka, 0, none⟩)), (56, .pointer (some ⟨ka, 0, none⟩)), (57, .pointer (some ⟨ka, 1, none⟩)), (58, .pointer none), (59, .pointer (some ⟨ka, 0, none⟩)), (60, .pointer (some ⟨ka, 0, none⟩)), (61, .pointer (some ⟨ka, 2, none⟩)), (62, .pointer none), (63, .agg #[.int .u64 ((a - a : Nat) : Int), .pointer none, .pointer none]), (64, .pointer (some ⟨(φ21 18), 0, none⟩)), (65, .pointer (some ⟨kb, 0, none⟩)), (66, .pointer (some ⟨kb, 0, none⟩)), (67, .pointer (some ⟨kb, 0, none⟩)), (68, .int .u64 ((b : Nat) : Int)), (69, .int .u64 ((a : Nat) : Int)), (70, .int .u64 ((b - a : Nat) : Int)), (71, .pointer (some ⟨kb, 0, none⟩)), (72, .pointer (some ⟨kb, 0, none⟩)), (73, .pointer (some ⟨kb, 1, none⟩)), (74, .pointer none), (75, .pointer (some ⟨kb, 0, none⟩)), (76, .pointer (some ⟨kb, 0, none⟩)), (77, .pointer (some ⟨kb, 2, none⟩)), (78, .pointer none), (79, .agg #[.int .u64 ((b - a : Nat) : Int), .pointer none, .pointer none]), (80, .pointer (some ⟨(φ21 34), 0, none⟩)), (81, .agg #[.int .u64 ((n + a : Nat) : Int), .pointer (some ⟨(φ21 18), 0, none⟩), .pointer (some ⟨(φ21 34), 0, none⟩)]), (82, .pointer (some ⟨(φ21 36), 0, none⟩)), (6, .pointer (some ⟨(φ21 36), 0, none⟩))]) (fun φ21 xs21 => [((φ21 18), .cells #[.int .u64 ((a - a : Nat) : Int), .pointer none, .pointer none] 86), ((φ21 34), .cells #[.int .u64 ((b - a : Nat) : Int), .pointer none, .pointer none] 86), ((φ21 36), .cells #[.int .u64 ((n + a : Nat) : Int), .pointer (some ⟨(φ21 18), 0, none⟩), .pointer (some ⟨(φ21 34), 0, none⟩)] 86)]) s ⟨hl, ⟨hr, trivial⟩⟩ (by kernel_rfl) (by kernel_rfl) (fun _ _ => by kernel_rfl) (fun _ _ => by kernel_rfl) ⟨fun _ _ => by kernel_rfl, fun _ _ => by kernel_rfl, fun _ _ => by kernel_rfl, fun _ _ => by kernel_rfl⟩ (fun _ _ _ => by kernel_rfl) (fun _ _ => by kernel_rfl) (fun _ _ => by kernel_rfl) (fun _ _ => by kernel_rfl) (fun _ _ => by kernel_rfl) (fun _ _ => by kernel_rfl) ⟨kcast (A := ∀ (φ21 : Nat → Nat) (xs21 : Xs), (.int .u64 (IntKind.wrap .u64 (((n : Nat) : Int) + ((a : Nat) : Int))) : Value) = .int .u64 ((n + a : Nat) : Int)) (by kernel_rfl) (fun φ21 xs21 => congrArg (Value.int .u64) ((nat_addU (a := n) (b := a) (by have hq0 := of_decide_eq_false hc3; have hq1 := of_decide_eq_false hc13; omega)))), ⟨kcast (A := ∀ (φ21 : Nat → Nat) (xs21 : Xs), (.int .u64 (IntKind.wrap .u64 (((a : Nat) : Int) - ((a : Nat) : Int))) : Value) = .int .u64 ((a - a : Nat) : Int)) (by kernel_rfl) (fun φ21 xs21 => congrArg (Value.int .u64) ((nat_subU (a := a) (b := a) (by have hq0 := of_decide_eq_false hc3; have hq1 := of_decide_eq_false hc13; omega) (by have hq0 := of_decide_eq_false hc3; have hq1 := of_decide_eq_false hc13; omega)))), ⟨kcast (A := ∀ (φ21 : Nat → Nat) (xs21 : Xs), (.int .u64 (IntKind.wrap .u64 (((b : Nat) : Int) - ((a : Nat) : Int))) : Value) = .int .u64 ((b - a : Nat) : Int)) (by kernel_rfl) (fun φ21 xs21 => congrArg (Value.int .u64) ((nat_subU (a := b) (b := a) (by have hq0 := of_decide_eq_false hc3; have hq1 := of_decide_eq_false hc13; omega) (by have hq0 := of_decide_eq_false hc3; have hq1 := of_decide_eq_false hc13; omega)))), trivial⟩⟩⟩ trivial (by kernel_rfl) trivial ?k21
            case k21 =>
              rintro φ21 xs21 I21 w21 le21 s 
              replace hl0 := RE.mono le21 hl0
              replace hr0 := RE.mono le21 hr0
              replace hl := le21 _ _ hl
              replace hr := le21 _ _ hr
              refine wp_ret ?_
              refine ret_rule (C := []) [((φ21 18), .cells #[.int .u64 ((a - a : Nat) : Int), .pointer none, .pointer none] 86), ((φ21 34), .cells #[.int .u64 ((b - a : Nat) : Int), .pointer none, .pointer none] 86), ((φ21 36), .cells #[.int .u64 ((n + a : Nat) : Int), .pointer (some ⟨(φ21 18), 0, none⟩), .pointer (some ⟨(φ21 34), 0, none⟩)] 86)] [] (.pointer (some ⟨(φ21 36), 0, none⟩)) [] [] s trivial (by kernel_rfl) ?_
              obtain ⟨I22, le22, hk22, s⟩ := s.freezeAt 0 (φ21 18) (.cells #[.int .u64 ((a - a : Nat) : Int), .pointer none, .pointer none] 86) [((φ21 34), .cells #[.int .u64 ((b - a : Nat) : Int), .pointer none, .pointer none] 86), ((φ21 36), .cells #[.int .u64 ((n + a : Nat) : Int), .pointer (some ⟨(φ21 18), 0, none⟩), .pointer (some ⟨(φ21 34), 0, none⟩)] 86)] (by kernel_rfl) (by kernel_rfl)
              replace hl0 := RE.mono le22 hl0
              replace hr0 := RE.mono le22 hr0
              replace hl := le22 _ _ hl
              replace hr := le22 _ _ hr
              obtain ⟨I23, le23, hk23, s⟩ := s.freezeAt 0 (φ21 34) (.cells #[.int .u64 ((b - a : Nat) : Int), .pointer none, .pointer none] 86) [((φ21 36), .cells #[.int .u64 ((n + a : Nat) : Int), .pointer (some ⟨(φ21 18), 0, none⟩), .pointer (some ⟨(φ21 34), 0, none⟩)] 86)] (by kernel_rfl) (by kernel_rfl)
              replace hl0 := RE.mono le23 hl0
              replace hr0 := RE.mono le23 hr0
              replace hl := le23 _ _ hl
              replace hr := le23 _ _ hr
              replace hk22 := le23 _ _ hk22
              obtain ⟨I24, le24, hk24, s⟩ := s.freezeAt 0 (φ21 36) (.cells #[.int .u64 ((n + a : Nat) : Int), .pointer (some ⟨(φ21 18), 0, none⟩), .pointer (some ⟨(φ21 34), 0, none⟩)] 86) [] (by kernel_rfl) (by kernel_rfl)
              replace hl0 := RE.mono le24 hl0
              replace hr0 := RE.mono le24 hr0
              replace hl := le24 _ _ hl
              replace hr := le24 _ _ hr
              replace hk22 := le24 _ _ hk22
              replace hk23 := le24 _ _ hk23
              have hcm := of_decide_eq_false hc13
              exact ⟨_, _, _, rfl, s, ⟨_, rfl, by rw [mk_node9 (l := E.leaf a) (r := E.leaf b) (m := a) (fun q => (of_decide_eq_false hc3) q.2.2) (show min a b = a by omega)]; exact ⟨_, _, hk24, hk22, hk23⟩⟩⟩
    | node b b1 b2 =>
      have hna := hnl
      have hta := htl
      have hl0 : RE _ (E.leaf a) ka := hl
      have hab : a ≤ (E.leaf a).top := hbl
      have hnb := hnr
      have htb := htr
      have hr0 : RE _ (E.node b b1 b2) kb := hr
      have hbb : b ≤ (E.node b b1 b2).top := hbr
      obtain ⟨kb1, kb2, hrk, hb1, hb2⟩ := hr
      refine enter_rule 83 [(0, .int .u64 ((n : Nat) : Int)), (1, .pointer (some ⟨ka, 0, none⟩)), (2, .pointer (some ⟨kb, 0, none⟩))] Try.func47 rfl (by kernel_rfl) ?_
      intro w s
      refine wp_seq ?_
      refine region_rule ?_
      refine ops_rule (C := []) [] [] 1 [] 0 (fun φ1 => [(6, .pointer none)]) (fun φ1 => []) (fun φ1 => []) s trivial (fun φ1 => by kernel_rfl) ?_
      intro φ1 w1 s
      refine ops_done (by kernel_rfl) ?_
      refine wp_seq ?_
      refine wp_seq ?_
      refine draw_rule (C := [(ka, .cells #[.int .u64 ((a : Nat) : Int), .pointer none, .pointer none] 86), (kb, .cells #[.int .u64 ((b : Nat) : Int), .pointer (some ⟨kb1, 0, none⟩), .pointer (some ⟨kb2, 0, none⟩)] 86)]) ⟨(fun φ2 xs2 => [.look 0 [] [], .look 0 [] [], .look 0 [] [], .look 0 [.c 0] [ka], .look 0 [] [], .look 0 [] [], .look 0 [] [], .look 0 [] [], .look 0 [] [], .look 0 [.c 1] [kb], .look 0 [] [], .look 0 [] [], .look 0 [] [], .skip, .skip, .skip, .skip, .skip, .skip, .skip, .skip, .skip, .look 0 [] []]), (fun φ2 xs2 => [.pointer (some ⟨ka, 0, none⟩), .pointer (some ⟨ka, 0, none⟩), .pointer (some ⟨ka, 1, none⟩), .pointer none, .bool true, .bool true, .pointer (some ⟨kb, 0, none⟩), .pointer (some ⟨kb, 0, none⟩), .pointer (some ⟨kb, 1, none⟩), .pointer (some ⟨kb1, 0, none⟩), .bool false, .bool false, .bool false, undef, undef, undef, undef, undef, undef, undef, undef, undef, .bool false]), (fun φ2 xs2 => [[]]), (fun φ2 xs2 => [[default, default, default, default, default, default, default, default, default, default, default, default, default, default, default, default, default, default, default, default, default, default, default]]), [], [1, 1, 1, 1, 1, 1, 1, 1, 1, 1, 1, 1, 1, 0, 0, 0, 0, 0, 0, 0, 0, 0, 1]⟩ (fun j => ([MP.any, MP.any, MP.any, MP.any, MP.any, MP.any, MP.any, MP.any, MP.any, MP.any, MP.any, MP.any, MP.any, MP.any, MP.any, MP.any, MP.any, MP.any, MP.any, MP.any, MP.any, MP.any, MP.any] : List MP).getD j MP.any) [] [] [] (fun φ2 xs2 => []) (fun φ2 xs2 => [(8, .pointer (some ⟨ka, 0, none⟩)), (9, .pointer (some ⟨ka, 0, none⟩)), (10, .pointer (some ⟨ka, 1, none⟩)), (11, .pointer none), (12, .bool true), (13, .bool true), (14, .pointer (some ⟨kb, 0, none⟩)), (15, .pointer (some ⟨kb, 0, none⟩)), (16, .pointer (some ⟨kb, 1, none⟩)), (17, .pointer (some ⟨kb1, 0, none⟩)), (18, .bool false), (19, .bool false), (20, .bool false), (21, undef), (22, undef), (23, undef), (24, undef), (25, undef), (26, undef), (27, undef), (28, undef), (29, undef), (30, .bool false)]) (fun φ2 xs2 => []) s ⟨hl, ⟨hrk, trivial⟩⟩ (by kernel_rfl) (by kernel_rfl) (fun _ _ => by kernel_rfl) (fun _ _ => by kernel_rfl) ⟨fun _ _ => by kernel_rfl, fun _ _ => by kernel_rfl, fun _ _ => by kernel_rfl, fun _ _ => by kernel_rfl⟩ (fun _ _ _ => by kernel_rfl) (fun _ _ => by kernel_rfl) (fun _ _ => by kernel_rfl) (fun _ _ => by kernel_rfl) (fun _ _ => by kernel_rfl) (fun _ _ => by kernel_rfl) trivial trivial (by kernel_rfl) trivial ?k2
      case k2 =>
        rintro φ2 xs2 I2 w2 le2 s 
        replace hl0 := RE.mono le2 hl0
        replace hb1 := RE.mono le2 hb1
        replace hb2 := RE.mono le2 hb2
        replace hr0 := RE.mono le2 hr0
        replace hl := le2 _ _ hl
        replace hrk := le2 _ _ hrk
        refine cond_false_rule (b := false) (by kernel_rfl) rfl ?_
        refine wp_skip ?_
        refine wp_seq ?_
        refine region_rule ?_
        refine ops_rule (C := []) [] [] 1 [] 0 (fun φ3 => [(38, .pointer (some ⟨ka, 0, none⟩))]) (fun φ3 => []) (fun φ3 => []) s trivial (fun φ3 => by kernel_rfl) ?_
        intro φ3 w3 s
        refine call_rule (some 39) s (rminB_c hl0 hna hta) (by kernel_rfl) ?_
        intro v4 I4 w4 le4 h4 s
        replace hl0 := RE.mono le4 hl0
        replace hb1 := RE.mono le4 hb1
        replace hb2 := RE.mono le4 hb2
        replace hr0 := RE.mono le4 hr0
        replace hl := le4 _ _ hl
        replace hrk := le4 _ _ hrk
        obtain rfl := h4
        refine ops_rule (C := []) [] [] 1 [] 0 (fun φ5 => [(7, .int .u64 ((a : Nat) : Int))]) (fun φ5 => []) (fun φ5 => []) s trivial (fun φ5 => by kernel_rfl) ?_
        intro φ5 w5 s
        refine ops_done (by kernel_rfl) ?_
        refine wp_seq ?_
        refine wp_seq ?_
        refine region_rule ?_
        refine ops_rule (C := []) [] [] 1 [] 0 (fun φ6 => [(40, .pointer (some ⟨kb, 0, none⟩))]) (fun φ6 => []) (fun φ6 => []) s trivial (fun φ6 => by kernel_rfl) ?_
        intro φ6 w6 s
        refine call_rule (some 41) s (rminB_c hr0 hnb htb) (by kernel_rfl) ?_
        intro v7 I7 w7 le7 h7 s
        replace hl0 := RE.mono le7 hl0
        replace hb1 := RE.mono le7 hb1
        replace hb2 := RE.mono le7 hb2
        replace hr0 := RE.mono le7 hr0
        replace hl := le7 _ _ hl
        replace hrk := le7 _ _ hrk
        obtain rfl := h7
        refine ops_rule (C := []) [] [] 2 [] 0 (fun φ8 => [(43, .bool (decide (((b : Nat) : Int) < ((a : Nat) : Int)))), (42, .int .u64 ((a : Nat) : Int))]) (fun φ8 => []) (fun φ8 => []) s trivial (fun φ8 => by kernel_rfl) ?_
        intro φ8 w8 s
        rw [nat_lss (a := b) (b := a)]
        refine ops_done (by kernel_rfl) ?_
        rcases Bool.eq_false_or_eq_true (decide (b < a)) with hc9 | hc9
        ·
          rw [hc9]
          refine cond_true_rule (b := true) (by kernel_rfl) rfl ?_
          refine region_rule ?_
          refine ops_rule (C := []) [] [] 1 [] 0 (fun φ10 => [(44, .pointer (some ⟨kb, 0, none⟩))]) (fun φ10 => []) (fun φ10 => []) s trivial (fun φ10 => by kernel_rfl) ?_
          intro φ10 w10 s
          refine call_rule (some 45) s (rminB_c hr0 hnb htb) (by kernel_rfl) ?_
          intro v11 I11 w11 le11 h11 s
          replace hl0 := RE.mono le11 hl0
          replace hb1 := RE.mono le11 hb1
          replace hb2 := RE.mono le11 hb2
          replace hr0 := RE.mono le11 hr0
          replace hl := le11 _ _ hl
          replace hrk := le11 _ _ hrk
          obtain rfl := h11
          refine ops_rule (C := []) [] [] 1 [] 0 (fun φ12 => [(7, .int .u64 ((b : Nat) : Int))]) (fun φ12 => []) (fun φ12 => []) s trivial (fun φ12 => by kernel_rfl) ?_
          intro φ12 w12 s
          refine ops_done (by kernel_rfl) ?_
          refine wp_seq ?_
          refine draw_rule (C := [(ka, .cells #[.int .u64 ((a : Nat) : Int), .pointer none, .pointer none] 86), (kb, .cells #[.int .u64 ((b : Nat) : Int), .pointer (some ⟨kb1, 0, none⟩), .pointer (some ⟨kb2, 0, none⟩)] 86)]) ⟨(fun φ13 xs13 => [.look 0 [] [], .look 0 [] [], .sub 0 [] [] (.int .u64 (IntKind.wrap .u64 (((n : Nat) : Int) + ((b : Nat) : Int)))), .look 0 [] [], .look 0 [] [], .look 0 [] [], .look 0 [.c 0] [ka], .look 0 [] [], .sub 0 [] [] (.int .u64 (IntKind.wrap .u64 (((a : Nat) : Int) - ((b : Nat) : Int)))), .look 0 [] [], .look 0 [] [], .look 0 [] [], .look 0 [.c 0] [ka], .look 0 [] [], .look 0 [] [], .look 0 [] [], .look 0 [.c 0] [ka], .look 0 [] [], .new, .look 0 [] [], .look 0 [] [], .look 0 [] [], .look 0 [.c 1] [kb], .look 0 [] [], .sub 0 [] [] (.int .u64 (IntKind.wrap .u64 (((b : Nat) : Int) - ((b : Nat) : Int)))), .look 0 [] [], .look 0 [] [], .look 0 [] [], .look 0 [.c 1] [kb], .look 0 [] [], .look 0 [] [], .look 0 [] [], .look 0 [.c 1] [kb], .look 0 [] [], .new, .look 0 [] [], .new, .look 0 [] []]), (fun φ13 xs13 => [.int .u64 ((n : Nat) : Int), .int .u64 ((b : Nat) : Int), .int .u64 ((n + b : Nat) : Int), .pointer (some ⟨ka, 0, none⟩), .pointer (some ⟨ka, 0, none⟩), .pointer (some ⟨ka, 0, none⟩), .int .u64 ((a : Nat) : Int), .int .u64 ((b : Nat) : Int), .int .u64 ((a - b : Nat) : Int), .pointer (some ⟨ka, 0, none⟩), .pointer (some ⟨ka, 0, none⟩), .pointer (some ⟨ka, 1, none⟩), .pointer none, .pointer (some ⟨ka, 0, none⟩), .pointer (some ⟨ka, 0, none⟩), .pointer (some ⟨ka, 2, none⟩), .pointer none, .agg #[.int .u64 ((a - b : Nat) : Int), .pointer none, .pointer none], .pointer (some ⟨(φ13 18), 0, none⟩), .pointer (some ⟨kb, 0, none⟩), .pointer (some ⟨kb, 0, none⟩), .pointer (some ⟨kb, 0, none⟩), .int .u64 ((b : Nat) : Int), .int .u64 ((b : Nat) : Int), .int .u64 ((b - b : Nat) : Int), .pointer (some ⟨kb, 0, none⟩), .pointer (some ⟨kb, 0, none⟩), .pointer (some ⟨kb, 1, none⟩), .pointer (some ⟨kb1, 0, none⟩), .pointer (some ⟨kb, 0, none⟩), .pointer (some ⟨kb, 0, none⟩), .pointer (some ⟨kb, 2, none⟩), .pointer (some ⟨kb2, 0, none⟩), .agg #[.int .u64 ((b - b : Nat) : Int), .pointer (some ⟨kb1, 0, none⟩), .pointer (some ⟨kb2, 0, none⟩)], .pointer (some ⟨(φ13 34), 0, none⟩), .agg #[.int .u64 ((n + b : Nat) : Int), .pointer (some ⟨(φ13 18), 0, none⟩), .pointer (some ⟨(φ13 34), 0, none⟩)], .pointer (some ⟨(φ13 36), 0, none⟩), .pointer (some ⟨(φ13 36), 0, none⟩)]), (fun φ13 xs13 => [[]]), (fun φ13 xs13 => [[default, default, default, default, default, default, default, default, default, default, default, default, default, default, default, default, default, default, .cells #[.int .u64 ((a - b : Nat) : Int), .pointer none, .pointer none] 86, default, default, default, default, default, default, default, default, default, default, default, default, default, default, default, .cells #[.int .u64 ((b - b : Nat) : Int), .pointer (some ⟨kb1, 0, none⟩), .pointer (some ⟨kb2, 0, none⟩)] 86, default, .cells #[.int .u64 ((n + b : Nat) : Int), .pointer (some ⟨(φ13 18), 0, none⟩), .pointer (some ⟨(φ13 34), 0, none⟩)] 86, default]]), [], [1, 1, 5, 1, 1, 1, 1, 1, 5, 1, 1, 1, 1, 1, 1, 1, 1, 1, 2, 1, 1, 1, 1, 1, 5, 1, 1, 1, 1, 1, 1, 1, 1, 1, 2, 1, 2, 1]⟩ (fun j => ([MP.any, MP.any, MP.any, MP.any, MP.any, MP.any, MP.any, MP.any, MP.any, MP.any, MP.any, MP.any, MP.any, MP.any, MP.any, MP.any, MP.any, MP.any, MP.any, MP.any, MP.any, MP.any, MP.any, MP.any, MP.any, MP.any, MP.any, MP.any, MP.any, MP.any, MP.any, MP.any, MP.any, MP.any, MP.any, MP.any, MP.any, MP.any] : List MP).getD j MP.any) [] [2, 8, 24] [] (fun φ13 xs13 => []) (fun φ13 xs13 => [(46, .int .u64 ((n : Nat) : Int)), (47, .int .u64 ((b : Nat) : Int)), (48, .int .u64 ((n + b : Nat) : Int)), (49, .pointer (some ⟨ka, 0, none⟩)), (50, .pointer (some ⟨ka, 0, none⟩)), (51, .pointer (some ⟨ka, 0, none⟩)), (52, .int .u64 ((a : Nat) : Int)), (53, .int .u64 ((b : Nat) : Int)), (54, .int .u64 ((a - b : Nat) : Int)), (55, .pointer (some ⟨ka, 0, none⟩)), (56, .pointer (some ⟨ka, 0, none⟩)), (57, .pointer (some ⟨ka, 1, none⟩)), (58, .pointer none), (59, .pointer (some ⟨ka, 0, none⟩)), (60, .pointer (some ⟨ka, 0, none⟩)), (61, .pointer (some ⟨ka, 2, none⟩)), (62, .pointer none), (63, .agg #[.int .u64 ((a - b : Nat) : Int), .pointer none, .pointer none]), (64, .pointer (some ⟨(φ13 18), 0, none⟩)), (65, .pointer (some ⟨kb, 0, none⟩)), (66, .pointer (some ⟨kb, 0, none⟩)), (67, .pointer (some ⟨kb, 0, none⟩)), (68, .int .u64 ((b : Nat) : Int)), (69, .int .u64 ((b : Nat) : Int)), (70, .int .u64 ((b - b : Nat) : Int)), (71, .pointer (some ⟨kb, 0, none⟩)), (72, .pointer (some ⟨kb, 0, none⟩)), (73, .pointer (some ⟨kb, 1, none⟩)), (74, .pointer (some ⟨kb1, 0, none⟩)), (75, .pointer (some ⟨kb, 0, none⟩)), (76, .pointer (some ⟨kb, 0, none⟩)), (77, .pointer (some ⟨kb, 2, none⟩)), (78, .pointer (some ⟨kb2, 0, none⟩)), (79, .agg #[.int .u64 ((b - b : Nat) : Int), .pointer (some ⟨kb1, 0, none⟩), .pointer (some ⟨kb2, 0, none⟩)]), (80, .pointer (some ⟨(φ13 34), 0, none⟩)), (81, .agg #[.int .u64 ((n + b : Nat) : Int), .pointer (some ⟨(φ13 18), 0, none⟩), .pointer (some ⟨(φ13 34), 0, none⟩)]), (82, .pointer (some ⟨(φ13 36), 0, none⟩)), (6, .pointer (some ⟨(φ13 36), 0, none⟩))]) (fun φ13 xs13 => [((φ13 18), .cells #[.int .u64 ((a - b : Nat) : Int), .pointer none, .pointer none] 86), ((φ13 34), .cells #[.int .u64 ((b - b : Nat) : Int), .pointer (some ⟨kb1, 0, none⟩), .pointer (some ⟨kb2, 0, none⟩)] 86), ((φ13 36), .cells #[.int .u64 ((n + b : Nat) : Int), .pointer (some ⟨(φ13 18), 0, none⟩), .pointer (some ⟨(φ13 34), 0, none⟩)] 86)]) s ⟨hl, ⟨hrk, trivial⟩⟩ (by kernel_rfl) (by kernel_rfl) (fun _ _ => by kernel_rfl) (fun _ _ => by kernel_rfl) ⟨fun _ _ => by kernel_rfl, fun _ _ => by kernel_rfl, fun _ _ => by kernel_rfl, fun _ _ => by kernel_rfl⟩ (fun _ _ _ => by kernel_rfl) (fun _ _ => by kernel_rfl) (fun _ _ => by kernel_rfl) (fun _ _ => by kernel_rfl) (fun _ _ => by kernel_rfl) (fun _ _ => by kernel_rfl) ⟨kcast (A := ∀ (φ13 : Nat → Nat) (xs13 : Xs), (.int .u64 (IntKind.wrap .u64 (((n : Nat) : Int) + ((b : Nat) : Int))) : Value) = .int .u64 ((n + b : Nat) : Int)) (by kernel_rfl) (fun φ13 xs13 => congrArg (Value.int .u64) ((nat_addU (a := n) (b := b) (by have hq0 := of_decide_eq_true hc9; omega)))), ⟨kcast (A := ∀ (φ13 : Nat → Nat) (xs13 : Xs), (.int .u64 (IntKind.wrap .u64 (((a : Nat) : Int) - ((b : Nat) : Int))) : Value) = .int .u64 ((a - b : Nat) : Int)) (by kernel_rfl) (fun φ13 xs13 => congrArg (Value.int .u64) ((nat_subU (a := a) (b := b) (by have hq0 := of_decide_eq_true hc9; omega) (by have hq0 := of_decide_eq_true hc9; omega)))), ⟨kcast (A := ∀ (φ13 : Nat → Nat) (xs13 : Xs), (.int .u64 (IntKind.wrap .u64 (((b : Nat) : Int) - ((b : Nat) : Int))) : Value) = .int .u64 ((b - b : Nat) : Int)) (by kernel_rfl) (fun φ13 xs13 => congrArg (Value.int .u64) ((nat_subU (a := b) (b := b) (by have hq0 := of_decide_eq_true hc9; omega) (by have hq0 := of_decide_eq_true hc9; omega)))), trivial⟩⟩⟩ trivial (by kernel_rfl) trivial ?k13
          case k13 =>
            rintro φ13 xs13 I13 w13 le13 s 
            replace hl0 := RE.mono le13 hl0
            replace hb1 := RE.mono le13 hb1
            replace hb2 := RE.mono le13 hb2
            replace hr0 := RE.mono le13 hr0
            replace hl := le13 _ _ hl
            replace hrk := le13 _ _ hrk
            refine wp_ret ?_
            refine ret_rule (C := []) [((φ13 18), .cells #[.int .u64 ((a - b : Nat) : Int), .pointer none, .pointer none] 86), ((φ13 34), .cells #[.int .u64 ((b - b : Nat) : Int), .pointer (some ⟨kb1, 0, none⟩), .pointer (some ⟨kb2, 0, none⟩)] 86), ((φ13 36), .cells #[.int .u64 ((n + b : Nat) : Int), .pointer (some ⟨(φ13 18), 0, none⟩), .pointer (some ⟨(φ13 34), 0, none⟩)] 86)] [] (.pointer (some ⟨(φ13 36), 0, none⟩)) [] [] s trivial (by kernel_rfl) ?_
            obtain ⟨I14, le14, hk14, s⟩ := s.freezeAt 0 (φ13 18) (.cells #[.int .u64 ((a - b : Nat) : Int), .pointer none, .pointer none] 86) [((φ13 34), .cells #[.int .u64 ((b - b : Nat) : Int), .pointer (some ⟨kb1, 0, none⟩), .pointer (some ⟨kb2, 0, none⟩)] 86), ((φ13 36), .cells #[.int .u64 ((n + b : Nat) : Int), .pointer (some ⟨(φ13 18), 0, none⟩), .pointer (some ⟨(φ13 34), 0, none⟩)] 86)] (by kernel_rfl) (by kernel_rfl)
            replace hl0 := RE.mono le14 hl0
            replace hb1 := RE.mono le14 hb1
            replace hb2 := RE.mono le14 hb2
            replace hr0 := RE.mono le14 hr0
            replace hl := le14 _ _ hl
            replace hrk := le14 _ _ hrk
            obtain ⟨I15, le15, hk15, s⟩ := s.freezeAt 0 (φ13 34) (.cells #[.int .u64 ((b - b : Nat) : Int), .pointer (some ⟨kb1, 0, none⟩), .pointer (some ⟨kb2, 0, none⟩)] 86) [((φ13 36), .cells #[.int .u64 ((n + b : Nat) : Int), .pointer (some ⟨(φ13 18), 0, none⟩), .pointer (some ⟨(φ13 34), 0, none⟩)] 86)] (by kernel_rfl) (by kernel_rfl)
            replace hl0 := RE.mono le15 hl0
            replace hb1 := RE.mono le15 hb1
            replace hb2 := RE.mono le15 hb2
            replace hr0 := RE.mono le15 hr0
            replace hl := le15 _ _ hl
            replace hrk := le15 _ _ hrk
            replace hk14 := le15 _ _ hk14
            obtain ⟨I16, le16, hk16, s⟩ := s.freezeAt 0 (φ13 36) (.cells #[.int .u64 ((n + b : Nat) : Int), .pointer (some ⟨(φ13 18), 0, none⟩), .pointer (some ⟨(φ13 34), 0, none⟩)] 86) [] (by kernel_rfl) (by kernel_rfl)
            replace hl0 := RE.mono le16 hl0
            replace hb1 := RE.mono le16 hb1
            replace hb2 := RE.mono le16 hb2
            replace hr0 := RE.mono le16 hr0
            replace hl := le16 _ _ hl
            replace hrk := le16 _ _ hrk
            replace hk14 := le16 _ _ hk14
            replace hk15 := le16 _ _ hk15
            have hcm := of_decide_eq_true hc9
            exact ⟨_, _, _, rfl, s, ⟨_, rfl, by rw [mk_node9 (l := E.leaf a) (r := E.node b b1 b2) (m := b) (fun q => by cases q.2.1) (show min a b = b by omega)]; exact ⟨_, _, hk16, hk14, ⟨_, _, hk15, hb1, hb2⟩⟩⟩⟩
        ·
          rw [hc9]
          refine cond_false_rule (b := false) (by kernel_rfl) rfl ?_
          refine wp_skip ?_
          refine wp_seq ?_
          refine draw_rule (C := [(ka, .cells #[.int .u64 ((a : Nat) : Int), .pointer none, .pointer none] 86), (kb, .cells #[.int .u64 ((b : Nat) : Int), .pointer (some ⟨kb1, 0, none⟩), .pointer (some ⟨kb2, 0, none⟩)] 86)]) ⟨(fun φ17 xs17 => [.look 0 [] [], .look 0 [] [], .sub 0 [] [] (.int .u64 (IntKind.wrap .u64 (((n : Nat) : Int) + ((a : Nat) : Int)))), .look 0 [] [], .look 0 [] [], .look 0 [] [], .look 0 [.c 0] [ka], .look 0 [] [], .sub 0 [] [] (.int .u64 (IntKind.wrap .u64 (((a : Nat) : Int) - ((a : Nat) : Int)))), .look 0 [] [], .look 0 [] [], .look 0 [] [], .look 0 [.c 0] [ka], .look 0 [] [], .look 0 [] [], .look 0 [] [], .look 0 [.c 0] [ka], .look 0 [] [], .new, .look 0 [] [], .look 0 [] [], .look 0 [] [], .look 0 [.c 1] [kb], .look 0 [] [], .sub 0 [] [] (.int .u64 (IntKind.wrap .u64 (((b : Nat) : Int) - ((a : Nat) : Int)))), .look 0 [] [], .look 0 [] [], .look 0 [] [], .look 0 [.c 1] [kb], .look 0 [] [], .look 0 [] [], .look 0 [] [], .look 0 [.c 1] [kb], .look 0 [] [], .new, .look 0 [] [], .new, .look 0 [] []]), (fun φ17 xs17 => [.int .u64 ((n : Nat) : Int), .int .u64 ((a : Nat) : Int), .int .u64 ((n + a : Nat) : Int), .pointer (some ⟨ka, 0, none⟩), .pointer (some ⟨ka, 0, none⟩), .pointer (some ⟨ka, 0, none⟩), .int .u64 ((a : Nat) : Int), .int .u64 ((a : Nat) : Int), .int .u64 ((a - a : Nat) : Int), .pointer (some ⟨ka, 0, none⟩), .pointer (some ⟨ka, 0, none⟩), .pointer (some ⟨ka, 1, none⟩), .pointer none, .pointer (some ⟨ka, 0, none⟩), .pointer (some ⟨ka, 0, none⟩), .pointer (some ⟨ka, 2, none⟩), .pointer none, .agg #[.int .u64 ((a - a : Nat) : Int), .pointer none, .pointer none], .pointer (some ⟨(φ17 18), 0, none⟩), .pointer (some ⟨kb, 0, none⟩), .pointer (some ⟨kb, 0, none⟩), .pointer (some ⟨kb, 0, none⟩), .int .u64 ((b : Nat) : Int), .int .u64 ((a : Nat) : Int), .int .u64 ((b - a : Nat) : Int), .pointer (some ⟨kb, 0, none⟩), .pointer (some ⟨kb, 0, none⟩), .pointer (some ⟨kb, 1, none⟩), .pointer (some ⟨kb1, 0, none⟩), .pointer (some ⟨kb, 0, none⟩), .pointer (some ⟨kb, 0, none⟩), .pointer (some ⟨kb, 2, none⟩), .pointer (some ⟨kb2, 0, none⟩), .agg #[.int .u64 ((b - a : Nat) : Int), .pointer (some ⟨kb1, 0, none⟩), .pointer (some ⟨kb2, 0, none⟩)], .pointer (some ⟨(φ17 34), 0, none⟩), .agg #[.int .u64 ((n + a : Nat) : Int), .pointer (some ⟨(φ17 18), 0, none⟩), .pointer (some ⟨(φ17 34), 0, none⟩)], .pointer (some ⟨(φ17 36), 0, none⟩), .pointer (some ⟨(φ17 36), 0, none⟩)]), (fun φ17 xs17 => [[]]), (fun φ17 xs17 => [[default, default, default, default, default, default, default, default, default, default, default, default, default, default, default, default, default, default, .cells #[.int .u64 ((a - a : Nat) : Int), .pointer none, .pointer none] 86, default, default, default, default, default, default, default, default, default, default, default, default, default, default, default, .cells #[.int .u64 ((b - a : Nat) : Int), .pointer (some ⟨kb1, 0, none⟩), .pointer (some ⟨kb2, 0, none⟩)] 86, default, .cells #[.int .u64 ((n + a : Nat) : Int), .pointer (some ⟨(φ17 18), 0, none⟩), .pointer (some ⟨(φ17 34), 0, none⟩)] 86, default]]), [], [1, 1, 5, 1, 1, 1, 1, 1, 5, 1, 1, 1, 1, 1, 1, 1, 1, 1, 2, 1, 1, 1, 1, 1, 5, 1, 1, 1, 1, 1, 1, 1, 1, 1, 2, 1, 2, 1]⟩ (fun j => ([MP.any, MP.any, MP.any, MP.any, MP.any, MP.any, MP.any, MP.any, MP.any, MP.any, MP.any, MP.any, MP.any, MP.any, MP.any, MP.any, MP.any, MP.any, MP.any, MP.any, MP.any, MP.any, MP.any, MP.any, MP.any, MP.any, MP.any, MP.any, MP.any, MP.any, MP.any, MP.any, MP.any, MP.any, MP.any, MP.any, MP.any, MP.any] : List MP).getD j MP.any) [] [2, 8, 24] [] (fun φ17 xs17 => []) (fun φ17 xs17 => [(46, .int .u64 ((n : Nat) : Int)), (47, .int .u64 ((a : Nat) : Int)), (48, .int .u64 ((n + a : Nat) : Int)), (49, .pointer (some ⟨ka, 0, none⟩)), (50, .pointer (some ⟨ka, 0, none⟩)), (51, .pointer (some ⟨ka, 0, none⟩)), (52, .int .u64 ((a : Nat) : Int)), (53, .int .u64 ((a : Nat) : Int)), (54, .int .u64 ((a - a : Nat) : Int)), (55, .pointer (some ⟨ka, 0, none⟩)), (56, .pointer (some ⟨ka, 0, none⟩)), (57, .pointer (some ⟨ka, 1, none⟩)), (58, .pointer none), (59, .pointer (some ⟨ka, 0, none⟩)), (60, .pointer (some ⟨ka, 0, none⟩)), (61, .pointer (some ⟨ka, 2, none⟩)), (62, .pointer none), (63, .agg #[.int .u64 ((a - a : Nat) : Int), .pointer none, .pointer none]), (64, .pointer (some ⟨(φ17 18), 0, none⟩)), (65, .pointer (some ⟨kb, 0, none⟩)), (66, .pointer (some ⟨kb, 0, none⟩)), (67, .pointer (some ⟨kb, 0, none⟩)), (68, .int .u64 ((b : Nat) : Int)), (69, .int .u64 ((a : Nat) : Int)), (70, .int .u64 ((b - a : Nat) : Int)), (71, .pointer (some ⟨kb, 0, none⟩)), (72, .pointer (some ⟨kb, 0, none⟩)), (73, .pointer (some ⟨kb, 1, none⟩)), (74, .pointer (some ⟨kb1, 0, none⟩)), (75, .pointer (some ⟨kb, 0, none⟩)), (76, .pointer (some ⟨kb, 0, none⟩)), (77, .pointer (some ⟨kb, 2, none⟩)), (78, .pointer (some ⟨kb2, 0, none⟩)), (79, .agg #[.int .u64 ((b - a : Nat) : Int), .pointer (some ⟨kb1, 0, none⟩), .pointer (some ⟨kb2, 0, none⟩)]), (80, .pointer (some ⟨(φ17 34), 0, none⟩)), (81, .agg #[.int .u64 ((n + a : Nat) : Int), .pointer (some ⟨(φ17 18), 0, none⟩), .pointer (some ⟨(φ17 34), 0, none⟩)]), (82, .pointer (some ⟨(φ17 36), 0, none⟩)), (6, .pointer (some ⟨(φ17 36), 0, none⟩))]) (fun φ17 xs17 => [((φ17 18), .cells #[.int .u64 ((a - a : Nat) : Int), .pointer none, .pointer none] 86), ((φ17 34), .cells #[.int .u64 ((b - a : Nat) : Int), .pointer (some ⟨kb1, 0, none⟩), .pointer (some ⟨kb2, 0, none⟩)] 86), ((φ17 36), .cells #[.int .u64 ((n + a : Nat) : Int), .pointer (some ⟨(φ17 18), 0, none⟩), .pointer (some ⟨(φ17 34), 0, none⟩)] 86)]) s ⟨hl, ⟨hrk, trivial⟩⟩ (by kernel_rfl) (by kernel_rfl) (fun _ _ => by kernel_rfl) (fun _ _ => by kernel_rfl) ⟨fun _ _ => by kernel_rfl, fun _ _ => by kernel_rfl, fun _ _ => by kernel_rfl, fun _ _ => by kernel_rfl⟩ (fun _ _ _ => by kernel_rfl) (fun _ _ => by kernel_rfl) (fun _ _ => by kernel_rfl) (fun _ _ => by kernel_rfl) (fun _ _ => by kernel_rfl) (fun _ _ => by kernel_rfl) ⟨kcast (A := ∀ (φ17 : Nat → Nat) (xs17 : Xs), (.int .u64 (IntKind.wrap .u64 (((n : Nat) : Int) + ((a : Nat) : Int))) : Value) = .int .u64 ((n + a : Nat) : Int)) (by kernel_rfl) (fun φ17 xs17 => congrArg (Value.int .u64) ((nat_addU (a := n) (b := a) (by have hq0 := of_decide_eq_false hc9; omega)))), ⟨kcast (A := ∀ (φ17 : Nat → Nat) (xs17 : Xs), (.int .u64 (IntKind.wrap .u64 (((a : Nat) : Int) - ((a : Nat) : Int))) : Value) = .int .u64 ((a - a : Nat) : Int)) (by kernel_rfl) (fun φ17 xs17 => congrArg (Value.int .u64) ((nat_subU (a := a) (b := a) (by have hq0 := of_decide_eq_false hc9; omega) (by have hq0 := of_decide_eq_false hc9; omega)))), ⟨kcast (A := ∀ (φ17 : Nat → Nat) (xs17 : Xs), (.int .u64 (IntKind.wrap .u64 (((b : Nat) : Int) - ((a : Nat) : Int))) : Value) = .int .u64 ((b - a : Nat) : Int)) (by kernel_rfl) (fun φ17 xs17 => congrArg (Value.int .u64) ((nat_subU (a := b) (b := a) (by have hq0 := of_decide_eq_false hc9; omega) (by have hq0 := of_decide_eq_false hc9; omega)))), trivial⟩⟩⟩ trivial (by kernel_rfl) trivial ?k17
          case k17 =>
            rintro φ17 xs17 I17 w17 le17 s 
            replace hl0 := RE.mono le17 hl0
            replace hb1 := RE.mono le17 hb1
            replace hb2 := RE.mono le17 hb2
            replace hr0 := RE.mono le17 hr0
            replace hl := le17 _ _ hl
            replace hrk := le17 _ _ hrk
            refine wp_ret ?_
            refine ret_rule (C := []) [((φ17 18), .cells #[.int .u64 ((a - a : Nat) : Int), .pointer none, .pointer none] 86), ((φ17 34), .cells #[.int .u64 ((b - a : Nat) : Int), .pointer (some ⟨kb1, 0, none⟩), .pointer (some ⟨kb2, 0, none⟩)] 86), ((φ17 36), .cells #[.int .u64 ((n + a : Nat) : Int), .pointer (some ⟨(φ17 18), 0, none⟩), .pointer (some ⟨(φ17 34), 0, none⟩)] 86)] [] (.pointer (some ⟨(φ17 36), 0, none⟩)) [] [] s trivial (by kernel_rfl) ?_
            obtain ⟨I18, le18, hk18, s⟩ := s.freezeAt 0 (φ17 18) (.cells #[.int .u64 ((a - a : Nat) : Int), .pointer none, .pointer none] 86) [((φ17 34), .cells #[.int .u64 ((b - a : Nat) : Int), .pointer (some ⟨kb1, 0, none⟩), .pointer (some ⟨kb2, 0, none⟩)] 86), ((φ17 36), .cells #[.int .u64 ((n + a : Nat) : Int), .pointer (some ⟨(φ17 18), 0, none⟩), .pointer (some ⟨(φ17 34), 0, none⟩)] 86)] (by kernel_rfl) (by kernel_rfl)
            replace hl0 := RE.mono le18 hl0
            replace hb1 := RE.mono le18 hb1
            replace hb2 := RE.mono le18 hb2
            replace hr0 := RE.mono le18 hr0
            replace hl := le18 _ _ hl
            replace hrk := le18 _ _ hrk
            obtain ⟨I19, le19, hk19, s⟩ := s.freezeAt 0 (φ17 34) (.cells #[.int .u64 ((b - a : Nat) : Int), .pointer (some ⟨kb1, 0, none⟩), .pointer (some ⟨kb2, 0, none⟩)] 86) [((φ17 36), .cells #[.int .u64 ((n + a : Nat) : Int), .pointer (some ⟨(φ17 18), 0, none⟩), .pointer (some ⟨(φ17 34), 0, none⟩)] 86)] (by kernel_rfl) (by kernel_rfl)
            replace hl0 := RE.mono le19 hl0
            replace hb1 := RE.mono le19 hb1
            replace hb2 := RE.mono le19 hb2
            replace hr0 := RE.mono le19 hr0
            replace hl := le19 _ _ hl
            replace hrk := le19 _ _ hrk
            replace hk18 := le19 _ _ hk18
            obtain ⟨I20, le20, hk20, s⟩ := s.freezeAt 0 (φ17 36) (.cells #[.int .u64 ((n + a : Nat) : Int), .pointer (some ⟨(φ17 18), 0, none⟩), .pointer (some ⟨(φ17 34), 0, none⟩)] 86) [] (by kernel_rfl) (by kernel_rfl)
            replace hl0 := RE.mono le20 hl0
            replace hb1 := RE.mono le20 hb1
            replace hb2 := RE.mono le20 hb2
            replace hr0 := RE.mono le20 hr0
            replace hl := le20 _ _ hl
            replace hrk := le20 _ _ hrk
            replace hk18 := le20 _ _ hk18
            replace hk19 := le20 _ _ hk19
            have hcm := of_decide_eq_false hc9
            exact ⟨_, _, _, rfl, s, ⟨_, rfl, by rw [mk_node9 (l := E.leaf a) (r := E.node b b1 b2) (m := a) (fun q => by cases q.2.1) (show min a b = a by omega)]; exact ⟨_, _, hk20, hk18, ⟨_, _, hk19, hb1, hb2⟩⟩⟩⟩
  | node a a1 a2 =>
    cases r with
    | leaf b =>
      have hna := hnl
      have hta := htl
      have hl0 : RE _ (E.node a a1 a2) ka := hl
      have hab : a ≤ (E.node a a1 a2).top := hbl
      obtain ⟨ka1, ka2, hlk, ha1, ha2⟩ := hl
      have hnb := hnr
      have htb := htr
      have hr0 : RE _ (E.leaf b) kb := hr
      have hbb : b ≤ (E.leaf b).top := hbr
      refine enter_rule 83 [(0, .int .u64 ((n : Nat) : Int)), (1, .pointer (some ⟨ka, 0, none⟩)), (2, .pointer (some ⟨kb, 0, none⟩))] Try.func47 rfl (by kernel_rfl) ?_
      intro w s
      refine wp_seq ?_
      refine region_rule ?_
      refine ops_rule (C := []) [] [] 1 [] 0 (fun φ1 => [(6, .pointer none)]) (fun φ1 => []) (fun φ1 => []) s trivial (fun φ1 => by kernel_rfl) ?_
      intro φ1 w1 s
      refine ops_done (by kernel_rfl) ?_
      refine wp_seq ?_
      refine wp_seq ?_
      refine draw_rule (C := [(ka, .cells #[.int .u64 ((a : Nat) : Int), .pointer (some ⟨ka1, 0, none⟩), .pointer (some ⟨ka2, 0, none⟩)] 86)]) ⟨(fun φ2 xs2 => [.look 0 [] [], .look 0 [] [], .look 0 [] [], .look 0 [.c 0] [ka], .look 0 [] [], .look 0 [] [], .skip, .skip, .skip, .skip, .skip, .look 0 [] [], .look 0 [] [], .skip, .skip, .skip, .skip, .skip, .skip, .skip, .skip, .skip, .look 0 [] []]), (fun φ2 xs2 => [.pointer (some ⟨ka, 0, none⟩), .pointer (some ⟨ka, 0, none⟩), .pointer (some ⟨ka, 1, none⟩), .pointer (some ⟨ka1, 0, none⟩), .bool false, .bool false, undef, undef, undef, undef, undef, .bool false, .bool false, undef, undef, undef, undef, undef, undef, undef, undef, undef, .bool false]), (fun φ2 xs2 => [[]]), (fun φ2 xs2 => [[default, default, default, default, default, default, default, default, default, default, default, default, default, default, default, default, default, default, default, default, default, default, default]]), [], [1, 1, 1, 1, 1, 1, 0, 0, 0, 0, 0, 1, 1, 0, 0, 0, 0, 0, 0, 0, 0, 0, 1]⟩ (fun j => ([MP.any, MP.any, MP.any, MP.any, MP.any, MP.any, MP.any, MP.any, MP.any, MP.any, MP.any, MP.any, MP.any, MP.any, MP.any, MP.any, MP.any, MP.any, MP.any, MP.any, MP.any, MP.any, MP.any] : List MP).getD j MP.any) [] [] [] (fun φ2 xs2 => []) (fun φ2 xs2 => [(8, .pointer (some ⟨ka, 0, none⟩)), (9, .pointer (some ⟨ka, 0, none⟩)), (10, .pointer (some ⟨ka, 1, none⟩)), (11, .pointer (some ⟨ka1, 0, none⟩)), (12, .bool false), (13, .bool false), (14, undef), (15, undef), (16, undef), (17, undef), (18, undef), (19, .bool false), (20, .bool false), (21, undef), (22, undef), (23, undef), (24, undef), (25, undef), (26, undef), (27, undef), (28, undef), (29, undef), (30, .bool false)]) (fun φ2 xs2 => []) s ⟨hlk, trivial⟩ (by kernel_rfl) (by kernel_rfl) (fun _ _ => by kernel_rfl) (fun _ _ => by kernel_rfl) ⟨fun _ _ => by kernel_rfl, fun _ _ => by kernel_rfl, fun _ _ => by kernel_rfl, fun _ _ => by kernel_rfl⟩ (fun _ _ _ => by kernel_rfl) (fun _ _ => by kernel_rfl) (fun _ _ => by kernel_rfl) (fun _ _ => by kernel_rfl) (fun _ _ => by kernel_rfl) (fun _ _ => by kernel_rfl) trivial trivial (by kernel_rfl) trivial ?k2
      case k2 =>
        rintro φ2 xs2 I2 w2 le2 s 
        replace ha1 := RE.mono le2 ha1
        replace ha2 := RE.mono le2 ha2
        replace hl0 := RE.mono le2 hl0
        replace hr0 := RE.mono le2 hr0
        replace hlk := le2 _ _ hlk
        replace hr := le2 _ _ hr
        refine cond_false_rule (b := false) (by kernel_rfl) rfl ?_
        refine wp_skip ?_
        refine wp_seq ?_
        refine region_rule ?_
        refine ops_rule (C := []) [] [] 1 [] 0 (fun φ3 => [(38, .pointer (some ⟨ka, 0, none⟩))]) (fun φ3 => []) (fun φ3 => []) s trivial (fun φ3 => by kernel_rfl) ?_
        intro φ3 w3 s
        refine call_rule (some 39) s (rminB_c hl0 hna hta) (by kernel_rfl) ?_
        intro v4 I4 w4 le4 h4 s
        replace ha1 := RE.mono le4 ha1
        replace ha2 := RE.mono le4 ha2
        replace hl0 := RE.mono le4 hl0
        replace hr0 := RE.mono le4 hr0
        replace hlk := le4 _ _ hlk
        replace hr := le4 _ _ hr
        obtain rfl := h4
        refine ops_rule (C := []) [] [] 1 [] 0 (fun φ5 => [(7, .int .u64 ((a : Nat) : Int))]) (fun φ5 => []) (fun φ5 => []) s trivial (fun φ5 => by kernel_rfl) ?_
        intro φ5 w5 s
        refine ops_done (by kernel_rfl) ?_
        refine wp_seq ?_
        refine wp_seq ?_
        refine region_rule ?_
        refine ops_rule (C := []) [] [] 1 [] 0 (fun φ6 => [(40, .pointer (some ⟨kb, 0, none⟩))]) (fun φ6 => []) (fun φ6 => []) s trivial (fun φ6 => by kernel_rfl) ?_
        intro φ6 w6 s
        refine call_rule (some 41) s (rminB_c hr0 hnb htb) (by kernel_rfl) ?_
        intro v7 I7 w7 le7 h7 s
        replace ha1 := RE.mono le7 ha1
        replace ha2 := RE.mono le7 ha2
        replace hl0 := RE.mono le7 hl0
        replace hr0 := RE.mono le7 hr0
        replace hlk := le7 _ _ hlk
        replace hr := le7 _ _ hr
        obtain rfl := h7
        refine ops_rule (C := []) [] [] 2 [] 0 (fun φ8 => [(43, .bool (decide (((b : Nat) : Int) < ((a : Nat) : Int)))), (42, .int .u64 ((a : Nat) : Int))]) (fun φ8 => []) (fun φ8 => []) s trivial (fun φ8 => by kernel_rfl) ?_
        intro φ8 w8 s
        rw [nat_lss (a := b) (b := a)]
        refine ops_done (by kernel_rfl) ?_
        rcases Bool.eq_false_or_eq_true (decide (b < a)) with hc9 | hc9
        ·
          rw [hc9]
          refine cond_true_rule (b := true) (by kernel_rfl) rfl ?_
          refine region_rule ?_
          refine ops_rule (C := []) [] [] 1 [] 0 (fun φ10 => [(44, .pointer (some ⟨kb, 0, none⟩))]) (fun φ10 => []) (fun φ10 => []) s trivial (fun φ10 => by kernel_rfl) ?_
          intro φ10 w10 s
          refine call_rule (some 45) s (rminB_c hr0 hnb htb) (by kernel_rfl) ?_
          intro v11 I11 w11 le11 h11 s
          replace ha1 := RE.mono le11 ha1
          replace ha2 := RE.mono le11 ha2
          replace hl0 := RE.mono le11 hl0
          replace hr0 := RE.mono le11 hr0
          replace hlk := le11 _ _ hlk
          replace hr := le11 _ _ hr
          obtain rfl := h11
          refine ops_rule (C := []) [] [] 1 [] 0 (fun φ12 => [(7, .int .u64 ((b : Nat) : Int))]) (fun φ12 => []) (fun φ12 => []) s trivial (fun φ12 => by kernel_rfl) ?_
          intro φ12 w12 s
          refine ops_done (by kernel_rfl) ?_
          refine wp_seq ?_
          refine draw_rule (C := [(ka, .cells #[.int .u64 ((a : Nat) : Int), .pointer (some ⟨ka1, 0, none⟩), .pointer (some ⟨ka2, 0, none⟩)] 86), (kb, .cells #[.int .u64 ((b : Nat) : Int), .pointer none, .pointer none] 86)]) ⟨(fun φ13 xs13 => [.look 0 [] [], .look 0 [] [], .sub 0 [] [] (.int .u64 (IntKind.wrap .u64 (((n : Nat) : Int) + ((b : Nat) : Int)))), .look 0 [] [], .look 0 [] [], .look 0 [] [], .look 0 [.c 0] [ka], .look 0 [] [], .sub 0 [] [] (.int .u64 (IntKind.wrap .u64 (((a : Nat) : Int) - ((b : Nat) : Int)))), .look 0 [] [], .look 0 [] [], .look 0 [] [], .look 0 [.c 0] [ka], .look 0 [] [], .look 0 [] [], .look 0 [] [], .look 0 [.c 0] [ka], .look 0 [] [], .new, .look 0 [] [], .look 0 [] [], .look 0 [] [], .look 0 [.c 1] [kb], .look 0 [] [], .sub 0 [] [] (.int .u64 (IntKind.wrap .u64 (((b : Nat) : Int) - ((b : Nat) : Int)))), .look 0 [] [], .look 0 [] [], .look 0 [] [], .look 0 [.c 1] [kb], .look 0 [] [], .look 0 [] [], .look 0 [] [], .look 0 [.c 1] [kb], .look 0 [] [], .new, .look 0 [] [], .new, .look 0 [] []]), (fun φ13 xs13 => [.int .u64 ((n : Nat) : Int), .int .u64 ((b : Nat) : Int), .int .u64 ((n + b : Nat) : Int), .pointer (some ⟨ka, 0, none⟩), .pointer (some ⟨ka, 0, none⟩), .pointer (some ⟨ka, 0, none⟩), .int .u64 ((a : Nat) : Int), .int .u64 ((b : Nat) : Int), .int .u64 ((a - b : Nat) : Int), .pointer (some ⟨ka, 0, none⟩), .pointer (some ⟨ka, 0, none⟩), .pointer (some ⟨ka, 1, none⟩), .pointer (some ⟨ka1, 0, none⟩), .pointer (some ⟨ka, 0, none⟩), .pointer (some ⟨ka, 0, none⟩), .pointer (some ⟨ka, 2, none⟩), .pointer (some ⟨ka2, 0, none⟩), .agg #[.int .u64 ((a - b : Nat) : Int), .pointer (some ⟨ka1, 0, none⟩), .pointer (some ⟨ka2, 0, none⟩)], .pointer (some ⟨(φ13 18), 0, none⟩), .pointer (some ⟨kb, 0, none⟩), .pointer (some ⟨kb, 0, none⟩), .pointer (some ⟨kb, 0, none⟩), .int .u64 ((b : Nat) : Int), .int .u64 ((b : Nat) : Int), .int .u64 ((b - b : Nat) : Int), .pointer (some ⟨kb, 0, none⟩), .pointer (some ⟨kb, 0, none⟩), .pointer (some ⟨kb, 1, none⟩), .pointer none, .pointer (some ⟨kb, 0, none⟩), .pointer (some ⟨kb, 0, none⟩), .pointer (some ⟨kb, 2, none⟩), .pointer none, .agg #[.int .u64 ((b - b : Nat) : Int), .pointer none, .pointer none], .pointer (some ⟨(φ13 34), 0, none⟩), .agg #[.int .u64 ((n + b : Nat) : Int), .pointer (some ⟨(φ13 18), 0, none⟩), .pointer (some ⟨(φ13 34), 0, none⟩)], .pointer (some ⟨(φ13 36), 0, none⟩), .pointer (some ⟨(φ13 36), 0, none⟩)]), (fun φ13 xs13 => [[]]), (fun φ13 xs13 => [[default, default, default, default, default, default, default, default, default, default, default, default, default, default, default, default, default, default, .cells #[.int .u64 ((a - b : Nat) : Int), .pointer (some ⟨ka1, 0, none⟩), .pointer (some ⟨ka2, 0, none⟩)] 86, default, default, default, default, default, default, default, default, default, default, default, default, default, default, default, .cells #[.int .u64 ((b - b : Nat) : Int), .pointer none, .pointer none] 86, default, .cells #[.int .u64 ((n + b : Nat) : Int), .pointer (some ⟨(φ13 18), 0, none⟩), .pointer (some ⟨(φ13 34), 0, none⟩)] 86, default]]), [], [1, 1, 5, 1, 1, 1, 1, 1, 5, 1, 1, 1, 1, 1, 1, 1, 1, 1, 2, 1, 1, 1, 1, 1, 5, 1, 1, 1, 1, 1, 1, 1, 1, 1, 2, 1, 2, 1]⟩ (fun j => ([MP.any, MP.any, MP.any, MP.any, MP.any, MP.any, MP.any, MP.any, MP.any, MP.any, MP.any, MP.any, MP.any, MP.any, MP.any, MP.any, MP.any, MP.any, MP.any, MP.any, MP.any, MP.any, MP.any, MP.any, MP.any, MP.any, MP.any, MP.any, MP.any, MP.any, MP.any, MP.any, MP.any, MP.any, MP.any, MP.any, MP.any, MP.any] : List MP).getD j MP.any) [] [2, 8, 24] [] (fun φ13 xs13 => []) (fun φ13 xs13 => [(46, .int .u64 ((n : Nat) : Int)), (47, .int .u64 ((b : Nat) : Int)), (48, .int .u64 ((n + b : Nat) : Int)), (49, .pointer (some ⟨ka, 0, none⟩)), (50, .pointer (some ⟨ka, 0, none⟩)), (51, .pointer (some ⟨ka, 0, none⟩)), (52, .int .u64 ((a : Nat) : Int)), (53, .int .u64 ((b : Nat) : Int)), (54, .int .u64 ((a - b : Nat) : Int)), (55, .pointer (some ⟨ka, 0, none⟩)), (56, .pointer (some ⟨ka, 0, none⟩)), (57, .pointer (some ⟨ka, 1, none⟩)), (58, .pointer (some ⟨ka1, 0, none⟩)), (59, .pointer (some ⟨ka, 0, none⟩)), (60, .pointer (some ⟨ka, 0, none⟩)), (61, .pointer (some ⟨ka, 2, none⟩)), (62, .pointer (some ⟨ka2, 0, none⟩)), (63, .agg #[.int .u64 ((a - b : Nat) : Int), .pointer (some ⟨ka1, 0, none⟩), .pointer (some ⟨ka2, 0, none⟩)]), (64, .pointer (some ⟨(φ13 18), 0, none⟩)), (65, .pointer (some ⟨kb, 0, none⟩)), (66, .pointer (some ⟨kb, 0, none⟩)), (67, .pointer (some ⟨kb, 0, none⟩)), (68, .int .u64 ((b : Nat) : Int)), (69, .int .u64 ((b : Nat) : Int)), (70, .int .u64 ((b - b : Nat) : Int)), (71, .pointer (some ⟨kb, 0, none⟩)), (72, .pointer (some ⟨kb, 0, none⟩)), (73, .pointer (some ⟨kb, 1, none⟩)), (74, .pointer none), (75, .pointer (some ⟨kb, 0, none⟩)), (76, .pointer (some ⟨kb, 0, none⟩)), (77, .pointer (some ⟨kb, 2, none⟩)), (78, .pointer none), (79, .agg #[.int .u64 ((b - b : Nat) : Int), .pointer none, .pointer none]), (80, .pointer (some ⟨(φ13 34), 0, none⟩)), (81, .agg #[.int .u64 ((n + b : Nat) : Int), .pointer (some ⟨(φ13 18), 0, none⟩), .pointer (some ⟨(φ13 34), 0, none⟩)]), (82, .pointer (some ⟨(φ13 36), 0, none⟩)), (6, .pointer (some ⟨(φ13 36), 0, none⟩))]) (fun φ13 xs13 => [((φ13 18), .cells #[.int .u64 ((a - b : Nat) : Int), .pointer (some ⟨ka1, 0, none⟩), .pointer (some ⟨ka2, 0, none⟩)] 86), ((φ13 34), .cells #[.int .u64 ((b - b : Nat) : Int), .pointer none, .pointer none] 86), ((φ13 36), .cells #[.int .u64 ((n + b : Nat) : Int), .pointer (some ⟨(φ13 18), 0, none⟩), .pointer (some ⟨(φ13 34), 0, none⟩)] 86)]) s ⟨hlk, ⟨hr, trivial⟩⟩ (by kernel_rfl) (by kernel_rfl) (fun _ _ => by kernel_rfl) (fun _ _ => by kernel_rfl) ⟨fun _ _ => by kernel_rfl, fun _ _ => by kernel_rfl, fun _ _ => by kernel_rfl, fun _ _ => by kernel_rfl⟩ (fun _ _ _ => by kernel_rfl) (fun _ _ => by kernel_rfl) (fun _ _ => by kernel_rfl) (fun _ _ => by kernel_rfl) (fun _ _ => by kernel_rfl) (fun _ _ => by kernel_rfl) ⟨kcast (A := ∀ (φ13 : Nat → Nat) (xs13 : Xs), (.int .u64 (IntKind.wrap .u64 (((n : Nat) : Int) + ((b : Nat) : Int))) : Value) = .int .u64 ((n + b : Nat) : Int)) (by kernel_rfl) (fun φ13 xs13 => congrArg (Value.int .u64) ((nat_addU (a := n) (b := b) (by have hq0 := of_decide_eq_true hc9; omega)))), ⟨kcast (A := ∀ (φ13 : Nat → Nat) (xs13 : Xs), (.int .u64 (IntKind.wrap .u64 (((a : Nat) : Int) - ((b : Nat) : Int))) : Value) = .int .u64 ((a - b : Nat) : Int)) (by kernel_rfl) (fun φ13 xs13 => congrArg (Value.int .u64) ((nat_subU (a := a) (b := b) (by have hq0 := of_decide_eq_true hc9; omega) (by have hq0 := of_decide_eq_true hc9; omega)))), ⟨kcast (A := ∀ (φ13 : Nat → Nat) (xs13 : Xs), (.int .u64 (IntKind.wrap .u64 (((b : Nat) : Int) - ((b : Nat) : Int))) : Value) = .int .u64 ((b - b : Nat) : Int)) (by kernel_rfl) (fun φ13 xs13 => congrArg (Value.int .u64) ((nat_subU (a := b) (b := b) (by have hq0 := of_decide_eq_true hc9; omega) (by have hq0 := of_decide_eq_true hc9; omega)))), trivial⟩⟩⟩ trivial (by kernel_rfl) trivial ?k13
          case k13 =>
            rintro φ13 xs13 I13 w13 le13 s 
            replace ha1 := RE.mono le13 ha1
            replace ha2 := RE.mono le13 ha2
            replace hl0 := RE.mono le13 hl0
            replace hr0 := RE.mono le13 hr0
            replace hlk := le13 _ _ hlk
            replace hr := le13 _ _ hr
            refine wp_ret ?_
            refine ret_rule (C := []) [((φ13 18), .cells #[.int .u64 ((a - b : Nat) : Int), .pointer (some ⟨ka1, 0, none⟩), .pointer (some ⟨ka2, 0, none⟩)] 86), ((φ13 34), .cells #[.int .u64 ((b - b : Nat) : Int), .pointer none, .pointer none] 86), ((φ13 36), .cells #[.int .u64 ((n + b : Nat) : Int), .pointer (some ⟨(φ13 18), 0, none⟩), .pointer (some ⟨(φ13 34), 0, none⟩)] 86)] [] (.pointer (some ⟨(φ13 36), 0, none⟩)) [] [] s trivial (by kernel_rfl) ?_
            obtain ⟨I14, le14, hk14, s⟩ := s.freezeAt 0 (φ13 18) (.cells #[.int .u64 ((a - b : Nat) : Int), .pointer (some ⟨ka1, 0, none⟩), .pointer (some ⟨ka2, 0, none⟩)] 86) [((φ13 34), .cells #[.int .u64 ((b - b : Nat) : Int), .pointer none, .pointer none] 86), ((φ13 36), .cells #[.int .u64 ((n + b : Nat) : Int), .pointer (some ⟨(φ13 18), 0, none⟩), .pointer (some ⟨(φ13 34), 0, none⟩)] 86)] (by kernel_rfl) (by kernel_rfl)
            replace ha1 := RE.mono le14 ha1
            replace ha2 := RE.mono le14 ha2
            replace hl0 := RE.mono le14 hl0
            replace hr0 := RE.mono le14 hr0
            replace hlk := le14 _ _ hlk
            replace hr := le14 _ _ hr
            obtain ⟨I15, le15, hk15, s⟩ := s.freezeAt 0 (φ13 34) (.cells #[.int .u64 ((b - b : Nat) : Int), .pointer none, .pointer none] 86) [((φ13 36), .cells #[.int .u64 ((n + b : Nat) : Int), .pointer (some ⟨(φ13 18), 0, none⟩), .pointer (some ⟨(φ13 34), 0, none⟩)] 86)] (by kernel_rfl) (by kernel_rfl)
            replace ha1 := RE.mono le15 ha1
            replace ha2 := RE.mono le15 ha2
            replace hl0 := RE.mono le15 hl0
            replace hr0 := RE.mono le15 hr0
            replace hlk := le15 _ _ hlk
            replace hr := le15 _ _ hr
            replace hk14 := le15 _ _ hk14
            obtain ⟨I16, le16, hk16, s⟩ := s.freezeAt 0 (φ13 36) (.cells #[.int .u64 ((n + b : Nat) : Int), .pointer (some ⟨(φ13 18), 0, none⟩), .pointer (some ⟨(φ13 34), 0, none⟩)] 86) [] (by kernel_rfl) (by kernel_rfl)
            replace ha1 := RE.mono le16 ha1
            replace ha2 := RE.mono le16 ha2
            replace hl0 := RE.mono le16 hl0
            replace hr0 := RE.mono le16 hr0
            replace hlk := le16 _ _ hlk
            replace hr := le16 _ _ hr
            replace hk14 := le16 _ _ hk14
            replace hk15 := le16 _ _ hk15
            have hcm := of_decide_eq_true hc9
            exact ⟨_, _, _, rfl, s, ⟨_, rfl, by rw [mk_node9 (l := E.node a a1 a2) (r := E.leaf b) (m := b) (fun q => by cases q.1) (show min a b = b by omega)]; exact ⟨_, _, hk16, ⟨_, _, hk14, ha1, ha2⟩, hk15⟩⟩⟩
        ·
          rw [hc9]
          refine cond_false_rule (b := false) (by kernel_rfl) rfl ?_
          refine wp_skip ?_
          refine wp_seq ?_
          refine draw_rule (C := [(ka, .cells #[.int .u64 ((a : Nat) : Int), .pointer (some ⟨ka1, 0, none⟩), .pointer (some ⟨ka2, 0, none⟩)] 86), (kb, .cells #[.int .u64 ((b : Nat) : Int), .pointer none, .pointer none] 86)]) ⟨(fun φ17 xs17 => [.look 0 [] [], .look 0 [] [], .sub 0 [] [] (.int .u64 (IntKind.wrap .u64 (((n : Nat) : Int) + ((a : Nat) : Int)))), .look 0 [] [], .look 0 [] [], .look 0 [] [], .look 0 [.c 0] [ka], .look 0 [] [], .sub 0 [] [] (.int .u64 (IntKind.wrap .u64 (((a : Nat) : Int) - ((a : Nat) : Int)))), .look 0 [] [], .look 0 [] [], .look 0 [] [], .look 0 [.c 0] [ka], .look 0 [] [], .look 0 [] [], .look 0 [] [], .look 0 [.c 0] [ka], .look 0 [] [], .new, .look 0 [] [], .look 0 [] [], .look 0 [] [], .look 0 [.c 1] [kb], .look 0 [] [], .sub 0 [] [] (.int .u64 (IntKind.wrap .u64 (((b : Nat) : Int) - ((a : Nat) : Int)))), .look 0 [] [], .look 0 [] [], .look 0 [] [], .look 0 [.c 1] [kb], .look 0 [] [], .look 0 [] [], .look 0 [] [], .look 0 [.c 1] [kb], .look 0 [] [], .new, .look 0 [] [], .new, .look 0 [] []]), (fun φ17 xs17 => [.int .u64 ((n : Nat) : Int), .int .u64 ((a : Nat) : Int), .int .u64 ((n + a : Nat) : Int), .pointer (some ⟨ka, 0, none⟩), .pointer (some ⟨ka, 0, none⟩), .pointer (some ⟨ka, 0, none⟩), .int .u64 ((a : Nat) : Int), .int .u64 ((a : Nat) : Int), .int .u64 ((a - a : Nat) : Int), .pointer (some ⟨ka, 0, none⟩), .pointer (some ⟨ka, 0, none⟩), .pointer (some ⟨ka, 1, none⟩), .pointer (some ⟨ka1, 0, none⟩), .pointer (some ⟨ka, 0, none⟩), .pointer (some ⟨ka, 0, none⟩), .pointer (some ⟨ka, 2, none⟩), .pointer (some ⟨ka2, 0, none⟩), .agg #[.int .u64 ((a - a : Nat) : Int), .pointer (some ⟨ka1, 0, none⟩), .pointer (some ⟨ka2, 0, none⟩)], .pointer (some ⟨(φ17 18), 0, none⟩), .pointer (some ⟨kb, 0, none⟩), .pointer (some ⟨kb, 0, none⟩), .pointer (some ⟨kb, 0, none⟩), .int .u64 ((b : Nat) : Int), .int .u64 ((a : Nat) : Int), .int .u64 ((b - a : Nat) : Int), .pointer (some ⟨kb, 0, none⟩), .pointer (some ⟨kb, 0, none⟩), .pointer (some ⟨kb, 1, none⟩), .pointer none, .pointer (some ⟨kb, 0, none⟩), .pointer (some ⟨kb, 0, none⟩), .pointer (some ⟨kb, 2, none⟩), .pointer none, .agg #[.int .u64 ((b - a : Nat) : Int), .pointer none, .pointer none], .pointer (some ⟨(φ17 34), 0, none⟩), .agg #[.int .u64 ((n + a : Nat) : Int), .pointer (some ⟨(φ17 18), 0, none⟩), .pointer (some ⟨(φ17 34), 0, none⟩)], .pointer (some ⟨(φ17 36), 0, none⟩), .pointer (some ⟨(φ17 36), 0, none⟩)]), (fun φ17 xs17 => [[]]), (fun φ17 xs17 => [[default, default, default, default, default, default, default, default, default, default, default, default, default, default, default, default, default, default, .cells #[.int .u64 ((a - a : Nat) : Int), .pointer (some ⟨ka1, 0, none⟩), .pointer (some ⟨ka2, 0, none⟩)] 86, default, default, default, default, default, default, default, default, default, default, default, default, default, default, default, .cells #[.int .u64 ((b - a : Nat) : Int), .pointer none, .pointer none] 86, default, .cells #[.int .u64 ((n + a : Nat) : Int), .pointer (some ⟨(φ17 18), 0, none⟩), .pointer (some ⟨(φ17 34), 0, none⟩)] 86, default]]), [], [1, 1, 5, 1, 1, 1, 1, 1, 5, 1, 1, 1, 1, 1, 1, 1, 1, 1, 2, 1, 1, 1, 1, 1, 5, 1, 1, 1, 1, 1, 1, 1, 1, 1, 2, 1, 2, 1]⟩ (fun j => ([MP.any, MP.any, MP.any, MP.any, MP.any, MP.any, MP.any, MP.any, MP.any, MP.any, MP.any, MP.any, MP.any, MP.any, MP.any, MP.any, MP.any, MP.any, MP.any, MP.any, MP.any, MP.any, MP.any, MP.any, MP.any, MP.any, MP.any, MP.any, MP.any, MP.any, MP.any, MP.any, MP.any, MP.any, MP.any, MP.any, MP.any, MP.any] : List MP).getD j MP.any) [] [2, 8, 24] [] (fun φ17 xs17 => []) (fun φ17 xs17 => [(46, .int .u64 ((n : Nat) : Int)), (47, .int .u64 ((a : Nat) : Int)), (48, .int .u64 ((n + a : Nat) : Int)), (49, .pointer (some ⟨ka, 0, none⟩)), (50, .pointer (some ⟨ka, 0, none⟩)), (51, .pointer (some ⟨ka, 0, none⟩)), (52, .int .u64 ((a : Nat) : Int)), (53, .int .u64 ((a : Nat) : Int)), (54, .int .u64 ((a - a : Nat) : Int)), (55, .pointer (some ⟨ka, 0, none⟩)), (56, .pointer (some ⟨ka, 0, none⟩)), (57, .pointer (some ⟨ka, 1, none⟩)), (58, .pointer (some ⟨ka1, 0, none⟩)), (59, .pointer (some ⟨ka, 0, none⟩)), (60, .pointer (some ⟨ka, 0, none⟩)), (61, .pointer (some ⟨ka, 2, none⟩)), (62, .pointer (some ⟨ka2, 0, none⟩)), (63, .agg #[.int .u64 ((a - a : Nat) : Int), .pointer (some ⟨ka1, 0, none⟩), .pointer (some ⟨ka2, 0, none⟩)]), (64, .pointer (some ⟨(φ17 18), 0, none⟩)), (65, .pointer (some ⟨kb, 0, none⟩)), (66, .pointer (some ⟨kb, 0, none⟩)), (67, .pointer (some ⟨kb, 0, none⟩)), (68, .int .u64 ((b : Nat) : Int)), (69, .int .u64 ((a : Nat) : Int)), (70, .int .u64 ((b - a : Nat) : Int)), (71, .pointer (some ⟨kb, 0, none⟩)), (72, .pointer (some ⟨kb, 0, none⟩)), (73, .pointer (some ⟨kb, 1, none⟩)), (74, .pointer none), (75, .pointer (some ⟨kb, 0, none⟩)), (76, .pointer (some ⟨kb, 0, none⟩)), (77, .pointer (some ⟨kb, 2, none⟩)), (78, .pointer none), (79, .agg #[.int .u64 ((b - a : Nat) : Int), .pointer none, .pointer none]), (80, .pointer (some ⟨(φ17 34), 0, none⟩)), (81, .agg #[.int .u64 ((n + a : Nat) : Int), .pointer (some ⟨(φ17 18), 0, none⟩), .pointer (some ⟨(φ17 34), 0, none⟩)]), (82, .pointer (some ⟨(φ17 36), 0, none⟩)), (6, .pointer (some ⟨(φ17 36), 0, none⟩))]) (fun φ17 xs17 => [((φ17 18), .cells #[.int .u64 ((a - a : Nat) : Int), .pointer (some ⟨ka1, 0, none⟩), .pointer (some ⟨ka2, 0, none⟩)] 86), ((φ17 34), .cells #[.int .u64 ((b - a : Nat) : Int), .pointer none, .pointer none] 86), ((φ17 36), .cells #[.int .u64 ((n + a : Nat) : Int), .pointer (some ⟨(φ17 18), 0, none⟩), .pointer (some ⟨(φ17 34), 0, none⟩)] 86)]) s ⟨hlk, ⟨hr, trivial⟩⟩ (by kernel_rfl) (by kernel_rfl) (fun _ _ => by kernel_rfl) (fun _ _ => by kernel_rfl) ⟨fun _ _ => by kernel_rfl, fun _ _ => by kernel_rfl, fun _ _ => by kernel_rfl, fun _ _ => by kernel_rfl⟩ (fun _ _ _ => by kernel_rfl) (fun _ _ => by kernel_rfl) (fun _ _ => by kernel_rfl) (fun _ _ => by kernel_rfl) (fun _ _ => by kernel_rfl) (fun _ _ => by kernel_rfl) ⟨kcast (A := ∀ (φ17 : Nat → Nat) (xs17 : Xs), (.int .u64 (IntKind.wrap .u64 (((n : Nat) : Int) + ((a : Nat) : Int))) : Value) = .int .u64 ((n + a : Nat) : Int)) (by kernel_rfl) (fun φ17 xs17 => congrArg (Value.int .u64) ((nat_addU (a := n) (b := a) (by have hq0 := of_decide_eq_false hc9; omega)))), ⟨kcast (A := ∀ (φ17 : Nat → Nat) (xs17 : Xs), (.int .u64 (IntKind.wrap .u64 (((a : Nat) : Int) - ((a : Nat) : Int))) : Value) = .int .u64 ((a - a : Nat) : Int)) (by kernel_rfl) (fun φ17 xs17 => congrArg (Value.int .u64) ((nat_subU (a := a) (b := a) (by have hq0 := of_decide_eq_false hc9; omega) (by have hq0 := of_decide_eq_false hc9; omega)))), ⟨kcast (A := ∀ (φ17 : Nat → Nat) (xs17 : Xs), (.int .u64 (IntKind.wrap .u64 (((b : Nat) : Int) - ((a : Nat) : Int))) : Value) = .int .u64 ((b - a : Nat) : Int)) (by kernel_rfl) (fun φ17 xs17 => congrArg (Value.int .u64) ((nat_subU (a := b) (b := a) (by have hq0 := of_decide_eq_false hc9; omega) (by have hq0 := of_decide_eq_false hc9; omega)))), trivial⟩⟩⟩ trivial (by kernel_rfl) trivial ?k17
          case k17 =>
            rintro φ17 xs17 I17 w17 le17 s 
            replace ha1 := RE.mono le17 ha1
            replace ha2 := RE.mono le17 ha2
            replace hl0 := RE.mono le17 hl0
            replace hr0 := RE.mono le17 hr0
            replace hlk := le17 _ _ hlk
            replace hr := le17 _ _ hr
            refine wp_ret ?_
            refine ret_rule (C := []) [((φ17 18), .cells #[.int .u64 ((a - a : Nat) : Int), .pointer (some ⟨ka1, 0, none⟩), .pointer (some ⟨ka2, 0, none⟩)] 86), ((φ17 34), .cells #[.int .u64 ((b - a : Nat) : Int), .pointer none, .pointer none] 86), ((φ17 36), .cells #[.int .u64 ((n + a : Nat) : Int), .pointer (some ⟨(φ17 18), 0, none⟩), .pointer (some ⟨(φ17 34), 0, none⟩)] 86)] [] (.pointer (some ⟨(φ17 36), 0, none⟩)) [] [] s trivial (by kernel_rfl) ?_
            obtain ⟨I18, le18, hk18, s⟩ := s.freezeAt 0 (φ17 18) (.cells #[.int .u64 ((a - a : Nat) : Int), .pointer (some ⟨ka1, 0, none⟩), .pointer (some ⟨ka2, 0, none⟩)] 86) [((φ17 34), .cells #[.int .u64 ((b - a : Nat) : Int), .pointer none, .pointer none] 86), ((φ17 36), .cells #[.int .u64 ((n + a : Nat) : Int), .pointer (some ⟨(φ17 18), 0, none⟩), .pointer (some ⟨(φ17 34), 0, none⟩)] 86)] (by kernel_rfl) (by kernel_rfl)
            replace ha1 := RE.mono le18 ha1
            replace ha2 := RE.mono le18 ha2
            replace hl0 := RE.mono le18 hl0
            replace hr0 := RE.mono le18 hr0
            replace hlk := le18 _ _ hlk
            replace hr := le18 _ _ hr
            obtain ⟨I19, le19, hk19, s⟩ := s.freezeAt 0 (φ17 34) (.cells #[.int .u64 ((b - a : Nat) : Int), .pointer none, .pointer none] 86) [((φ17 36), .cells #[.int .u64 ((n + a : Nat) : Int), .pointer (some ⟨(φ17 18), 0, none⟩), .pointer (some ⟨(φ17 34), 0, none⟩)] 86)] (by kernel_rfl) (by kernel_rfl)
            replace ha1 := RE.mono le19 ha1
            replace ha2 := RE.mono le19 ha2
            replace hl0 := RE.mono le19 hl0
            replace hr0 := RE.mono le19 hr0
            replace hlk := le19 _ _ hlk
            replace hr := le19 _ _ hr
            replace hk18 := le19 _ _ hk18
            obtain ⟨I20, le20, hk20, s⟩ := s.freezeAt 0 (φ17 36) (.cells #[.int .u64 ((n + a : Nat) : Int), .pointer (some ⟨(φ17 18), 0, none⟩), .pointer (some ⟨(φ17 34), 0, none⟩)] 86) [] (by kernel_rfl) (by kernel_rfl)
            replace ha1 := RE.mono le20 ha1
            replace ha2 := RE.mono le20 ha2
            replace hl0 := RE.mono le20 hl0
            replace hr0 := RE.mono le20 hr0
            replace hlk := le20 _ _ hlk
            replace hr := le20 _ _ hr
            replace hk18 := le20 _ _ hk18
            replace hk19 := le20 _ _ hk19
            have hcm := of_decide_eq_false hc9
            exact ⟨_, _, _, rfl, s, ⟨_, rfl, by rw [mk_node9 (l := E.node a a1 a2) (r := E.leaf b) (m := a) (fun q => by cases q.1) (show min a b = a by omega)]; exact ⟨_, _, hk20, ⟨_, _, hk18, ha1, ha2⟩, hk19⟩⟩⟩
    | node b b1 b2 =>
      have hna := hnl
      have hta := htl
      have hl0 : RE _ (E.node a a1 a2) ka := hl
      have hab : a ≤ (E.node a a1 a2).top := hbl
      obtain ⟨ka1, ka2, hlk, ha1, ha2⟩ := hl
      have hnb := hnr
      have htb := htr
      have hr0 : RE _ (E.node b b1 b2) kb := hr
      have hbb : b ≤ (E.node b b1 b2).top := hbr
      obtain ⟨kb1, kb2, hrk, hb1, hb2⟩ := hr
      refine enter_rule 83 [(0, .int .u64 ((n : Nat) : Int)), (1, .pointer (some ⟨ka, 0, none⟩)), (2, .pointer (some ⟨kb, 0, none⟩))] Try.func47 rfl (by kernel_rfl) ?_
      intro w s
      refine wp_seq ?_
      refine region_rule ?_
      refine ops_rule (C := []) [] [] 1 [] 0 (fun φ1 => [(6, .pointer none)]) (fun φ1 => []) (fun φ1 => []) s trivial (fun φ1 => by kernel_rfl) ?_
      intro φ1 w1 s
      refine ops_done (by kernel_rfl) ?_
      refine wp_seq ?_
      refine wp_seq ?_
      refine draw_rule (C := [(ka, .cells #[.int .u64 ((a : Nat) : Int), .pointer (some ⟨ka1, 0, none⟩), .pointer (some ⟨ka2, 0, none⟩)] 86)]) ⟨(fun φ2 xs2 => [.look 0 [] [], .look 0 [] [], .look 0 [] [], .look 0 [.c 0] [ka], .look 0 [] [], .look 0 [] [], .skip, .skip, .skip, .skip, .skip, .look 0 [] [], .look 0 [] [], .skip, .skip, .skip, .skip, .skip, .skip, .skip, .skip, .skip, .look 0 [] []]), (fun φ2 xs2 => [.pointer (some ⟨ka, 0, none⟩), .pointer (some ⟨ka, 0, none⟩), .pointer (some ⟨ka, 1, none⟩), .pointer (some ⟨ka1, 0, none⟩), .bool false, .bool false, undef, undef, undef, undef, undef, .bool false, .bool false, undef, undef, undef, undef, undef, undef, undef, undef, undef, .bool false]), (fun φ2 xs2 => [[]]), (fun φ2 xs2 => [[default, default, default, default, default, default, default, default, default, default, default, default, default, default, default, default, default, default, default, default, default, default, default]]), [], [1, 1, 1, 1, 1, 1, 0, 0, 0, 0, 0, 1, 1, 0, 0, 0, 0, 0, 0, 0, 0, 0, 1]⟩ (fun j => ([MP.any, MP.any, MP.any, MP.any, MP.any, MP.any, MP.any, MP.any, MP.any, MP.any, MP.any, MP.any, MP.any, MP.any, MP.any, MP.any, MP.any, MP.any, MP.any, MP.any, MP.any, MP.any, MP.any] : List MP).getD j MP.any) [] [] [] (fun φ2 xs2 => []) (fun φ2 xs2 => [(8, .pointer (some ⟨ka, 0, none⟩)), (9, .pointer (some ⟨ka, 0, none⟩)), (10, .pointer (some ⟨ka, 1, none⟩)), (11, .pointer (some ⟨ka1, 0, none⟩)), (12, .bool false), (13, .bool false), (14, undef), (15, undef), (16, undef), (17, undef), (18, undef), (19, .bool false), (20, .bool false), (21, undef), (22, undef), (23, undef), (24, undef), (25, undef), (26, undef), (27, undef), (28, undef), (29, undef), (30, .bool false)]) (fun φ2 xs2 => []) s ⟨hlk, trivial⟩ (by kernel_rfl) (by kernel_rfl) (fun _ _ => by kernel_rfl) (fun _ _ => by kernel_rfl) ⟨fun _ _ => by kernel_rfl, fun _ _ => by kernel_rfl, fun _ _ => by kernel_rfl, fun _ _ => by kernel_rfl⟩ (fun _ _ _ => by kernel_rfl) (fun _ _ => by kernel_rfl) (fun _ _ => by kernel_rfl) (fun _ _ => by kernel_rfl) (fun _ _ => by kernel_rfl) (fun _ _ => by kernel_rfl) trivial trivial (by kernel_rfl) trivial ?k2
      case k2 =>
        rintro φ2 xs2 I2 w2 le2 s 
        replace ha1 := RE.mono le2 ha1
        replace ha2 := RE.mono le2 ha2
        replace hl0 := RE.mono le2 hl0
        replace hb1 := RE.mono le2 hb1
        replace hb2 := RE.mono le2 hb2
        replace hr0 := RE.mono le2 hr0
        replace hlk := le2 _ _ hlk
        replace hrk := le2 _ _ hrk
        refine cond_false_rule (b := false) (by kernel_rfl) rfl ?_
        refine wp_skip ?_
        refine wp_seq ?_
        refine region_rule ?_
        refine ops_rule (C := []) [] [] 1 [] 0 (fun φ3 => [(38, .pointer (some ⟨ka, 0, none⟩))]) (fun φ3 => []) (fun φ3 => []) s trivial (fun φ3 => by kernel_rfl) ?_
        intro φ3 w3 s
        refine call_rule (some 39) s (rminB_c hl0 hna hta) (by kernel_rfl) ?_
        intro v4 I4 w4 le4 h4 s
        replace ha1 := RE.mono le4 ha1
        replace ha2 := RE.mono le4 ha2
        replace hl0 := RE.mono le4 hl0
        replace hb1 := RE.mono le4 hb1
        replace hb2 := RE.mono le4 hb2
        replace hr0 := RE.mono le4 hr0
        replace hlk := le4 _ _ hlk
        replace hrk := le4 _ _ hrk
        obtain rfl := h4
        refine ops_rule (C := []) [] [] 1 [] 0 (fun φ5 => [(7, .int .u64 ((a : Nat) : Int))]) (fun φ5 => []) (fun φ5 => []) s trivial (fun φ5 => by kernel_rfl) ?_
        intro φ5 w5 s
        refine ops_done (by kernel_rfl) ?_
        refine wp_seq ?_
        refine wp_seq ?_
        refine region_rule ?_
        refine ops_rule (C := []) [] [] 1 [] 0 (fun φ6 => [(40, .pointer (some ⟨kb, 0, none⟩))]) (fun φ6 => []) (fun φ6 => []) s trivial (fun φ6 => by kernel_rfl) ?_
        intro φ6 w6 s
        refine call_rule (some 41) s (rminB_c hr0 hnb htb) (by kernel_rfl) ?_
        intro v7 I7 w7 le7 h7 s
        replace ha1 := RE.mono le7 ha1
        replace ha2 := RE.mono le7 ha2
        replace hl0 := RE.mono le7 hl0
        replace hb1 := RE.mono le7 hb1
        replace hb2 := RE.mono le7 hb2
        replace hr0 := RE.mono le7 hr0
        replace hlk := le7 _ _ hlk
        replace hrk := le7 _ _ hrk
        obtain rfl := h7
        refine ops_rule (C := []) [] [] 2 [] 0 (fun φ8 => [(43, .bool (decide (((b : Nat) : Int) < ((a : Nat) : Int)))), (42, .int .u64 ((a : Nat) : Int))]) (fun φ8 => []) (fun φ8 => []) s trivial (fun φ8 => by kernel_rfl) ?_
        intro φ8 w8 s
        rw [nat_lss (a := b) (b := a)]
        refine ops_done (by kernel_rfl) ?_
        rcases Bool.eq_false_or_eq_true (decide (b < a)) with hc9 | hc9
        ·
          rw [hc9]
          refine cond_true_rule (b := true) (by kernel_rfl) rfl ?_
          refine region_rule ?_
          refine ops_rule (C := []) [] [] 1 [] 0 (fun φ10 => [(44, .pointer (some ⟨kb, 0, none⟩))]) (fun φ10 => []) (fun φ10 => []) s trivial (fun φ10 => by kernel_rfl) ?_
          intro φ10 w10 s
          refine call_rule (some 45) s (rminB_c hr0 hnb htb) (by kernel_rfl) ?_
          intro v11 I11 w11 le11 h11 s
          replace ha1 := RE.mono le11 ha1
          replace ha2 := RE.mono le11 ha2
          replace hl0 := RE.mono le11 hl0
          replace hb1 := RE.mono le11 hb1
          replace hb2 := RE.mono le11 hb2
          replace hr0 := RE.mono le11 hr0
          replace hlk := le11 _ _ hlk
          replace hrk := le11 _ _ hrk
          obtain rfl := h11
          refine ops_rule (C := []) [] [] 1 [] 0 (fun φ12 => [(7, .int .u64 ((b : Nat) : Int))]) (fun φ12 => []) (fun φ12 => []) s trivial (fun φ12 => by kernel_rfl) ?_
          intro φ12 w12 s
          refine ops_done (by kernel_rfl) ?_
          refine wp_seq ?_
          refine draw_rule (C := [(ka, .cells #[.int .u64 ((a : Nat) : Int), .pointer (some ⟨ka1, 0, none⟩), .pointer (some ⟨ka2, 0, none⟩)] 86), (kb, .cells #[.int .u64 ((b : Nat) : Int), .pointer (some ⟨kb1, 0, none⟩), .pointer (some ⟨kb2, 0, none⟩)] 86)]) ⟨(fun φ13 xs13 => [.look 0 [] [], .look 0 [] [], .sub 0 [] [] (.int .u64 (IntKind.wrap .u64 (((n : Nat) : Int) + ((b : Nat) : Int)))), .look 0 [] [], .look 0 [] [], .look 0 [] [], .look 0 [.c 0] [ka], .look 0 [] [], .sub 0 [] [] (.int .u64 (IntKind.wrap .u64 (((a : Nat) : Int) - ((b : Nat) : Int)))), .look 0 [] [], .look 0 [] [], .look 0 [] [], .look 0 [.c 0] [ka], .look 0 [] [], .look 0 [] [], .look 0 [] [], .look 0 [.c 0] [ka], .look 0 [] [], .new, .look 0 [] [], .look 0 [] [], .look 0 [] [], .look 0 [.c 1] [kb], .look 0 [] [], .sub 0 [] [] (.int .u64 (IntKind.wrap .u64 (((b : Nat) : Int) - ((b : Nat) : Int)))), .look 0 [] [], .look 0 [] [], .look 0 [] [], .look 0 [.c 1] [kb], .look 0 [] [], .look 0 [] [], .look 0 [] [], .look 0 [.c 1] [kb], .look 0 [] [], .new, .look 0 [] [], .new, .look 0 [] []]), (fun φ13 xs13 => [.int .u64 ((n : Nat) : Int), .int .u64 ((b : Nat) : Int), .int .u64 ((n + b : Nat) : Int), .pointer (some ⟨ka, 0, none⟩), .pointer (some ⟨ka, 0, none⟩), .pointer (some ⟨ka, 0, none⟩), .int .u64 ((a : Nat) : Int), .int .u64 ((b : Nat) : Int), .int .u64 ((a - b : Nat) : Int), .pointer (some ⟨ka, 0, none⟩), .pointer (some ⟨ka, 0, none⟩), .pointer (some ⟨ka, 1, none⟩), .pointer (some ⟨ka1, 0, none⟩), .pointer (some ⟨ka, 0, none⟩), .pointer (some ⟨ka, 0, none⟩), .pointer (some ⟨ka, 2, none⟩), .pointer (some ⟨ka2, 0, none⟩), .agg #[.int .u64 ((a - b : Nat) : Int), .pointer (some ⟨ka1, 0, none⟩), .pointer (some ⟨ka2, 0, none⟩)], .pointer (some ⟨(φ13 18), 0, none⟩), .pointer (some ⟨kb, 0, none⟩), .pointer (some ⟨kb, 0, none⟩), .pointer (some ⟨kb, 0, none⟩), .int .u64 ((b : Nat) : Int), .int .u64 ((b : Nat) : Int), .int .u64 ((b - b : Nat) : Int), .pointer (some ⟨kb, 0, none⟩), .pointer (some ⟨kb, 0, none⟩), .pointer (some ⟨kb, 1, none⟩), .pointer (some ⟨kb1, 0, none⟩), .pointer (some ⟨kb, 0, none⟩), .pointer (some ⟨kb, 0, none⟩), .pointer (some ⟨kb, 2, none⟩), .pointer (some ⟨kb2, 0, none⟩), .agg #[.int .u64 ((b - b : Nat) : Int), .pointer (some ⟨kb1, 0, none⟩), .pointer (some ⟨kb2, 0, none⟩)], .pointer (some ⟨(φ13 34), 0, none⟩), .agg #[.int .u64 ((n + b : Nat) : Int), .pointer (some ⟨(φ13 18), 0, none⟩), .pointer (some ⟨(φ13 34), 0, none⟩)], .pointer (some ⟨(φ13 36), 0, none⟩), .pointer (some ⟨(φ13 36), 0, none⟩)]), (fun φ13 xs13 => [[]]), (fun φ13 xs13 => [[default, default, default, default, default, default, default, default, default, default, default, default, default, default, default, default, default, default, .cells #[.int .u64 ((a - b : Nat) : Int), .pointer (some ⟨ka1, 0, none⟩), .pointer (some ⟨ka2, 0, none⟩)] 86, default, default, default, default, default, default, default, default, default, default, default, default, default, default, default, .cells #[.int .u64 ((b - b : Nat) : Int), .pointer (some ⟨kb1, 0, none⟩), .pointer (some ⟨kb2, 0, none⟩)] 86, default, .cells #[.int .u64 ((n + b : Nat) : Int), .pointer (some ⟨(φ13 18), 0, none⟩), .pointer (some ⟨(φ13 34), 0, none⟩)] 86, default]]), [], [1, 1, 5, 1, 1, 1, 1, 1, 5, 1, 1, 1, 1, 1, 1, 1, 1, 1, 2, 1, 1, 1, 1, 1, 5, 1, 1, 1, 1, 1, 1, 1, 1, 1, 2, 1, 2, 1]⟩ (fun j => ([MP.any, MP.any, MP.any, MP.any, MP.any, MP.any, MP.any, MP.any, MP.any, MP.any, MP.any, MP.any, MP.any, MP.any, MP.any, MP.any, MP.any, MP.any, MP.any, MP.any, MP.any, MP.any, MP.any, MP.any, MP.any, MP.any, MP.any, MP.any, MP.any, MP.any, MP.any, MP.any, MP.any, MP.any, MP.any, MP.any, MP.any, MP.any] : List MP).getD j MP.any) [] [2, 8, 24] [] (fun φ13 xs13 => []) (fun φ13 xs13 => [(46, .int .u64 ((n : Nat) : Int)), (47, .int .u64 ((b : Nat) : Int)), (48, .int .u64 ((n + b : Nat) : Int)), (49, .pointer (some ⟨ka, 0, none⟩)), (50, .pointer (some ⟨ka, 0, none⟩)), (51, .pointer (some ⟨ka, 0, none⟩)), (52, .int .u64 ((a : Nat) : Int)), (53, .int .u64 ((b : Nat) : Int)), (54, .int .u64 ((a - b : Nat) : Int)), (55, .pointer (some ⟨ka, 0, none⟩)), (56, .pointer (some ⟨ka, 0, none⟩)), (57, .pointer (some ⟨ka, 1, none⟩)), (58, .pointer (some ⟨ka1, 0, none⟩)), (59, .pointer (some ⟨ka, 0, none⟩)), (60, .pointer (some ⟨ka, 0, none⟩)), (61, .pointer (some ⟨ka, 2, none⟩)), (62, .pointer (some ⟨ka2, 0, none⟩)), (63, .agg #[.int .u64 ((a - b : Nat) : Int), .pointer (some ⟨ka1, 0, none⟩), .pointer (some ⟨ka2, 0, none⟩)]), (64, .pointer (some ⟨(φ13 18), 0, none⟩)), (65, .pointer (some ⟨kb, 0, none⟩)), (66, .pointer (some ⟨kb, 0, none⟩)), (67, .pointer (some ⟨kb, 0, none⟩)), (68, .int .u64 ((b : Nat) : Int)), (69, .int .u64 ((b : Nat) : Int)), (70, .int .u64 ((b - b : Nat) : Int)), (71, .pointer (some ⟨kb, 0, none⟩)), (72, .pointer (some ⟨kb, 0, none⟩)), (73, .pointer (some ⟨kb, 1, none⟩)), (74, .pointer (some ⟨kb1, 0, none⟩)), (75, .pointer (some ⟨kb, 0, none⟩)), (76, .pointer (some ⟨kb, 0, none⟩)), (77, .pointer (some ⟨kb, 2, none⟩)), (78, .pointer (some ⟨kb2, 0, none⟩)), (79, .agg #[.int .u64 ((b - b : Nat) : Int), .pointer (some ⟨kb1, 0, none⟩), .pointer (some ⟨kb2, 0, none⟩)]), (80, .pointer (some ⟨(φ13 34), 0, none⟩)), (81, .agg #[.int .u64 ((n + b : Nat) : Int), .pointer (some ⟨(φ13 18), 0, none⟩), .pointer (some ⟨(φ13 34), 0, none⟩)]), (82, .pointer (some ⟨(φ13 36), 0, none⟩)), (6, .pointer (some ⟨(φ13 36), 0, none⟩))]) (fun φ13 xs13 => [((φ13 18), .cells #[.int .u64 ((a - b : Nat) : Int), .pointer (some ⟨ka1, 0, none⟩), .pointer (some ⟨ka2, 0, none⟩)] 86), ((φ13 34), .cells #[.int .u64 ((b - b : Nat) : Int), .pointer (some ⟨kb1, 0, none⟩), .pointer (some ⟨kb2, 0, none⟩)] 86), ((φ13 36), .cells #[.int .u64 ((n + b : Nat) : Int), .pointer (some ⟨(φ13 18), 0, none⟩), .pointer (some ⟨(φ13 34), 0, none⟩)] 86)]) s ⟨hlk, ⟨hrk, trivial⟩⟩ (by kernel_rfl) (by kernel_rfl) (fun _ _ => by kernel_rfl) (fun _ _ => by kernel_rfl) ⟨fun _ _ => by kernel_rfl, fun _ _ => by kernel_rfl, fun _ _ => by kernel_rfl, fun _ _ => by kernel_rfl⟩ (fun _ _ _ => by kernel_rfl) (fun _ _ => by kernel_rfl) (fun _ _ => by kernel_rfl) (fun _ _ => by kernel_rfl) (fun _ _ => by kernel_rfl) (fun _ _ => by kernel_rfl) ⟨kcast (A := ∀ (φ13 : Nat → Nat) (xs13 : Xs), (.int .u64 (IntKind.wrap .u64 (((n : Nat) : Int) + ((b : Nat) : Int))) : Value) = .int .u64 ((n + b : Nat) : Int)) (by kernel_rfl) (fun φ13 xs13 => congrArg (Value.int .u64) ((nat_addU (a := n) (b := b) (by have hq0 := of_decide_eq_true hc9; omega)))), ⟨kcast (A := ∀ (φ13 : Nat → Nat) (xs13 : Xs), (.int .u64 (IntKind.wrap .u64 (((a : Nat) : Int) - ((b : Nat) : Int))) : Value) = .int .u64 ((a - b : Nat) : Int)) (by kernel_rfl) (fun φ13 xs13 => congrArg (Value.int .u64) ((nat_subU (a := a) (b := b) (by have hq0 := of_decide_eq_true hc9; omega) (by have hq0 := of_decide_eq_true hc9; omega)))), ⟨kcast (A := ∀ (φ13 : Nat → Nat) (xs13 : Xs), (.int .u64 (IntKind.wrap .u64 (((b : Nat) : Int) - ((b : Nat) : Int))) : Value) = .int .u64 ((b - b : Nat) : Int)) (by kernel_rfl) (fun φ13 xs13 => congrArg (Value.int .u64) ((nat_subU (a := b) (b := b) (by have hq0 := of_decide_eq_true hc9; omega) (by have hq0 := of_decide_eq_true hc9; omega)))), trivial⟩⟩⟩ trivial (by kernel_rfl) trivial ?k13
          case k13 =>
            rintro φ13 xs13 I13 w13 le13 s 
            replace ha1 := RE.mono le13 ha1
            replace ha2 := RE.mono le13 ha2
            replace hl0 := RE.mono le13 hl0
            replace hb1 := RE.mono le13 hb1
            replace hb2 := RE.mono le13 hb2
            replace hr0 := RE.mono le13 hr0
            replace hlk := le13 _ _ hlk
            replace hrk := le13 _ _ hrk
            refine wp_ret ?_
            refine ret_rule (C := []) [((φ13 18), .cells #[.int .u64 ((a - b : Nat) : Int), .pointer (some ⟨ka1, 0, none⟩), .pointer (some ⟨ka2, 0, none⟩)] 86), ((φ13 34), .cells #[.int .u64 ((b - b : Nat) : Int), .pointer (some ⟨kb1, 0, none⟩), .pointer (some ⟨kb2, 0, none⟩)] 86), ((φ13 36), .cells #[.int .u64 ((n + b : Nat) : Int), .pointer (some ⟨(φ13 18), 0, none⟩), .pointer (some ⟨(φ13 34), 0, none⟩)] 86)] [] (.pointer (some ⟨(φ13 36), 0, none⟩)) [] [] s trivial (by kernel_rfl) ?_
            obtain ⟨I14, le14, hk14, s⟩ := s.freezeAt 0 (φ13 18) (.cells #[.int .u64 ((a - b : Nat) : Int), .pointer (some ⟨ka1, 0, none⟩), .pointer (some ⟨ka2, 0, none⟩)] 86) [((φ13 34), .cells #[.int .u64 ((b - b : Nat) : Int), .pointer (some ⟨kb1, 0, none⟩), .pointer (some ⟨kb2, 0, none⟩)] 86), ((φ13 36), .cells #[.int .u64 ((n + b : Nat) : Int), .pointer (some ⟨(φ13 18), 0, none⟩), .pointer (some ⟨(φ13 34), 0, none⟩)] 86)] (by kernel_rfl) (by kernel_rfl)
            replace ha1 := RE.mono le14 ha1
            replace ha2 := RE.mono le14 ha2
            replace hl0 := RE.mono le14 hl0
            replace hb1 := RE.mono le14 hb1
            replace hb2 := RE.mono le14 hb2
            replace hr0 := RE.mono le14 hr0
            replace hlk := le14 _ _ hlk
            replace hrk := le14 _ _ hrk
            obtain ⟨I15, le15, hk15, s⟩ := s.freezeAt 0 (φ13 34) (.cells #[.int .u64 ((b - b : Nat) : Int), .pointer (some ⟨kb1, 0, none⟩), .pointer (some ⟨kb2, 0, none⟩)] 86) [((φ13 36), .cells #[.int .u64 ((n + b : Nat) : Int), .pointer (some ⟨(φ13 18), 0, none⟩), .pointer (some ⟨(φ13 34), 0, none⟩)] 86)] (by kernel_rfl) (by kernel_rfl)
            replace ha1 := RE.mono le15 ha1
            replace ha2 := RE.mono le15 ha2
            replace hl0 := RE.mono le15 hl0
            replace hb1 := RE.mono le15 hb1
            replace hb2 := RE.mono le15 hb2
            replace hr0 := RE.mono le15 hr0
            replace hlk := le15 _ _ hlk
            replace hrk := le15 _ _ hrk
            replace hk14 := le15 _ _ hk14
            obtain ⟨I16, le16, hk16, s⟩ := s.freezeAt 0 (φ13 36) (.cells #[.int .u64 ((n + b : Nat) : Int), .pointer (some ⟨(φ13 18), 0, none⟩), .pointer (some ⟨(φ13 34), 0, none⟩)] 86) [] (by kernel_rfl) (by kernel_rfl)
            replace ha1 := RE.mono le16 ha1
            replace ha2 := RE.mono le16 ha2
            replace hl0 := RE.mono le16 hl0
            replace hb1 := RE.mono le16 hb1
            replace hb2 := RE.mono le16 hb2
            replace hr0 := RE.mono le16 hr0
            replace hlk := le16 _ _ hlk
            replace hrk := le16 _ _ hrk
            replace hk14 := le16 _ _ hk14
            replace hk15 := le16 _ _ hk15
            have hcm := of_decide_eq_true hc9
            exact ⟨_, _, _, rfl, s, ⟨_, rfl, by rw [mk_node9 (l := E.node a a1 a2) (r := E.node b b1 b2) (m := b) (fun q => by cases q.1) (show min a b = b by omega)]; exact ⟨_, _, hk16, ⟨_, _, hk14, ha1, ha2⟩, ⟨_, _, hk15, hb1, hb2⟩⟩⟩⟩
        ·
          rw [hc9]
          refine cond_false_rule (b := false) (by kernel_rfl) rfl ?_
          refine wp_skip ?_
          refine wp_seq ?_
          refine draw_rule (C := [(ka, .cells #[.int .u64 ((a : Nat) : Int), .pointer (some ⟨ka1, 0, none⟩), .pointer (some ⟨ka2, 0, none⟩)] 86), (kb, .cells #[.int .u64 ((b : Nat) : Int), .pointer (some ⟨kb1, 0, none⟩), .pointer (some ⟨kb2, 0, none⟩)] 86)]) ⟨(fun φ17 xs17 => [.look 0 [] [], .look 0 [] [], .sub 0 [] [] (.int .u64 (IntKind.wrap .u64 (((n : Nat) : Int) + ((a : Nat) : Int)))), .look 0 [] [], .look 0 [] [], .look 0 [] [], .look 0 [.c 0] [ka], .look 0 [] [], .sub 0 [] [] (.int .u64 (IntKind.wrap .u64 (((a : Nat) : Int) - ((a : Nat) : Int)))), .look 0 [] [], .look 0 [] [], .look 0 [] [], .look 0 [.c 0] [ka], .look 0 [] [], .look 0 [] [], .look 0 [] [], .look 0 [.c 0] [ka], .look 0 [] [], .new, .look 0 [] [], .look 0 [] [], .look 0 [] [], .look 0 [.c 1] [kb], .look 0 [] [], .sub 0 [] [] (.int .u64 (IntKind.wrap .u64 (((b : Nat) : Int) - ((a : Nat) : Int)))), .look 0 [] [], .look 0 [] [], .look 0 [] [], .look 0 [.c 1] [kb], .look 0 [] [], .look 0 [] [], .look 0 [] [], .look 0 [.c 1] [kb], .look 0 [] [], .new, .look 0 [] [], .new, .look 0 [] []]), (fun φ17 xs17 => [.int .u64 ((n : Nat) : Int), .int .u64 ((a : Nat) : Int), .int .u64 ((n + a : Nat) : Int), .pointer (some ⟨ka, 0, none⟩), .pointer (some ⟨ka, 0, none⟩), .pointer (some ⟨ka, 0, none⟩), .int .u64 ((a : Nat) : Int), .int .u64 ((a : Nat) : Int), .int .u64 ((a - a : Nat) : Int), .pointer (some ⟨ka, 0, none⟩), .pointer (some ⟨ka, 0, none⟩), .pointer (some ⟨ka, 1, none⟩), .pointer (some ⟨ka1, 0, none⟩), .pointer (some ⟨ka, 0, none⟩), .pointer (some ⟨ka, 0, none⟩), .pointer (some ⟨ka, 2, none⟩), .pointer (some ⟨ka2, 0, none⟩), .agg #[.int .u64 ((a - a : Nat) : Int), .pointer (some ⟨ka1, 0, none⟩), .pointer (some ⟨ka2, 0, none⟩)], .pointer (some ⟨(φ17 18), 0, none⟩), .pointer (some ⟨kb, 0, none⟩), .pointer (some ⟨kb, 0, none⟩), .pointer (some ⟨kb, 0, none⟩), .int .u64 ((b : Nat) : Int), .int .u64 ((a : Nat) : Int), .int .u64 ((b - a : Nat) : Int), .pointer (some ⟨kb, 0, none⟩), .pointer (some ⟨kb, 0, none⟩), .pointer (some ⟨kb, 1, none⟩), .pointer (some ⟨kb1, 0, none⟩), .pointer (some ⟨kb, 0, none⟩), .pointer (some ⟨kb, 0, none⟩), .pointer (some ⟨kb, 2, none⟩), .pointer (some ⟨kb2, 0, none⟩), .agg #[.int .u64 ((b - a : Nat) : Int), .pointer (some ⟨kb1, 0, none⟩), .pointer (some ⟨kb2, 0, none⟩)], .pointer (some ⟨(φ17 34), 0, none⟩), .agg #[.int .u64 ((n + a : Nat) : Int), .pointer (some ⟨(φ17 18), 0, none⟩), .pointer (some ⟨(φ17 34), 0, none⟩)], .pointer (some ⟨(φ17 36), 0, none⟩), .pointer (some ⟨(φ17 36), 0, none⟩)]), (fun φ17 xs17 => [[]]), (fun φ17 xs17 => [[default, default, default, default, default, default, default, default, default, default, default, default, default, default, default, default, default, default, .cells #[.int .u64 ((a - a : Nat) : Int), .pointer (some ⟨ka1, 0, none⟩), .pointer (some ⟨ka2, 0, none⟩)] 86, default, default, default, default, default, default, default, default, default, default, default, default, default, default, default, .cells #[.int .u64 ((b - a : Nat) : Int), .pointer (some ⟨kb1, 0, none⟩), .pointer (some ⟨kb2, 0, none⟩)] 86, default, .cells #[.int .u64 ((n + a : Nat) : Int), .pointer (some ⟨(φ17 18), 0, none⟩), .pointer (some ⟨(φ17 34), 0, none⟩)] 86, default]]), [], [1, 1, 5, 1, 1, 1, 1, 1, 5, 1, 1, 1, 1, 1, 1, 1, 1, 1, 2, 1, 1, 1, 1, 1, 5, 1, 1, 1, 1, 1, 1, 1, 1, 1, 2, 1, 2, 1]⟩ (fun j => ([MP.any, MP.any, MP.any, MP.any, MP.any, MP.any, MP.any, MP.any, MP.any, MP.any, MP.any, MP.any, MP.any, MP.any, MP.any, MP.any, MP.any, MP.any, MP.any, MP.any, MP.any, MP.any, MP.any, MP.any, MP.any, MP.any, MP.any, MP.any, MP.any, MP.any, MP.any, MP.any, MP.any, MP.any, MP.any, MP.any, MP.any, MP.any] : List MP).getD j MP.any) [] [2, 8, 24] [] (fun φ17 xs17 => []) (fun φ17 xs17 => [(46, .int .u64 ((n : Nat) : Int)), (47, .int .u64 ((a : Nat) : Int)), (48, .int .u64 ((n + a : Nat) : Int)), (49, .pointer (some ⟨ka, 0, none⟩)), (50, .pointer (some ⟨ka, 0, none⟩)), (51, .pointer (some ⟨ka, 0, none⟩)), (52, .int .u64 ((a : Nat) : Int)), (53, .int .u64 ((a : Nat) : Int)), (54, .int .u64 ((a - a : Nat) : Int)), (55, .pointer (some ⟨ka, 0, none⟩)), (56, .pointer (some ⟨ka, 0, none⟩)), (57, .pointer (some ⟨ka, 1, none⟩)), (58, .pointer (some ⟨ka1, 0, none⟩)), (59, .pointer (some ⟨ka, 0, none⟩)), (60, .pointer (some ⟨ka, 0, none⟩)), (61, .pointer (some ⟨ka, 2, none⟩)), (62, .pointer (some ⟨ka2, 0, none⟩)), (63, .agg #[.int .u64 ((a - a : Nat) : Int), .pointer (some ⟨ka1, 0, none⟩), .pointer (some ⟨ka2, 0, none⟩)]), (64, .pointer (some ⟨(φ17 18), 0, none⟩)), (65, .pointer (some ⟨kb, 0, none⟩)), (66, .pointer (some ⟨kb, 0, none⟩)), (67, .pointer (some ⟨kb, 0, none⟩)), (68, .int .u64 ((b : Nat) : Int)), (69, .int .u64 ((a : Nat) : Int)), (70, .int .u64 ((b - a : Nat) : Int)), (71, .pointer (some ⟨kb, 0, none⟩)), (72, .pointer (some ⟨kb, 0, none⟩)), (73, .pointer (some ⟨kb, 1, none⟩)), (74, .pointer (some ⟨kb1, 0, none⟩)), (75, .pointer (some ⟨kb, 0, none⟩)), (76, .pointer (some ⟨kb, 0, none⟩)), (77, .pointer (some ⟨kb, 2, none⟩)), (78, .pointer (some ⟨kb2, 0, none⟩)), (79, .agg #[.int .u64 ((b - a : Nat) : Int), .pointer (some ⟨kb1, 0, none⟩), .pointer (some ⟨kb2, 0, none⟩)]), (80, .pointer (some ⟨(φ17 34), 0, none⟩)), (81, .agg #[.int .u64 ((n + a : Nat) : Int), .pointer (some ⟨(φ17 18), 0, none⟩), .pointer (some ⟨(φ17 34), 0, none⟩)]), (82, .pointer (some ⟨(φ17 36), 0, none⟩)), (6, .pointer (some ⟨(φ17 36), 0, none⟩))]) (fun φ17 xs17 => [((φ17 18), .cells #[.int .u64 ((a - a : Nat) : Int), .pointer (some ⟨ka1, 0, none⟩), .pointer (some ⟨ka2, 0, none⟩)] 86), ((φ17 34), .cells #[.int .u64 ((b - a : Nat) : Int), .pointer (some ⟨kb1, 0, none⟩), .pointer (some ⟨kb2, 0, none⟩)] 86), ((φ17 36), .cells #[.int .u64 ((n + a : Nat) : Int), .pointer (some ⟨(φ17 18), 0, none⟩), .pointer (some ⟨(φ17 34), 0, none⟩)] 86)]) s ⟨hlk, ⟨hrk, trivial⟩⟩ (by kernel_rfl) (by kernel_rfl) (fun _ _ => by kernel_rfl) (fun _ _ => by kernel_rfl) ⟨fun _ _ => by kernel_rfl, fun _ _ => by kernel_rfl, fun _ _ => by kernel_rfl, fun _ _ => by kernel_rfl⟩ (fun _ _ _ => by kernel_rfl) (fun _ _ => by kernel_rfl) (fun _ _ => by kernel_rfl) (fun _ _ => by kernel_rfl) (fun _ _ => by kernel_rfl) (fun _ _ => by kernel_rfl) ⟨kcast (A := ∀ (φ17 : Nat → Nat) (xs17 : Xs), (.int .u64 (IntKind.wrap .u64 (((n : Nat) : Int) + ((a : Nat) : Int))) : Value) = .int .u64 ((n + a : Nat) : Int)) (by kernel_rfl) (fun φ17 xs17 => congrArg (Value.int .u64) ((nat_addU (a := n) (b := a) (by have hq0 := of_decide_eq_false hc9; omega)))), ⟨kcast (A := ∀ (φ17 : Nat → Nat) (xs17 : Xs), (.int .u64 (IntKind.wrap .u64 (((a : Nat) : Int) - ((a : Nat) : Int))) : Value) = .int .u64 ((a - a : Nat) : Int)) (by kernel_rfl) (fun φ17 xs17 => congrArg (Value.int .u64) ((nat_subU (a := a) (b := a) (by have hq0 := of_decide_eq_false hc9; omega) (by have hq0 := of_decide_eq_false hc9; omega)))), ⟨kcast (A := ∀ (φ17 : Nat → Nat) (xs17 : Xs), (.int .u64 (IntKind.wrap .u64 (((b : Nat) : Int) - ((a : Nat) : Int))) : Value) = .int .u64 ((b - a : Nat) : Int)) (by kernel_rfl) (fun φ17 xs17 => congrArg (Value.int .u64) ((nat_subU (a := b) (b := a) (by have hq0 := of_decide_eq_false hc9; omega) (by have hq0 := of_decide_eq_false hc9; omega)))), trivial⟩⟩⟩ trivial (by kernel_rfl) trivial ?k17
          case k17 =>
            rintro φ17 xs17 I17 w17 le17 s 
            replace ha1 := RE.mono le17 ha1
            replace ha2 := RE.mono le17 ha2
            replace hl0 := RE.mono le17 hl0
            replace hb1 := RE.mono le17 hb1
            replace hb2 := RE.mono le17 hb2
            replace hr0 := RE.mono le17 hr0
            replace hlk := le17 _ _ hlk
            replace hrk := le17 _ _ hrk
            refine wp_ret ?_
            refine ret_rule (C := []) [((φ17 18), .cells #[.int .u64 ((a - a : Nat) : Int), .pointer (some ⟨ka1, 0, none⟩), .pointer (some ⟨ka2, 0, none⟩)] 86), ((φ17 34), .cells #[.int .u64 ((b - a : Nat) : Int), .pointer (some ⟨kb1, 0, none⟩), .pointer (some ⟨kb2, 0, none⟩)] 86), ((φ17 36), .cells #[.int .u64 ((n + a : Nat) : Int), .pointer (some ⟨(φ17 18), 0, none⟩), .pointer (some ⟨(φ17 34), 0, none⟩)] 86)] [] (.pointer (some ⟨(φ17 36), 0, none⟩)) [] [] s trivial (by kernel_rfl) ?_
            obtain ⟨I18, le18, hk18, s⟩ := s.freezeAt 0 (φ17 18) (.cells #[.int .u64 ((a - a : Nat) : Int), .pointer (some ⟨ka1, 0, none⟩), .pointer (some ⟨ka2, 0, none⟩)] 86) [((φ17 34), .cells #[.int .u64 ((b - a : Nat) : Int), .pointer (some ⟨kb1, 0, none⟩), .pointer (some ⟨kb2, 0, none⟩)] 86), ((φ17 36), .cells #[.int .u64 ((n + a : Nat) : Int), .pointer (some ⟨(φ17 18), 0, none⟩), .pointer (some ⟨(φ17 34), 0, none⟩)] 86)] (by kernel_rfl) (by kernel_rfl)
            replace ha1 := RE.mono le18 ha1
            replace ha2 := RE.mono le18 ha2
            replace hl0 := RE.mono le18 hl0
            replace hb1 := RE.mono le18 hb1
            replace hb2 := RE.mono le18 hb2
            replace hr0 := RE.mono le18 hr0
            replace hlk := le18 _ _ hlk
            replace hrk := le18 _ _ hrk
            obtain ⟨I19, le19, hk19, s⟩ := s.freezeAt 0 (φ17 34) (.cells #[.int .u64 ((b - a : Nat) : Int), .pointer (some ⟨kb1, 0, none⟩), .pointer (some ⟨kb2, 0, none⟩)] 86) [((φ17 36), .cells #[.int .u64 ((n + a : Nat) : Int), .pointer (some ⟨(φ17 18), 0, none⟩), .pointer (some ⟨(φ17 34), 0, none⟩)] 86)] (by kernel_rfl) (by kernel_rfl)
            replace ha1 := RE.mono le19 ha1
            replace ha2 := RE.mono le19 ha2
            replace hl0 := RE.mono le19 hl0
            replace hb1 := RE.mono le19 hb1
            replace hb2 := RE.mono le19 hb2
            replace hr0 := RE.mono le19 hr0
            replace hlk := le19 _ _ hlk
            replace hrk := le19 _ _ hrk
            replace hk18 := le19 _ _ hk18
            obtain ⟨I20, le20, hk20, s⟩ := s.freezeAt 0 (φ17 36) (.cells #[.int .u64 ((n + a : Nat) : Int), .pointer (some ⟨(φ17 18), 0, none⟩), .pointer (some ⟨(φ17 34), 0, none⟩)] 86) [] (by kernel_rfl) (by kernel_rfl)
            replace ha1 := RE.mono le20 ha1
            replace ha2 := RE.mono le20 ha2
            replace hl0 := RE.mono le20 hl0
            replace hb1 := RE.mono le20 hb1
            replace hb2 := RE.mono le20 hb2
            replace hr0 := RE.mono le20 hr0
            replace hlk := le20 _ _ hlk
            replace hrk := le20 _ _ hrk
            replace hk18 := le20 _ _ hk18
            replace hk19 := le20 _ _ hk19
            have hcm := of_decide_eq_false hc9
            exact ⟨_, _, _, rfl, s, ⟨_, rfl, by rw [mk_node9 (l := E.node a a1 a2) (r := E.node b b1 b2) (m := a) (fun q => by cases q.1) (show min a b = a by omega)]; exact ⟨_, _, hk20, ⟨_, _, hk18, ha1, ha2⟩, ⟨_, _, hk19, hb1, hb2⟩⟩⟩⟩

end Go.Proofs.Ytgdickihjaomjaa.Ev

