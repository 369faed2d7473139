/- The document's events: Node. -/
import Derived.Test.YtgmigcmhnmmdkaaCrM17
set_option linter.all false
set_option maxRecDepth 100000
namespace Go.Proofs.Ytgmigcmhnmmdkaa.Ev
open Go.RowKit Go.Sep

theorem rminB_c {I : IM} {e : E} {k : Nat} (h : RE I e k) (hn : e.nf) (ht : e.top < 18446744073709551616) : Fun Try.prog 89 #[.pointer (some ⟨k, 0, none⟩)] I (fun v _ => v = .int .u64 ((e.base : Nat) : Int)) :=
  (rmin_c e h ht).mono fun v J _ hv => by rw [hv, E.min_base hn]
theorem mk_node9 {n m : Nat} {l r : E} (hc : ¬ (l.isLeaf = true ∧ r.isLeaf = true ∧ l.base = r.base)) (hm : min l.base r.base = m) : E.mk n l r = .node (n + m) (E.dn m l) (E.dn m r) := by
  unfold E.mk; rw [if_neg hc, hm]
theorem mk_leaf9 {n a b : Nat} (h : a = b) : E.mk n (.leaf a) (.leaf b) = .leaf (n + a) := by
  unfold E.mk; rw [if_pos ⟨rfl, rfl, h⟩]; rfl

set_option maxHeartbeats 4000000 in
theorem rnode_c {I : IM} {n : Nat} {l r : E} {ka kb : Nat} (hl : RE I l ka) (hr : RE I r kb) (hnl : l.nf) (hnr : r.nf) (hb : n + max l.top r.top < 18446744073709551616) : Fun Try.prog 70 #[.int .u64 ((n : Nat) : Int), .pointer (some ⟨ka, 0, none⟩), .pointer (some ⟨kb, 0, none⟩)] I (fun v J => ∃ k, v = .pointer (some ⟨k, 0, none⟩) ∧ RE J (E.mk n l r) k) := by
 have htl : l.top < 18446744073709551616 := by omega
 have htr : r.top < 18446744073709551616 := by omega
 have hbl := E.base_le l
 have hbr := E.base_le r
 cases l with
 | leaf a =>
  cases r with
  | leaf b =>
   have hna := hnl
   have hta := htl
   have hl0 : RE _ (E.leaf a) ka := hl
   have hab : a ≤ (E.leaf a).top := hbl
   have hnb := hnr
   have htb := htr
   have hr0 : RE _ (E.leaf b) kb := hr
   have hbb : b ≤ (E.leaf b).top := hbr
   refine enter_rule 83 [(0, .int .u64 ((n : Nat) : Int)), (1, .pointer (some ⟨ka, 0, none⟩)), (2, .pointer (some ⟨kb, 0, none⟩))] Try.func70 rfl (by kernel_rfl) ?_
   intro w s
   refine wp_seq ?_
   refine region_rule ?_
   refine ops_rule (C := []) [] [] 1 [] 0 (fun φ1 => [(6, .pointer none)]) (fun φ1 => []) (fun φ1 => []) s trivial (fun φ1 => by kernel_rfl) ?_
   intro φ1 w1 s
   refine ops_done (by kernel_rfl) ?_
   refine wp_seq ?_
   refine wp_seq ?_
   refine draw_rule (C := [(ka, .cells #[.int .u64 ((a : Nat) : Int), .pointer none, .pointer none] 87), (kb, .cells #[.int .u64 ((b : Nat) : Int), .pointer none, .pointer none] 87)]) ⟨(fun φ2 xs2 => [.look 0 [] [], .look 0 [] [], .look 0 [] [], .look 0 [.c 0] [ka], .look 0 [] [], .look 0 [] [], .look 0 [] [], .look 0 [] [], .look 0 [] [], .look 0 [.c 1] [kb], .look 0 [] [], .look 0 [] [], .look 0 [] [], .look 0 [] [], .look 0 [] [], .look 0 [] [], .look 0 [.c 0] [ka], .look 0 [] [], .look 0 [] [], .look 0 [] [], .look 0 [.c 1] [kb], .sub 0 [] [] (.bool (((a : Nat) : Int) == ((b : Nat) : Int))), .look 0 [] []]), (fun φ2 xs2 => [.pointer (some ⟨ka, 0, none⟩), .pointer (some ⟨ka, 0, none⟩), .pointer (some ⟨ka, 1, none⟩), .pointer none, .bool true, .bool true, .pointer (some ⟨kb, 0, none⟩), .pointer (some ⟨kb, 0, none⟩), .pointer (some ⟨kb, 1, none⟩), .pointer none, .bool true, .bool true, .bool true, .pointer (some ⟨ka, 0, none⟩), .pointer (some ⟨ka, 0, none⟩), .pointer (some ⟨ka, 0, none⟩), .int .u64 ((a : Nat) : Int), .pointer (some ⟨kb, 0, none⟩), .pointer (some ⟨kb, 0, none⟩), .pointer (some ⟨kb, 0, none⟩), .int .u64 ((b : Nat) : Int), .bool (decide (a = b)), .bool (decide (a = b))]), (fun φ2 xs2 => [[]]), (fun φ2 xs2 => [[default, default, default, default, default, default, default, default, default, default, default, default, default, default, default, default, default, default, default, default, default, default, default]]), [], [1, 1, 1, 1, 1, 1, 1, 1, 1, 1, 1, 1, 1, 1, 1, 1, 1, 1, 1, 1, 1, 5, 1]⟩ (fun j => ([MP.any, MP.any, MP.any, MP.any, MP.any, MP.any, MP.any, MP.any, MP.any, MP.any, MP.any, MP.any, MP.any, MP.any, MP.any, MP.any, MP.any, MP.any, MP.any, MP.any, MP.any, MP.any, MP.any] : List MP).getD j MP.any) [] [21] [] (fun φ2 xs2 => []) (fun φ2 xs2 => [(8, .pointer (some ⟨ka, 0, none⟩)), (9, .pointer (some ⟨ka, 0, none⟩)), (10, .pointer (some ⟨ka, 1, none⟩)), (11, .pointer none), (12, .bool true), (13, .bool true), (14, .pointer (some ⟨kb, 0, none⟩)), (15, .pointer (some ⟨kb, 0, none⟩)), (16, .pointer (some ⟨kb, 1, none⟩)), (17, .pointer none), (18, .bool true), (19, .bool true), (20, .bool true), (21, .pointer (some ⟨ka, 0, none⟩)), (22, .pointer (some ⟨ka, 0, none⟩)), (23, .pointer (some ⟨ka, 0, none⟩)), (24, .int .u64 ((a : Nat) : Int)), (25, .pointer (some ⟨kb, 0, none⟩)), (26, .pointer (some ⟨kb, 0, none⟩)), (27, .pointer (some ⟨kb, 0, none⟩)), (28, .int .u64 ((b : Nat) : Int)), (29, .bool (decide (a = b))), (30, .bool (decide (a = b)))]) (fun φ2 xs2 => []) s ⟨hl, ⟨hr, trivial⟩⟩ (by kernel_rfl) (by kernel_rfl) (fun _ _ => by kernel_rfl) (fun _ _ => by kernel_rfl) ⟨fun _ _ => by kernel_rfl, fun _ _ => by kernel_rfl, fun _ _ => by kernel_rfl, fun _ _ => by kernel_rfl⟩ (fun _ _ _ => by kernel_rfl) (fun _ _ => by kernel_rfl) (fun _ _ => by kernel_rfl) (fun _ _ => by kernel_rfl) (fun _ _ => by kernel_rfl) (fun _ _ => by kernel_rfl) ⟨kcast (A := ∀ (φ2 : Nat → Nat) (xs2 : Xs), (.bool (((a : Nat) : Int) == ((b : Nat) : Int)) : Value) = .bool (decide (a = b))) (by kernel_rfl) (fun φ2 xs2 => congrArg Value.bool ((nat_eql (a := a) (b := b)))), trivial⟩ trivial (by kernel_rfl) trivial ?k2
   case k2 =>
    rintro φ2 xs2 I2 w2 le2 s 
    replace hl0 := RE.mono le2 hl0
    replace hr0 := RE.mono le2 hr0
    replace hl := le2 _ _ hl
    replace hr := le2 _ _ hr
    rcases Bool.eq_false_or_eq_true (decide (a = b)) with hc3 | hc3
    ·
     rw [hc3]
     refine cond_true_rule (b := true) (by kernel_rfl) rfl ?_
     refine wp_seq ?_
     refine region_rule ?_
     refine ops_rule (C := [(ka, .cells #[.int .u64 ((a : Nat) : Int), .pointer none, .pointer none] 87)]) [] [] 6 [.c 0] 0 (fun φ4 => [(36, .int .u64 (IntKind.wrap .u64 (((n : Nat) : Int) + ((a : Nat) : Int)))), (35, .int .u64 ((a : Nat) : Int)), (34, .pointer (some ⟨ka, 0, none⟩)), (33, .pointer (some ⟨ka, 0, none⟩)), (32, .pointer (some ⟨ka, 0, none⟩)), (31, .int .u64 ((n : Nat) : Int))]) (fun φ4 => []) (fun φ4 => [ka]) s ⟨hl, trivial⟩ (fun φ4 => by kernel_rfl) ?_
     intro φ4 w4 s
     rw [nat_addU (a := n) (b := a) (by have hq0 := of_decide_eq_true hc3; omega)]
     refine call_rule (some 37) s (rleaf_c (n := (n + a))) (by kernel_rfl) ?_
     intro v5 I5 w5 le5 h5 s
     replace hl0 := RE.mono le5 hl0
     replace hr0 := RE.mono le5 hr0
     replace hl := le5 _ _ hl
     replace hr := le5 _ _ hr
     obtain ⟨k5, rfl, h5_0⟩ := h5
     refine ops_rule (C := []) [] [] 1 [] 0 (fun φ6 => [(6, .pointer (some ⟨k5, 0, none⟩))]) (fun φ6 => []) (fun φ6 => []) s trivial (fun φ6 => by kernel_rfl) ?_
     intro φ6 w6 s
     refine ops_done (by kernel_rfl) ?_
     refine wp_ret ?_
     refine ret_rule (C := []) [] [] (.pointer (some ⟨k5, 0, none⟩)) [] [] s trivial (by kernel_rfl) ?_
     exact ⟨_, _, _, rfl, s, ⟨_, rfl, by rw [mk_leaf9 (of_decide_eq_true hc3)]; exact h5_0⟩⟩
    ·
     rw [hc3]
     refine cond_false_rule (b := false) (by kernel_rfl) rfl ?_
     refine wp_skip ?_
     refine wp_seq ?_
     refine region_rule ?_
     refine ops_rule (C := []) [] [] 1 [] 0 (fun φ7 => [(38, .pointer (some ⟨ka, 0, none⟩))]) (fun φ7 => []) (fun φ7 => []) s trivial (fun φ7 => by kernel_rfl) ?_
     intro φ7 w7 s
     refine call_rule (some 39) s (rminB_c hl0 hna hta) (by kernel_rfl) ?_
     intro v8 I8 w8 le8 h8 s
     replace hl0 := RE.mono le8 hl0
     replace hr0 := RE.mono le8 hr0
     replace hl := le8 _ _ hl
     replace hr := le8 _ _ hr
     obtain rfl := h8
     refine ops_rule (C := []) [] [] 1 [] 0 (fun φ9 => [(7, .int .u64 ((a : Nat) : Int))]) (fun φ9 => []) (fun φ9 => []) s trivial (fun φ9 => by kernel_rfl) ?_
     intro φ9 w9 s
     refine ops_done (by kernel_rfl) ?_
     refine wp_seq ?_
     refine wp_seq ?_
     refine region_rule ?_
     refine ops_rule (C := []) [] [] 1 [] 0 (fun φ10 => [(40, .pointer (some ⟨kb, 0, none⟩))]) (fun φ10 => []) (fun φ10 => []) s trivial (fun φ10 => by kernel_rfl) ?_
     intro φ10 w10 s
     refine call_rule (some 41) s (rminB_c hr0 hnb htb) (by kernel_rfl) ?_
     intro v11 I11 w11 le11 h11 s
     replace hl0 := RE.mono le11 hl0
     replace hr0 := RE.mono le11 hr0
     replace hl := le11 _ _ hl
     replace hr := le11 _ _ hr
     obtain rfl := h11
     refine ops_rule (C := []) [] [] 2 [] 0 (fun φ12 => [(43, .bool (decide (((b : Nat) : Int) < ((a : Nat) : Int)))), (42, .int .u64 ((a : Nat) : Int))]) (fun φ12 => []) (fun φ12 => []) s trivial (fun φ12 => by kernel_rfl) ?_
     intro φ12 w12 s
     rw [nat_lss (a := b) (b := a)]
     refine ops_done (by kernel_rfl) ?_
     rcases Bool.eq_false_or_eq_true (decide (b < a)) with hc13 | hc13
     ·
      rw [hc13]
      refine cond_true_rule (b := true) (by kernel_rfl) rfl ?_
      refine region_rule ?_
      refine ops_rule (C := []) [] [] 1 [] 0 (fun φ14 => [(44, .pointer (some ⟨kb, 0, none⟩))]) (fun φ14 => []) (fun φ14 => []) s trivial (fun φ14 => by kernel_rfl) ?_
      intro φ14 w14 s
      refine call_rule (some 45) s (rminB_c hr0 hnb htb) (by kernel_rfl) ?_
      intro v15 I15 w15 le15 h15 s
      replace hl0 := RE.mono le15 hl0
      replace hr0 := RE.mono le15 hr0
      replace hl := le15 _ _ hl
      replace hr := le15 _ _ hr
      obtain rfl := h15
      refine ops_rule (C := []) [] [] 1 [] 0 (fun φ16 => [(7, .int .u64 ((b : Nat) : Int))]) (fun φ16 => []) (fun φ16 => []) s trivial (fun φ16 => by kernel_rfl) ?_
      intro φ16 w16 s
      refine ops_done (by kernel_rfl) ?_
      refine wp_seq ?_
      refine draw_rule (C := [(ka, .cells #[.int .u64 ((a : Nat) : Int), .pointer none, .pointer none] 87), (kb, .cells #[.int .u64 ((b : Nat) : Int), .pointer none, .pointer none] 87)]) ⟨(fun φ17 xs17 => [.look 0 [] [], .look 0 [] [], .sub 0 [] [] (.int .u64 (IntKind.wrap .u64 (((n : Nat) : Int) + ((b : Nat) : Int)))), .look 0 [] [], .look 0 [] [], .look 0 [] [], .look 0 [.c 0] [ka], .look 0 [] [], .sub 0 [] [] (.int .u64 (IntKind.wrap .u64 (((a : Nat) : Int) - ((b : Nat) : Int)))), .look 0 [] [], .look 0 [] [], .look 0 [] [], .look 0 [.c 0] [ka], .look 0 [] [], .look 0 [] [], .look 0 [] [], .look 0 [.c 0] [ka], .look 0 [] [], .new, .look 0 [] [], .look 0 [] [], .look 0 [] [], .look 0 [.c 1] [kb], .look 0 [] [], .sub 0 [] [] (.int .u64 (IntKind.wrap .u64 (((b : Nat) : Int) - ((b : Nat) : Int)))), .look 0 [] [], .look 0 [] [], .look 0 [] [], .look 0 [.c 1] [kb], .look 0 [] [], .look 0 [] [], .look 0 [] [], .look 0 [.c 1] [kb], .look 0 [] [], .new, .look 0 [] [], .new, .look 0 [] []]), (fun φ17 xs17 => [.int .u64 ((n : Nat) : Int), .int .u64 ((b : Nat) : Int), .int .u64 ((n + b : Nat) : Int), .pointer (some ⟨ka, 0, none⟩), .pointer (some ⟨ka, 0, none⟩), .pointer (some ⟨ka, 0, none⟩), .int .u64 ((a : Nat) : Int), .int .u64 ((b : Nat) : Int), .int .u64 ((a - b : Nat) : Int), .pointer (some ⟨ka, 0, none⟩), .pointer (some ⟨ka, 0, none⟩), .pointer (some ⟨ka, 1, none⟩), .pointer none, .pointer (some ⟨ka, 0, none⟩), .pointer (some ⟨ka, 0, none⟩), .pointer (some ⟨ka, 2, none⟩), .pointer none, .agg #[.int .u64 ((a - b : Nat) : Int), .pointer none, .pointer none], .pointer (some ⟨(φ17 18), 0, none⟩), .pointer (some ⟨kb, 0, none⟩), .pointer (some ⟨kb, 0, none⟩), .pointer (some ⟨kb, 0, none⟩), .int .u64 ((b : Nat) : Int), .int .u64 ((b : Nat) : Int), .int .u64 ((b - b : Nat) : Int), .pointer (some ⟨kb, 0, none⟩), .pointer (some ⟨kb, 0, none⟩), .pointer (some ⟨kb, 1, none⟩), .pointer none, .pointer (some ⟨kb, 0, none⟩), .pointer (some ⟨kb, 0, none⟩), .pointer (some ⟨kb, 2, none⟩), .pointer none, .agg #[.int .u64 ((b - b : Nat) : Int), .pointer none, .pointer none], .pointer (some ⟨(φ17 34), 0, none⟩), .agg #[.int .u64 ((n + b : Nat) : Int), .pointer (some ⟨(φ17 18), 0, none⟩), .pointer (some ⟨(φ17 34), 0, none⟩)], .pointer (some ⟨(φ17 36), 0, none⟩), .pointer (some ⟨(φ17 36), 0, none⟩)]), (fun φ17 xs17 => [[]]), (fun φ17 xs17 => [[default, default, default, default, default, default, default, default, default, default, default, default, default, default, default, default, default, default, .cells #[.int .u64 ((a - b : Nat) : Int), .pointer none, .pointer none] 87, default, default, default, default, default, default, default, default, default, default, default, default, default, default, default, .cells #[.int .u64 ((b - b : Nat) : Int), .pointer none, .pointer none] 87, default, .cells #[.int .u64 ((n + b : Nat) : Int), .pointer (some ⟨(φ17 18), 0, none⟩), .pointer (some ⟨(φ17 34), 0, none⟩)] 87, default]]), [], [1, 1, 5, 1, 1, 1, 1, 1, 5, 1, 1, 1, 1, 1, 1, 1, 1, 1, 2, 1, 1, 1, 1, 1, 5, 1, 1, 1, 1, 1, 1, 1, 1, 1, 2, 1, 2, 1]⟩ (fun j => ([MP.any, MP.any, MP.any, MP.any, MP.any, MP.any, MP.any, MP.any, MP.any, MP.any, MP.any, MP.any, MP.any, MP.any, MP.any, MP.any, MP.any, MP.any, MP.any, MP.any, MP.any, MP.any, MP.any, MP.any, MP.any, MP.any, MP.any, MP.any, MP.any, MP.any, MP.any, MP.any, MP.any, MP.any, MP.any, MP.any, MP.any, MP.any] : List MP).getD j MP.any) [] [2, 8, 24] [] (fun φ17 xs17 => []) (fun φ17 xs17 => [(46, .int .u64 ((n : Nat) : Int)), (47, .int .u64 ((b : Nat) : Int)), (48, .int .u64 ((n + b : Nat) : Int)), (49, .pointer (some ⟨ka, 0, none⟩)), (50, .pointer (some ⟨ka, 0, none⟩)), (51, .pointer (some ⟨ka, 0, none⟩)), (52, .int .u64 ((a : Nat) : Int)), (53, .int .u64 ((b : Nat) : Int)), (54, .int .u64 ((a - b : Nat) : Int)), (55, .pointer (some ⟨ka, 0, none⟩)), (56, .pointer (some ⟨ka, 0, none⟩)), (57, .pointer (some ⟨ka, 1, none⟩)), (58, .pointer none), (59, .pointer (some ⟨ka, 0, none⟩)), (60, .pointer (some ⟨ka, 0, none⟩)), (61, .pointer (some ⟨ka, 2, none⟩)), (62, .pointer none), (63, .agg #[.int .u64 ((a - b : Nat) : Int), .pointer none, .pointer none]), (64, .pointer (some ⟨(φ17 18), 0, none⟩)), (65, .pointer (some ⟨kb, 0, none⟩)), (66, .pointer (some ⟨kb, 0, none⟩)), (67, .pointer (some ⟨kb, 0, none⟩)), (68, .int .u64 ((b : Nat) : Int)), (69, .int .u64 ((b : Nat) : Int)), (70, .int .u64 ((b - b : Nat) : Int)), (71, .pointer (some ⟨kb, 0, none⟩)), (72, .pointer (some ⟨kb, 0, none⟩)), (73, .pointer (some ⟨kb, 1, none⟩)), (74, .pointer none), (75, .pointer (some ⟨kb, 0, none⟩)), (76, .pointer (some ⟨kb, 0, none⟩)), (77, .pointer (some ⟨kb, 2, none⟩)), (78, .pointer none), (79, .agg #[.int .u64 ((b - b : Nat) : Int), .pointer none, .pointer none]), (80, .pointer (some ⟨(φ17 34), 0, none⟩)), (81, .agg #[.int .u64 ((n + b : Nat) : Int), .pointer (some ⟨(φ17 18), 0, none⟩), .pointer (some ⟨(φ17 34), 0, none⟩)]), (82, .pointer (some ⟨(φ17 36), 0, none⟩)), (6, .pointer (some ⟨(φ17 36), 0, none⟩))]) (fun φ17 xs17 => [((φ17 18), .cells #[.int .u64 ((a - b : Nat) : Int), .pointer none, .pointer none] 87), ((φ17 34), .cells #[.int .u64 ((b - b : Nat) : Int), .pointer none, .pointer none] 87), ((φ17 36), .cells #[.int .u64 ((n + b : Nat) : Int), .pointer (some ⟨(φ17 18), 0, none⟩), .pointer (some ⟨(φ17 34), 0, none⟩)] 87)]) s ⟨hl, ⟨hr, trivial⟩⟩ (by kernel_rfl) (by kernel_rfl) (fun _ _ => by kernel_rfl) (fun _ _ => by kernel_rfl) ⟨fun _ _ => by kernel_rfl, fun _ _ => by kernel_rfl, fun _ _ => by kernel_rfl, fun _ _ => by kernel_rfl⟩ (fun _ _ _ => by kernel_rfl) (fun _ _ => by kernel_rfl) (fun _ _ => by kernel_rfl) (fun _ _ => by kernel_rfl) (fun _ _ => by kernel_rfl) (fun _ _ => by kernel_rfl) ⟨kcast (A := ∀ (φ17 : Nat → Nat) (xs17 : Xs), (.int .u64 (IntKind.wrap .u64 (((n : Nat) : Int) + ((b : Nat) : Int))) : Value) = .int .u64 ((n + b : Nat) : Int)) (by kernel_rfl) (fun φ17 xs17 => congrArg (Value.int .u64) ((nat_addU (a := n) (b := b) (by have hq0 := of_decide_eq_false hc3; have hq1 := of_decide_eq_true hc13; omega)))), ⟨kcast (A := ∀ (φ17 : Nat → Nat) (xs17 : Xs), (.int .u64 (IntKind.wrap .u64 (((a : Nat) : Int) - ((b : Nat) : Int))) : Value) = .int .u64 ((a - b : Nat) : Int)) (by kernel_rfl) (fun φ17 xs17 => congrArg (Value.int .u64) ((nat_subU (a := a) (b := b) (by have hq0 := of_decide_eq_false hc3; have hq1 := of_decide_eq_true hc13; omega) (by have hq0 := of_decide_eq_false hc3; have hq1 := of_decide_eq_true hc13; omega)))), ⟨kcast (A := ∀ (φ17 : Nat → Nat) (xs17 : Xs), (.int .u64 (IntKind.wrap .u64 (((b : Nat) : Int) - ((b : Nat) : Int))) : Value) = .int .u64 ((b - b : Nat) : Int)) (by kernel_rfl) (fun φ17 xs17 => congrArg (Value.int .u64) ((nat_subU (a := b) (b := b) (by have hq0 := of_decide_eq_false hc3; have hq1 := of_decide_eq_true hc13; omega) (by have hq0 := of_decide_eq_false hc3; have hq1 := of_decide_eq_true hc13; omega)))), trivial⟩⟩⟩ trivial (by kernel_rfl) trivial ?k17
      case k17 =>
       rintro φ17 xs17 I17 w17 le17 s 
       replace hl0 := RE.mono le17 hl0
       replace hr0 := RE.mono le17 hr0
       replace hl := le17 _ _ hl
       replace hr := le17 _ _ hr
       refine wp_ret ?_
       refine ret_rule (C := []) [((φ17 18), .cells #[.int .u64 ((a - b : Nat) : Int), .pointer none, .pointer none] 87), ((φ17 34), .cells #[.int .u64 ((b - b : Nat) : Int), .pointer none, .pointer none] 87), ((φ17 36), .cells #[.int .u64 ((n + b : Nat) : Int), .pointer (some ⟨(φ17 18), 0, none⟩), .pointer (some ⟨(φ17 34), 0, none⟩)] 87)] [] (.pointer (some ⟨(φ17 36), 0, none⟩)) [] [] s trivial (by kernel_rfl) ?_
       obtain ⟨I18, le18, hk18, s⟩ := s.freezeAt 0 (φ17 18) (.cells #[.int .u64 ((a - b : Nat) : Int), .pointer none, .pointer none] 87) [((φ17 34), .cells #[.int .u64 ((b - b : Nat) : Int), .pointer none, .pointer none] 87), ((φ17 36), .cells #[.int .u64 ((n + b : Nat) : Int), .pointer (some ⟨(φ17 18), 0, none⟩), .pointer (some ⟨(φ17 34), 0, none⟩)] 87)] (by kernel_rfl) (by kernel_rfl)
       replace hl0 := RE.mono le18 hl0
       replace hr0 := RE.mono le18 hr0
       replace hl := le18 _ _ hl
       replace hr := le18 _ _ hr
       obtain ⟨I19, le19, hk19, s⟩ := s.freezeAt 0 (φ17 34) (.cells #[.int .u64 ((b - b : Nat) : Int), .pointer none, .pointer none] 87) [((φ17 36), .cells #[.int .u64 ((n + b : Nat) : Int), .pointer (some ⟨(φ17 18), 0, none⟩), .pointer (some ⟨(φ17 34), 0, none⟩)] 87)] (by kernel_rfl) (by kernel_rfl)
       replace hl0 := RE.mono le19 hl0
       replace hr0 := RE.mono le19 hr0
       replace hl := le19 _ _ hl
       replace hr := le19 _ _ hr
       replace hk18 := le19 _ _ hk18
       obtain ⟨I20, le20, hk20, s⟩ := s.freezeAt 0 (φ17 36) (.cells #[.int .u64 ((n + b : Nat) : Int), .pointer (some ⟨(φ17 18), 0, none⟩), .pointer (some ⟨(φ17 34), 0, none⟩)] 87) [] (by kernel_rfl) (by kernel_rfl)
       replace hl0 := RE.mono le20 hl0
       replace hr0 := RE.mono le20 hr0
       replace hl := le20 _ _ hl
       replace hr := le20 _ _ hr
       replace hk18 := le20 _ _ hk18
       replace hk19 := le20 _ _ hk19
       have hcm := of_decide_eq_true hc13
       exact ⟨_, _, _, rfl, s, ⟨_, rfl, by rw [mk_node9 (l := E.leaf a) (r := E.leaf b) (m := b) (fun q => (of_decide_eq_false hc3) q.2.2) (show min a b = b by omega)]; exact ⟨_, _, hk20, hk18, hk19⟩⟩⟩
     ·
      rw [hc13]
      refine cond_false_rule (b := false) (by kernel_rfl) rfl ?_
      refine wp_skip ?_
      refine wp_seq ?_
      refine draw_rule (C := [(ka, .cells #[.int .u64 ((a : Nat) : Int), .pointer none, .pointer none] 87), (kb, .cells #[.int .u64 ((b : Nat) : Int), .pointer none, .pointer none] 87)]) ⟨(fun φ21 xs21 => [.look 0 [] [], .look 0 [] [], .sub 0 [] [] (.int .u64 (IntKind.wrap .u64 (((n : Nat) : Int) + ((a : Nat) : Int)))), .look 0 [] [], .look 0 [] [], .look 0 [] [], .look 0 [.c 0] [ka], .look 0 [] [], .sub 0 [] [] (.int .u64 (IntKind.wrap .u64 (((a : Nat) : Int) - ((a : Nat) : Int)))), .look 0 [] [], .look 0 [] [], .look 0 [] [], .look 0 [.c 0] [ka], .look 0 [] [], .look 0 [] [], .look 0 [] [], .look 0 [.c 0] [ka], .look 0 [] [], .new, .look 0 [] [], .look 0 [] [], .look 0 [] [], .look 0 [.c 1] [kb], .look 0 [] [], .sub 0 [] [] (.int .u64 (IntKind.wrap .u64 (((b : Nat) : Int) - ((a : Nat) : Int)))), .look 0 [] [], .look 0 [] [], .look 0 [] [], .look 0 [.c 1] [kb], .look 0 [] [], .look 0 [] [], .look 0 [] [], .look 0 [.c 1] [kb], .look 0 [] [], .new, .look 0 [] [], .new, .look 0 [] []]), (fun φ21 xs21 => [.int .u64 ((n : Nat) : Int), .int .u64 ((a : Nat) : Int), .int .u64 ((n + a : Nat) : Int), .pointer (some ⟨ka, 0, none⟩), .pointer (some ⟨ka, 0, none⟩), .pointer (some ⟨ka, 0, none⟩), .int .u64 ((a : Nat) : Int), .int .u64 ((a : Nat) : Int), .int .u64 ((a - a : Nat) : Int), .pointer (some ⟨ka, 0, none⟩), .pointer (some ⟨ka, 0, none⟩), .pointer (some ⟨ka, 1, none⟩), .pointer none, .pointer (some ⟨ka, 0, none⟩), .pointer (some ⟨ka, 0, none⟩), .pointer (some ⟨ka, 2, none⟩), .pointer none, .agg #[.int .u64 ((a - a : Nat) : Int), .pointer none, .pointer none], .pointer (some ⟨(φ21 18), 0, none⟩), .pointer (some ⟨kb, 0, none⟩), .pointer (some ⟨kb, 0, none⟩), .pointer (some ⟨kb, 0, none⟩), .int .u64 ((b : Nat) : Int), .int .u64 ((a : Nat) : Int), .int .u64 ((b - a : Nat) : Int), .pointer (some ⟨kb, 0, none⟩), .pointer (some ⟨kb, 0, none⟩), .pointer (some ⟨kb, 1, none⟩), .pointer none, .pointer (some ⟨kb, 0, none⟩), .pointer (some ⟨kb, 0, none⟩), .pointer (some ⟨kb, 2, none⟩), .pointer none, .agg #[.int .u64 ((b - a : Nat) : Int), .pointer none, .pointer none], .pointer (some ⟨(φ21 34), 0, none⟩), .agg #[.int .u64 ((n + a : Nat) : Int), .pointer (some ⟨(φ21 18), 0, none⟩), .pointer (some ⟨(φ21 34), 0, none⟩)], .pointer (some ⟨(φ21 36), 0, none⟩), .pointer (some ⟨(φ21 36), 0, none⟩)]), (fun φ21 xs21 => [[]]), (fun φ21 xs21 => [[default, default, default, default, default, default, default, default, default, default, default, default, default, default, default, default, default, default, .cells #[.int .u64 ((a - a : Nat) : Int), .pointer none, .pointer none] 87, default, default, default, default, default, default, default, default, default, default, default, default, default, default, default, .cells #[.int .u64 ((b - a : Nat) : Int), .pointer none, .pointer none] 87, default, .cells #[.int .u64 ((n + a : Nat) : Int), .pointer (some ⟨(φ21 18), 0, none⟩), .pointer (some ⟨(φ21 34), 0, none⟩)] 87, default]]), [], [1, 1, 5, 1, 1, 1, 1, 1, 5, 1, 1, 1, 1, 1, 1, 1, 1, 1, 2, 1, 1, 1, 1, 1, 5, 1, 1, 1, 1, 1, 1, 1, 1, 1, 2, 1, 2, 1]⟩ (fun j => ([MP.any, MP.any, MP.any, MP.any, MP.any, MP.any, MP.any, MP.any, MP.any, MP.any, MP.any, MP.any, MP.any, MP.any, MP.any, MP.any, MP.any, MP.any, MP.any, MP.any, MP.any, MP.any, MP.any, MP.any, MP.any, MP.any, MP.any, MP.any, MP.any, MP.any, MP.any, MP.any, MP.any, MP.any, MP.any, MP.any, MP.any, MP.any] : List MP).getD j MP.any) [] [2, 8, 24] [] (fun φ21 xs21 => []) (fun φ21 xs21 => [(46, .int .u64 ((n : Nat) : Int)), (47, .int .u64 ((a : Nat) : Int)), (48, .int .u64 ((n + a : Nat) : Int)), (49, .pointer (some ⟨ka, 0, none⟩)), (50, .pointer (some ⟨ka, 0, none⟩)), (51, .pointer (some ⟨ka, 0, none⟩)), (52, .int .u64 ((a : Nat) : Int)), (53, .int .u64 ((a : Nat) : Int)), (54, .int .u64 ((a - a : Nat) : Int)), (55, .pointer (some ⟨ka, 0, none⟩)), (56, .pointer (some ⟨ka, 0, none⟩)), (57, .pointer (some ⟨ka, 1, none⟩)), (58, .pointer none), (59, .pointer (some ⟨ka, 0, none⟩)), (60, .pointer (some ⟨ka, 0, none⟩)), (61, .pointer (some ⟨ka, 2, none⟩)), (62, .pointer none), (63, .agg #[.int .u64 ((a - a : Nat) : Int), .pointer none, .pointer none]), (64, .pointer (some ⟨(φ21 18), 0, none⟩)), (65, .pointer (some ⟨kb, 0, none⟩)), (66, .pointer (some ⟨kb, 0, none⟩)), (67, .pointer (some ⟨kb, 0, none⟩)), (68, .int .u64 ((b : Nat) : Int)), (69, .int .u64 ((a : Nat) : Int)), (70, .int .u64 ((b - a : Nat) : Int)), (71, .pointer (some ⟨kb, 0, none⟩)), (72, .pointer (some ⟨kb, 0, none⟩)), (73, .pointer (some ⟨kb, 1, none⟩)), (74, .pointer none), (75, .pointer (some ⟨kb, 0, none⟩)), (76, .pointer (some ⟨kb, 0, none⟩)), (77, .pointer (some ⟨kb, 2, none⟩)), (78, .pointer none), (79, .agg #[.int .u64 ((b - a : Nat) : Int), .pointer none, .pointer none]), (80, .pointer (some ⟨(φ21 34), 0, none⟩)), (81, .agg #[.int .u64 ((n + a : Nat) : Int), .pointer (some ⟨(φ21 18), 0, none⟩), .pointer (some ⟨(φ21 34), 0, none⟩)]), (82, .pointer (some ⟨(φ21 36), 0, none⟩)), (6, .pointer (some ⟨(φ21 36), 0, none⟩))]) (fun φ21 xs21 => [((φ21 18), .cells #[.int .u64 ((a - a : Nat) : Int), .pointer none, .pointer none] 87), ((φ21 34), .cells #[.int .u64 ((b - a : Nat) : Int), .pointer none, .pointer none] 87), ((φ21 36), .cells #[.int .u64 ((n + a : Nat) : Int), .pointer (some ⟨(φ21 18), 0, none⟩), .pointer (some ⟨(φ21 34), 0, none⟩)] 87)]) s ⟨hl, ⟨hr, trivial⟩⟩ (by kernel_rfl) (by kernel_rfl) (fun _ _ => by kernel_rfl) (fun _ _ => by kernel_rfl) ⟨fun _ _ => by kernel_rfl, fun _ _ => by kernel_rfl, fun _ _ => by kernel_rfl, fun _ _ => by kernel_rfl⟩ (fun _ _ _ => by kernel_rfl) (fun _ _ => by kernel_rfl) (fun _ _ => by kernel_rfl) (fun _ _ => by kernel_rfl) (fun _ _ => by kernel_rfl) (fun _ _ => by kernel_rfl) ⟨kcast (A := ∀ (φ21 : Nat → Nat) (xs21 : Xs), (.int .u64 (IntKind.wrap .u64 (((n : Nat) : Int) + ((a : Nat) : Int))) : Value) = .int .u64 ((n + a : Nat) : Int)) (by kernel_rfl) (fun φ21 xs21 => congrArg (Value.int .u64) ((nat_addU (a := n) (b := a) (by have hq0 := of_decide_eq_false hc3; have hq1 := of_decide_eq_false hc13; omega)))), ⟨kcast (A := ∀ (φ21 : Nat → Nat) (xs21 : Xs), (.int .u64 (IntKind.wrap .u64 (((a : Nat) : Int) - ((a : Nat) : Int))) : Value) = .int .u64 ((a - a : Nat) : Int)) (by kernel_rfl) (fun φ21 xs21 => congrArg (Value.int .u64) ((nat_subU (a := a) (b := a) (by have hq0 := of_decide_eq_false hc3; have hq1 := of_decide_eq_false hc13; omega) (by have hq0 := of_decide_eq_false hc3; have hq1 := of_decide_eq_false hc13; omega)))), ⟨kcast (A := ∀ (φ21 : Nat → Nat) (xs21 : Xs), (.int .u64 (IntKind.wrap .u64 (((b : Nat) : Int) - ((a : Nat) : Int))) : Value) = .int .u64 ((b - a : Nat) : Int)) (by kernel_rfl) (fun φ21 xs21 => congrArg (Value.int .u64) ((nat_subU (a := b) (b := a) (by have hq0 := of_decide_eq_false hc3; have hq1 := of_decide_eq_false hc13; omega) (by have hq0 := of_decide_eq_false hc3; have hq1 := of_decide_eq_false hc13; omega)))), trivial⟩⟩⟩ trivial (by kernel_rfl) trivial ?k21
      case k21 =>
       rintro φ21 xs21 I21 w21 le21 s 
       replace hl0 := RE.mono le21 hl0
       replace hr0 := RE.mono le21 hr0
       replace hl := le21 _ _ hl
       replace hr := le21 _ _ hr
       refine wp_ret ?_
       refine ret_rule (C := []) [((φ21 18), .cells #[.int .u64 ((a - a : Nat) : Int), .pointer none, .pointer none] 87), ((φ21 34), .cells #[.int .u64 ((b - a : Nat) : Int), .pointer none, .pointer none] 87), ((φ21 36), .cells #[.int .u64 ((n + a : Nat) : Int), .pointer (some ⟨(φ21 18), 0, none⟩), .pointer (some ⟨(φ21 34), 0, none⟩)] 87)] [] (.pointer (some ⟨(φ21 36), 0, none⟩)) [] [] s trivial (by kernel_rfl) ?_
       obtain ⟨I22, le22, hk22, s⟩ := s.freezeAt 0 (φ21 18) (.cells #[.int .u64 ((a - a : Nat) : Int), .pointer none, .pointer none] 87) [((φ21 34), .cells #[.int .u64 ((b - a : Nat) : Int), .pointer none, .pointer none] 87), ((φ21 36), .cells #[.int .u64 ((n + a : Nat) : Int), .pointer (some ⟨(φ21 18), 0, none⟩), .pointer (some ⟨(φ21 34), 0, none⟩)] 87)] (by kernel_rfl) (by kernel_rfl)
       replace hl0 := RE.mono le22 hl0
       replace hr0 := RE.mono le22 hr0
       replace hl := le22 _ _ hl
       replace hr := le22 _ _ hr
       obtain ⟨I23, le23, hk23, s⟩ := s.freezeAt 0 (φ21 34) (.cells #[.int .u64 ((b - a : Nat) : Int), .pointer none, .pointer none] 87) [((φ21 36), .cells #[.int .u64 ((n + a : Nat) : Int), .pointer (some ⟨(φ21 18), 0, none⟩), .pointer (some ⟨(φ21 34), 0, none⟩)] 87)] (by kernel_rfl) (by kernel_rfl)
       replace hl0 := RE.mono le23 hl0
       replace hr0 := RE.mono le23 hr0
       replace hl := le23 _ _ hl
       replace hr := le23 _ _ hr
       replace hk22 := le23 _ _ hk22
       obtain ⟨I24, le24, hk24, s⟩ := s.freezeAt 0 (φ21 36) (.cells #[.int .u64 ((n + a : Nat) : Int), .pointer (some ⟨(φ21 18), 0, none⟩), .pointer (some ⟨(φ21 34), 0, none⟩)] 87) [] (by kernel_rfl) (by kernel_rfl)
       replace hl0 := RE.mono le24 hl0
       replace hr0 := RE.mono le24 hr0
       replace hl := le24 _ _ hl
       replace hr := le24 _ _ hr
       replace hk22 := le24 _ _ hk22
       replace hk23 := le24 _ _ hk23
       have hcm := of_decide_eq_false hc13
       exact ⟨_, _, _, rfl, s, ⟨_, rfl, by rw [mk_node9 (l := E.leaf a) (r := E.leaf b) (m := a) (fun q => (of_decide_eq_false hc3) q.2.2) (show min a b = a by omega)]; exact ⟨_, _, hk24, hk22, hk23⟩⟩⟩
  | node b b1 b2 =>
   have hna := hnl
   have hta := htl
   have hl0 : RE _ (E.leaf a) ka := hl
   have hab : a ≤ (E.leaf a).top := hbl
   have hnb := hnr
   have htb := htr
   have hr0 : RE _ (E.node b b1 b2) kb := hr
   have hbb : b ≤ (E.node b b1 b2).top := hbr
   obtain ⟨kb1, kb2, hrk, hb1, hb2⟩ := hr
   refine enter_rule 83 [(0, .int .u64 ((n : Nat) : Int)), (1, .pointer (some ⟨ka, 0, none⟩)), (2, .pointer (some ⟨kb, 0, none⟩))] Try.func70 rfl (by kernel_rfl) ?_
   intro w s
   refine wp_seq ?_
   refine region_rule ?_
   refine ops_rule (C := []) [] [] 1 [] 0 (fun φ1 => [(6, .pointer none)]) (fun φ1 => []) (fun φ1 => []) s trivial (fun φ1 => by kernel_rfl) ?_
   intro φ1 w1 s
   refine ops_done (by kernel_rfl) ?_
   refine wp_seq ?_
   refine wp_seq ?_
   refine draw_rule (C := [(ka, .cells #[.int .u64 ((a : Nat) : Int), .pointer none, .pointer none] 87), (kb, .cells #[.int .u64 ((b : Nat) : Int), .pointer (some ⟨kb1, 0, none⟩), .pointer (some ⟨kb2, 0, none⟩)] 87)]) ⟨(fun φ2 xs2 => [.look 0 [] [], .look 0 [] [], .look 0 [] [], .look 0 [.c 0] [ka], .look 0 [] [], .look 0 [] [], .look 0 [] [], .look 0 [] [], .look 0 [] [], .look 0 [.c 1] [kb], .look 0 [] [], .look 0 [] [], .look 0 [] [], .skip, .skip, .skip, .skip, .skip, .skip, .skip, .skip, .skip, .look 0 [] []]), (fun φ2 xs2 => [.pointer (some ⟨ka, 0, none⟩), .pointer (some ⟨ka, 0, none⟩), .pointer (some ⟨ka, 1, none⟩), .pointer none, .bool true, .bool true, .pointer (some ⟨kb, 0, none⟩), .pointer (some ⟨kb, 0, none⟩), .pointer (some ⟨kb, 1, none⟩), .pointer (some ⟨kb1, 0, none⟩), .bool false, .bool false, .bool false, undef, undef, undef, undef, undef, undef, undef, undef, undef, .bool false]), (fun φ2 xs2 => [[]]), (fun φ2 xs2 => [[default, default, default, default, default, default, default, default, default, default, default, default, default, default, default, default, default, default, default, default, default, default, default]]), [], [1, 1, 1, 1, 1, 1, 1, 1, 1, 1, 1, 1, 1, 0, 0, 0, 0, 0, 0, 0, 0, 0, 1]⟩ (fun j => ([MP.any, MP.any, MP.any, MP.any, MP.any, MP.any, MP.any, MP.any, MP.any, MP.any, MP.any, MP.any, MP.any, MP.any, MP.any, MP.any, MP.any, MP.any, MP.any, MP.any, MP.any, MP.any, MP.any] : List MP).getD j MP.any) [] [] [] (fun φ2 xs2 => []) (fun φ2 xs2 => [(8, .pointer (some ⟨ka, 0, none⟩)), (9, .pointer (some ⟨ka, 0, none⟩)), (10, .pointer (some ⟨ka, 1, none⟩)), (11, .pointer none), (12, .bool true), (13, .bool true), (14, .pointer (some ⟨kb, 0, none⟩)), (15, .pointer (some ⟨kb, 0, none⟩)), (16, .pointer (some ⟨kb, 1, none⟩)), (17, .pointer (some ⟨kb1, 0, none⟩)), (18, .bool false), (19, .bool false), (20, .bool false), (21, undef), (22, undef), (23, undef), (24, undef), (25, undef), (26, undef), (27, undef), (28, undef), (29, undef), (30, .bool false)]) (fun φ2 xs2 => []) s ⟨hl, ⟨hrk, trivial⟩⟩ (by kernel_rfl) (by kernel_rfl) (fun _ _ => by kernel_rfl) (fun _ _ => by kernel_rfl) ⟨fun _ _ => by kernel_rfl, fun _ _ => by kernel_rfl, fun _ _ => by kernel_rfl, fun _ _ => by kernel_rfl⟩ (fun _ _ _ => by kernel_rfl) (fun _ _ => by kernel_rfl) (fun _ _ => by kernel_rfl) (fun _ _ => by kernel_rfl) (fun _ _ => by kernel_rfl) (fun _ _ => by kernel_rfl) trivial trivial (by kernel_rfl) trivial ?k2
   case k2 =>
    rintro φ2 xs2 I2 w2 le2 s 
    replace hl0 := RE.mono le2 hl0
    replace hb1 := RE.mono le2 hb1
    replace hb2 := RE.mono le2 hb2
    replace hr0 := RE.mono le2 hr0
    replace hl := le2 _ _ hl
    replace hrk := le2 _ _ hrk
    refine cond_false_rule (b := false) (by kernel_rfl) rfl ?_
    refine wp_skip ?_
    refine wp_seq ?_
    refine region_rule ?_
    refine ops_rule (C := []) [] [] 1 [] 0 (fun φ3 => [(38, .pointer (some ⟨ka, 0, none⟩))]) (fun φ3 => []) (fun φ3 => []) s trivial (fun φ3 => by kernel_rfl) ?_
    intro φ3 w3 s
    refine call_rule (some 39) s (rminB_c hl0 hna hta) (by kernel_rfl) ?_
    intro v4 I4 w4 le4 h4 s
    replace hl0 := RE.mono le4 hl0
    replace hb1 := RE.mono le4 hb1
    replace hb2 := RE.mono le4 hb2
    replace hr0 := RE.mono le4 hr0
    replace hl := le4 _ _ hl
    replace hrk := le4 _ _ hrk
    obtain rfl := h4
    refine ops_rule (C := []) [] [] 1 [] 0 (fun φ5 => [(7, .int .u64 ((a : Nat) : Int))]) (fun φ5 => []) (fun φ5 => []) s trivial (fun φ5 => by kernel_rfl) ?_
    intro φ5 w5 s
    refine ops_done (by kernel_rfl) ?_
    refine wp_seq ?_
    refine wp_seq ?_
    refine region_rule ?_
    refine ops_rule (C := []) [] [] 1 [] 0 (fun φ6 => [(40, .pointer (some ⟨kb, 0, none⟩))]) (fun φ6 => []) (fun φ6 => []) s trivial (fun φ6 => by kernel_rfl) ?_
    intro φ6 w6 s
    refine call_rule (some 41) s (rminB_c hr0 hnb htb) (by kernel_rfl) ?_
    intro v7 I7 w7 le7 h7 s
    replace hl0 := RE.mono le7 hl0
    replace hb1 := RE.mono le7 hb1
    replace hb2 := RE.mono le7 hb2
    replace hr0 := RE.mono le7 hr0
    replace hl := le7 _ _ hl
    replace hrk := le7 _ _ hrk
    obtain rfl := h7
    refine ops_rule (C := []) [] [] 2 [] 0 (fun φ8 => [(43, .bool (decide (((b : Nat) : Int) < ((a : Nat) : Int)))), (42, .int .u64 ((a : Nat) : Int))]) (fun φ8 => []) (fun φ8 => []) s trivial (fun φ8 => by kernel_rfl) ?_
    intro φ8 w8 s
    rw [nat_lss (a := b) (b := a)]
    refine ops_done (by kernel_rfl) ?_
    rcases Bool.eq_false_or_eq_true (decide (b < a)) with hc9 | hc9
    ·
     rw [hc9]
     refine cond_true_rule (b := true) (by kernel_rfl) rfl ?_
     refine region_rule ?_
     refine ops_rule (C := []) [] [] 1 [] 0 (fun φ10 => [(44, .pointer (some ⟨kb, 0, none⟩))]) (fun φ10 => []) (fun φ10 => []) s trivial (fun φ10 => by kernel_rfl) ?_
     intro φ10 w10 s
     refine call_rule (some 45) s (rminB_c hr0 hnb htb) (by kernel_rfl) ?_
     intro v11 I11 w11 le11 h11 s
     replace hl0 := RE.mono le11 hl0
     replace hb1 := RE.mono le11 hb1
     replace hb2 := RE.mono le11 hb2
     replace hr0 := RE.mono le11 hr0
     replace hl := le11 _ _ hl
     replace hrk := le11 _ _ hrk
     obtain rfl := h11
     refine ops_rule (C := []) [] [] 1 [] 0 (fun φ12 => [(7, .int .u64 ((b : Nat) : Int))]) (fun φ12 => []) (fun φ12 => []) s trivial (fun φ12 => by kernel_rfl) ?_
     intro φ12 w12 s
     refine ops_done (by kernel_rfl) ?_
     refine wp_seq ?_
     refine draw_rule (C := [(ka, .cells #[.int .u64 ((a : Nat) : Int), .pointer none, .pointer none] 87), (kb, .cells #[.int .u64 ((b : Nat) : Int), .pointer (some ⟨kb1, 0, none⟩), .pointer (some ⟨kb2, 0, none⟩)] 87)]) ⟨(fun φ13 xs13 => [.look 0 [] [], .look 0 [] [], .sub 0 [] [] (.int .u64 (IntKind.wrap .u64 (((n : Nat) : Int) + ((b : Nat) : Int)))), .look 0 [] [], .look 0 [] [], .look 0 [] [], .look 0 [.c 0] [ka], .look 0 [] [], .sub 0 [] [] (.int .u64 (IntKind.wrap .u64 (((a : Nat) : Int) - ((b : Nat) : Int)))), .look 0 [] [], .look 0 [] [], .look 0 [] [], .look 0 [.c 0] [ka], .look 0 [] [], .look 0 [] [], .look 0 [] [], .look 0 [.c 0] [ka], .look 0 [] [], .new, .look 0 [] [], .look 0 [] [], .look 0 [] [], .look 0 [.c 1] [kb], .look 0 [] [], .sub 0 [] [] (.int .u64 (IntKind.wrap .u64 (((b : Nat) : Int) - ((b : Nat) : Int)))), .look 0 [] [], .look 0 [] [], .look 0 [] [], .look 0 [.c 1] [kb], .look 0 [] [], .look 0 [] [], .look 0 [] [], .look 0 [.c 1] [kb], .look 0 [] [], .new, .look 0 [] [], .new, .look 0 [] []]), (fun φ13 xs13 => [.int .u64 ((n : Nat) : Int), .int .u64 ((b : Nat) : Int), .int .u64 ((n + b : Nat) : Int), .pointer (some ⟨ka, 0, none⟩), .pointer (some ⟨ka, 0, none⟩), .pointer (some ⟨ka, 0, none⟩), .int .u64 ((a : Nat) : Int), .int .u64 ((b : Nat) : Int), .int .u64 ((a - b : Nat) : Int), .pointer (some ⟨ka, 0, none⟩), .pointer (some ⟨ka, 0, none⟩), .pointer (some ⟨ka, 1, none⟩), .pointer none, .pointer (some ⟨ka, 0, none⟩), .pointer (some ⟨ka, 0, none⟩), .pointer (some ⟨ka, 2, none⟩), .pointer none, .agg #[.int .u64 ((a - b : Nat) : Int), .pointer none, .pointer none], .pointer (some ⟨(φ13 18), 0, none⟩), .pointer (some ⟨kb, 0, none⟩), .pointer (some ⟨kb, 0, none⟩), .pointer (some ⟨kb, 0, none⟩), .int .u64 ((b : Nat) : Int), .int .u64 ((b : Nat) : Int), .int .u64 ((b - b : Nat) : Int), .pointer (some ⟨kb, 0, none⟩), .pointer (some ⟨kb, 0, none⟩), .pointer (some ⟨kb, 1, none⟩), .pointer (some ⟨kb1, 0, none⟩), .pointer (some ⟨kb, 0, none⟩), .pointer (some ⟨kb, 0, none⟩), .pointer (some ⟨kb, 2, none⟩), .pointer (some ⟨kb2, 0, none⟩), .agg #[.int .u64 ((b - b : Nat) : Int), .pointer (some ⟨kb1, 0, none⟩), .pointer (some ⟨kb2, 0, none⟩)], .pointer (some ⟨(φ13 34), 0, none⟩), .agg #[.int .u64 ((n + b : Nat) : Int), .pointer (some ⟨(φ13 18), 0, none⟩), .pointer (some ⟨(φ13 34), 0, none⟩)], .pointer (some ⟨(φ13 36), 0, none⟩), .pointer (some ⟨(φ13 36), 0, none⟩)]), (fun φ13 xs13 => [[]]), (fun φ13 xs13 => [[default, default, default, default, default, default, default, default, default, default, default, default, default, default, default, default, default, default, .cells #[.int .u64 ((a - b : Nat) : Int), .pointer none, .pointer none] 87, default, default, default, default, default, default, default, default, default, default, default, default, default, default, default, .cells #[.int .u64 ((b - b : Nat) : Int), .pointer (some ⟨kb1, 0, none⟩), .pointer (some ⟨kb2, 0, none⟩)] 87, default, .cells #[.int .u64 ((n + b : Nat) : Int), .pointer (some ⟨(φ13 18), 0, none⟩), .pointer (some ⟨(φ13 34), 0, none⟩)] 87, default]]), [], [1, 1, 5, 1, 1, 1, 1, 1, 5, 1, 1, 1, 1, 1, 1, 1, 1, 1, 2, 1, 1, 1, 1, 1, 5, 1, 1, 1, 1, 1, 1, 1, 1, 1, 2, 1, 2, 1]⟩ (fun j => ([MP.any, MP.any, MP.any, MP.any, MP.any, MP.any, MP.any, MP.any, MP.any, MP.any, MP.any, MP.any, MP.any, MP.any, MP.any, MP.any, MP.any, MP.any, MP.any, MP.any, MP.any, MP.any, MP.any, MP.any, MP.any, MP.any, MP.any, MP.any, MP.any, MP.any, MP.any, MP.any, MP.any, MP.any, MP.any, MP.any, MP.any, MP.any] : List MP).getD j MP.any) [] [2, 8, 24] [] (fun φ13 xs13 => []) (fun φ13 xs13 => [(46, .int .u64 ((n : Nat) : Int)), (47, .int .u64 ((b : Nat) : Int)), (48, .int .u64 ((n + b : Nat) : Int)), (49, .pointer (some ⟨ka, 0, none⟩)), (50, .pointer (some ⟨ka, 0, none⟩)), (51, .pointer (some ⟨ka, 0, none⟩)), (52, .int .u64 ((a : Nat) : Int)), (53, .int .u64 ((b : Nat) : Int)), (54, .int .u64 ((a - b : Nat) : Int)), (55, .pointer (some ⟨ka, 0, none⟩)), (56, .pointer (some ⟨ka, 0, none⟩)), (57, .pointer (some ⟨ka, 1, none⟩)), (58, .pointer none), (59, .pointer (some ⟨ka, 0, none⟩)), (60, .pointer (some ⟨ka, 0, none⟩)), (61, .pointer (some ⟨ka, 2, none⟩)), (62, .pointer none), (63, .agg #[.int .u64 ((a - b : Nat) : Int), .pointer none, .pointer none]), (64, .pointer (some ⟨(φ13 18), 0, none⟩)), (65, .pointer (some ⟨kb, 0, none⟩)), (66, .pointer (some ⟨kb, 0, none⟩)), (67, .pointer (some ⟨kb, 0, none⟩)), (68, .int .u64 ((b : Nat) : Int)), (69, .int .u64 ((b : Nat) : Int)), (70, .int .u64 ((b - b : Nat) : Int)), (71, .pointer (some ⟨kb, 0, none⟩)), (72, .pointer (some ⟨kb, 0, none⟩)), (73, .pointer (some ⟨kb, 1, none⟩)), (74, .pointer (some ⟨kb1, 0, none⟩)), (75, .pointer (some ⟨kb, 0, none⟩)), (76, .pointer (some ⟨kb, 0, none⟩)), (77, .pointer (some ⟨kb, 2, none⟩)), (78, .pointer (some ⟨kb2, 0, none⟩)), (79, .agg #[.int .u64 ((b - b : Nat) : Int), .pointer (some ⟨kb1, 0, none⟩), .pointer (some ⟨kb2, 0, none⟩)]), (80, .pointer (some ⟨(φ13 34), 0, none⟩)), (81, .agg #[.int .u64 ((n + b : Nat) : Int), .pointer (some ⟨(φ13 18), 0, none⟩), .pointer (some ⟨(φ13 34), 0, none⟩)]), (82, .pointer (some ⟨(φ13 36), 0, none⟩)), (6, .pointer (some ⟨(φ13 36), 0, none⟩))]) (fun φ13 xs13 => [((φ13 18), .cells #[.int .u64 ((a - b : Nat) : Int), .pointer none, .pointer none] 87), ((φ13 34), .cells #[.int .u64 ((b - b : Nat) : Int), .pointer (some ⟨kb1, 0, none⟩), .pointer (some ⟨kb2, 0, none⟩)] 87), ((φ13 36), .cells #[.int .u64 ((n + b : Nat) : Int), .pointer (some ⟨(φ13 18), 0, none⟩), .pointer (some ⟨(φ13 34), 0, none⟩)] 87)]) s ⟨hl, ⟨hrk, trivial⟩⟩ (by kernel_rfl) (by kernel_rfl) (fun _ _ => by kernel_rfl) (fun _ _ => by kernel_rfl) ⟨fun _ _ => by kernel_rfl, fun _ _ => by kernel_rfl, fun _ _ => by kernel_rfl, fun _ _ => by kernel_rfl⟩ (fun _ _ _ => by kernel_rfl) (fun _ _ => by kernel_rfl) (fun _ _ => by kernel_rfl) (fun _ _ => by kernel_rfl) (fun _ _ => by kernel_rfl) (fun _ _ => by kernel_rfl) ⟨kcast (A := ∀ (φ13 : Nat → Nat) (xs13 : Xs), (.int .u64 (IntKind.wrap .u64 (((n : Nat) : Int) + ((b : Nat) : Int))) : Value) = .int .u64 ((n + b : Nat) : Int)) (by kernel_rfl) (fun φ13 xs13 => congrArg (Value.int .u64) ((nat_addU (a := n) (b := b) (by have hq0 := of_decide_eq_true hc9; omega)))), ⟨kcast (A := ∀ (φ13 : Nat → Nat) (xs13 : Xs), (.int .u64 (IntKind.wrap .u64 (((a : Nat) : Int) - ((b : Nat) : Int))) : Value) = .int .u64 ((a - b : Nat) : Int)) (by kernel_rfl) (fun φ13 xs13 => congrArg (Value.int .u64) ((nat_subU (a := a) (b := b) (by have hq0 := of_decide_eq_true hc9; omega) (by have hq0 := of_decide_eq_true hc9; omega)))), ⟨kcast (A := ∀ (φ13 : Nat → Nat) (xs13 : Xs), (.int .u64 (IntKind.wrap .u64 (((b : Nat) : Int) - ((b : Nat) : Int))) : Value) = .int .u64 ((b - b : Nat) : Int)) (by kernel_rfl) (fun φ13 xs13 => congrArg (Value.int .u64) ((nat_subU (a := b) (b := b) (by have hq0 := of_decide_eq_true hc9; omega) (by have hq0 := of_decide_eq_true hc9; omega)))), trivial⟩⟩⟩ trivial (by kernel_rfl) trivial ?k13
     case k13 =>
      rintro φ13 xs13 I13 w13 le13 s 
      replace hl0 := RE.mono le13 hl0
      replace hb1 := RE.mono le13 hb1
      replace hb2 := RE.mono le13 hb2
      replace hr0 := RE.mono le13 hr0
      replace hl := le13 _ _ hl
      replace hrk := le13 _ _ hrk
      refine wp_ret ?_
      refine ret_rule (C := []) [((φ13 18), .cells #[.int .u64 ((a - b : Nat) : Int), .pointer none, .pointer none] 87), ((φ13 34), .cells #[.int .u64 ((b - b : Nat) : Int), .pointer (some ⟨kb1, 0, none⟩), .pointer (some ⟨kb2, 0, none⟩)] 87), ((φ13 36), .cells #[.int .u64 ((n + b : Nat) : Int), .pointer (some ⟨(φ13 18), 0, none⟩), .pointer (some ⟨(φ13 34), 0, none⟩)] 87)] [] (.pointer (some ⟨(φ13 36), 0, none⟩)) [] [] s trivial (by kernel_rfl) ?_
      obtain ⟨I14, le14, hk14, s⟩ := s.freezeAt 0 (φ13 18) (.cells #[.int .u64 ((a - b : Nat) : Int), .pointer none, .pointer none] 87) [((φ13 34), .cells #[.int .u64 ((b - b : Nat) : Int), .pointer (some ⟨kb1, 0, none⟩), .pointer (some ⟨kb2, 0, none⟩)] 87), ((φ13 36), .cells #[.int .u64 ((n + b : Nat) : Int), .pointer (some ⟨(φ13 18), 0, none⟩), .pointer (some ⟨(φ13 34), 0, none⟩)] 87)] (by kernel_rfl) (by kernel_rfl)
      replace hl0 := RE.mono le14 hl0
      replace hb1 := RE.mono le14 hb1
      replace hb2 := RE.mono le14 hb2
      replace hr0 := RE.mono le14 hr0
      replace hl := le14 _ _ hl
      replace hrk := le14 _ _ hrk
      obtain ⟨I15, le15, hk15, s⟩ := s.freezeAt 0 (φ13 34) (.cells #[.int .u64 ((b - b : Nat) : Int), .pointer (some ⟨kb1, 0, none⟩), .pointer (some ⟨kb2, 0, none⟩)] 87) [((φ13 36), .cells #[.int .u64 ((n + b : Nat) : Int), .pointer (some ⟨(φ13 18), 0, none⟩), .pointer (some ⟨(φ13 34), 0, none⟩)] 87)] (by kernel_rfl) (by kernel_rfl)
      replace hl0 := RE.mono le15 hl0
      replace hb1 := RE.mono le15 hb1
      replace hb2 := RE.mono le15 hb2
      replace hr0 := RE.mono le15 hr0
      replace hl := le15 _ _ hl
      replace hrk := le15 _ _ hrk
      replace hk14 := le15 _ _ hk14
      obtain ⟨I16, le16, hk16, s⟩ := s.freezeAt 0 (φ13 36) (.cells #[.int .u64 ((n + b : Nat) : Int), .pointer (some ⟨(φ13 18), 0, none⟩), .pointer (some ⟨(φ13 34), 0, none⟩)] 87) [] (by kernel_rfl) (by kernel_rfl)
      replace hl0 := RE.mono le16 hl0
      replace hb1 := RE.mono le16 hb1
      replace hb2 := RE.mono le16 hb2
      replace hr0 := RE.mono le16 hr0
      replace hl := le16 _ _ hl
      replace hrk := le16 _ _ hrk
      replace hk14 := le16 _ _ hk14
      replace hk15 := le16 _ _ hk15
      have hcm := of_decide_eq_true hc9
      exact ⟨_, _, _, rfl, s, ⟨_, rfl, by rw [mk_node9 (l := E.leaf a) (r := E.node b b1 b2) (m := b) (fun q => by cases q.2.1) (show min a b = b by omega)]; exact ⟨_, _, hk16, hk14, ⟨_, _, hk15, hb1, hb2⟩⟩⟩⟩
    ·
     rw [hc9]
     refine cond_false_rule (b := false) (by kernel_rfl) rfl ?_
     refine wp_skip ?_
     refine wp_seq ?_
     refine draw_rule (C := [(ka, .cells #[.int .u64 ((a : Nat) : Int), .pointer none, .pointer none] 87), (kb, .cells #[.int .u64 ((b : Nat) : Int), .pointer (some ⟨kb1, 0, none⟩), .pointer (some ⟨kb2, 0, none⟩)] 87)]) ⟨(fun φ17 xs17 => [.look 0 [] [], .look 0 [] [], .sub 0 [] [] (.int .u64 (IntKind.wrap .u64 (((n : Nat) : Int) + ((a : Nat) : Int)))), .look 0 [] [], .look 0 [] [], .look 0 [] [], .look 0 [.c 0] [ka], .look 0 [] [], .sub 0 [] [] (.int .u64 (IntKind.wrap .u64 (((a : Nat) : Int) - ((a : Nat) : Int)))), .look 0 [] [], .look 0 [] [], .look 0 [] [], .look 0 [.c 0] [ka], .look 0 [] [], .look 0 [] [], .look 0 [] [], .look 0 [.c 0] [ka], .look 0 [] [], .new, .look 0 [] [], .look 0 [] [], .look 0 [] [], .look 0 [.c 1] [kb], .look 0 [] [], .sub 0 [] [] (.int .u64 (IntKind.wrap .u64 (((b : Nat) : Int) - ((a : Nat) : Int)))), .look 0 [] [], .look 0 [] [], .look 0 [] [], .look 0 [.c 1] [kb], .look 0 [] [], .look 0 [] [], .look 0 [] [], .look 0 [.c 1] [kb], .look 0 [] [], .new, .look 0 [] [], .new, .look 0 [] []]), (fun φ17 xs17 => [.int .u64 ((n : Nat) : Int), .int .u64 ((a : Nat) : Int), .int .u64 ((n + a : Nat) : Int), .pointer (some ⟨ka, 0, none⟩), .pointer (some ⟨ka, 0, none⟩), .pointer (some ⟨ka, 0, none⟩), .int .u64 ((a : Nat) : Int), .int .u64 ((a : Nat) : Int), .int .u64 ((a - a : Nat) : Int), .pointer (some ⟨ka, 0, none⟩), .pointer (some ⟨ka, 0, none⟩), .pointer (some ⟨ka, 1, none⟩), .pointer none, .pointer (some ⟨ka, 0, none⟩), .pointer (some ⟨ka, 0, none⟩), .pointer (some ⟨ka, 2, none⟩), .pointer none, .agg #[.int .u64 ((a - a : Nat) : Int), .pointer none, .pointer none], .pointer (some ⟨(φ17 18), 0, none⟩), .pointer (some ⟨kb, 0, none⟩), .pointer (some ⟨kb, 0, none⟩), .pointer (some ⟨kb, 0, none⟩), .int .u64 ((b : Nat) : Int), .int .u64 ((a : Nat) : Int), .int .u64 ((b - a : Nat) : Int), .pointer (some ⟨kb, 0, none⟩), .pointer (some ⟨kb, 0, none⟩), .pointer (some ⟨kb, 1, none⟩), .pointer (some ⟨kb1, 0, none⟩), .pointer (some ⟨kb, 0, none⟩), .pointer (some ⟨kb, 0, none⟩), .pointer (some ⟨kb, 2, none⟩), .pointer (some ⟨kb2, 0, none⟩), .agg #[.int .u64 ((b - a : Nat) : Int), .pointer (some ⟨kb1, 0, none⟩), .pointer (some ⟨kb2, 0, none⟩)], .pointer (some ⟨(φ17 34), 0, none⟩), .agg #[.int .u64 ((n + a : Nat) : Int), .pointer (some ⟨(φ17 18), 0, none⟩), .pointer (some ⟨(φ17 34), 0, none⟩)], .pointer (some ⟨(φ17 36), 0, none⟩), .pointer (some ⟨(φ17 36), 0, none⟩)]), (fun φ17 xs17 => [[]]), (fun φ17 xs17 => [[default, default, default, default, default, default, default, default, default, default, default, default, default, default, default, default, default, default, .cells #[.int .u64 ((a - a : Nat) : Int), .pointer none, .pointer none] 87, default, default, default, default, default, default, default, default, default, default, default, default, default, default, default, .cells #[.int .u64 ((b - a : Nat) : Int), .pointer (some ⟨kb1, 0, none⟩), .pointer (some ⟨kb2, 0, none⟩)] 87, default, .cells #[.int .u64 ((n + a : Nat) : Int), .pointer (some ⟨(φ17 18), 0, none⟩), .pointer (some ⟨(φ17 34), 0, none⟩)] 87, default]]), [], [1, 1, 5, 1, 1, 1, 1, 1, 5, 1, 1, 1, 1, 1, 1, 1, 1, 1, 2, 1, 1, 1, 1, 1, 5, 1, 1, 1, 1, 1, 1, 1, 1, 1, 2, 1, 2, 1]⟩ (fun j => ([MP.any, MP.any, MP.any, MP.any, MP.any, MP.any, MP.any, MP.any, MP.any, MP.any, MP.any, MP.any, MP.any, MP.any, MP.any, MP.any, MP.any, MP.any, MP.any, MP.any, MP.any, MP.any, MP.any, MP.any, MP.any, MP.any, MP.any, MP.any, MP.any, MP.any, MP.any, MP.any, MP.any, MP.any, MP.any, MP.any, MP.any, MP.any] : List MP).getD j MP.any) [] [2, 8, 24] [] (fun φ17 xs17 => []) (fun φ17 xs17 => [(46, .int .u64 ((n : Nat) : Int)), (47, .int .u64 ((a : Nat) : Int)), (48, .int .u64 ((n + a : Nat) : Int)), (49, .pointer (some ⟨ka, 0, none⟩)), (50, .pointer (some ⟨ka, 0, none⟩)), (51, .pointer (some ⟨ka, 0, none⟩)), (52, .int .u64 ((a : Nat) : Int)), (53, .int .u64 ((a : Nat) : Int)), (54, .int .u64 ((a - a : Nat) : Int)), (55, .pointer (some ⟨ka, 0, none⟩)), (56, .pointer (some ⟨ka, 0, none⟩)), (57, .pointer (some ⟨ka, 1, none⟩)), (58, .pointer none), (59, .pointer (some ⟨ka, 0, none⟩)), (60, .pointer (some ⟨ka, 0, none⟩)), (61, .pointer (some ⟨ka, 2, none⟩)), (62, .pointer none), (63, .agg #[.int .u64 ((a - a : Nat) : Int), .pointer none, .pointer none]), (64, .pointer (some ⟨(φ17 18), 0, none⟩)), (65, .pointer (some ⟨kb, 0, none⟩)), (66, .pointer (some ⟨kb, 0, none⟩)), (67, .pointer (some ⟨kb, 0, none⟩)), (68, .int .u64 ((b : Nat) : Int)), (69, .int .u64 ((a : Nat) : Int)), (70, .int .u64 ((b - a : Nat) : Int)), (71, .pointer (some ⟨kb, 0, none⟩)), (72, .pointer (some ⟨kb, 0, none⟩)), (73, .pointer (some ⟨kb, 1, none⟩)), (74, .pointer (some ⟨kb1, 0, none⟩)), (75, .pointer (some ⟨kb, 0, none⟩)), (76, .pointer (some ⟨kb, 0, none⟩)), (77, .pointer (some ⟨kb, 2, none⟩)), (78, .pointer (some ⟨kb2, 0, none⟩)), (79, .agg #[.int .u64 ((b - a : Nat) : Int), .pointer (some ⟨kb1, 0, none⟩), .pointer (some ⟨kb2, 0, none⟩)]), (80, .pointer (some ⟨(φ17 34), 0, none⟩)), (81, .agg #[.int .u64 ((n + a : Nat) : Int), .pointer (some ⟨(φ17 18), 0, none⟩), .pointer (some ⟨(φ17 34), 0, none⟩)]), (82, .pointer (some ⟨(φ17 36), 0, none⟩)), (6, .pointer (some ⟨(φ17 36), 0, none⟩))]) (fun φ17 xs17 => [((φ17 18), .cells #[.int .u64 ((a - a : Nat) : Int), .pointer none, .pointer none] 87), ((φ17 34), .cells #[.int .u64 ((b - a : Nat) : Int), .pointer (some ⟨kb1, 0, none⟩), .pointer (some ⟨kb2, 0, none⟩)] 87), ((φ17 36), .cells #[.int .u64 ((n + a : Nat) : Int), .pointer (some ⟨(φ17 18), 0, none⟩), .pointer (some ⟨(φ17 34), 0, none⟩)] 87)]) s ⟨hl, ⟨hrk, trivial⟩⟩ (by kernel_rfl) (by kernel_rfl) (fun _ _ => by kernel_rfl) (fun _ _ => by kernel_rfl) ⟨fun _ _ => by kernel_rfl, fun _ _ => by kernel_rfl, fun _ _ => by kernel_rfl, fun _ _ => by kernel_rfl⟩ (fun _ _ _ => by kernel_rfl) (fun _ _ => by kernel_rfl) (fun _ _ => by kernel_rfl) (fun _ _ => by kernel_rfl) (fun _ _ => by kernel_rfl) (fun _ _ => by kernel_rfl) ⟨kcast (A := ∀ (φ17 : Nat → Nat) (xs17 : Xs), (.int .u64 (IntKind.wrap .u64 (((n : Nat) : Int) + ((a : Nat) : Int))) : Value) = .int .u64 ((n + a : Nat) : Int)) (by kernel_rfl) (fun φ17 xs17 => congrArg (Value.int .u64) ((nat_addU (a := n) (b := a) (by have hq0 := of_decide_eq_false hc9; omega)))), ⟨kcast (A := ∀ (φ17 : Nat → Nat) (xs17 : Xs), (.int .u64 (IntKind.wrap .u64 (((a : Nat) : Int) - ((a : Nat) : Int))) : Value) = .int .u64 ((a - a : Nat) : Int)) (by kernel_rfl) (fun φ17 xs17 => congrArg (Value.int .u64) ((nat_subU (a := a) (b := a) (by have hq0 := of_decide_eq_false hc9; omega) (by have hq0 := of_decide_eq_false hc9; omega)))), ⟨kcast (A := ∀ (φ17 : Nat → Nat) (xs17 : Xs), (.int .u64 (IntKind.wrap .u64 (((b : Nat) : Int) - ((a : Nat) : Int))) : Value) = .int .u64 ((b - a : Nat) : Int)) (by kernel_rfl) (fun φ17 xs17 => congrArg (Value.int .u64) ((nat_subU (a := b) (b := a) (by have hq0 := of_decide_eq_false hc9; omega) (by have hq0 := of_decide_eq_false hc9; omega)))), trivial⟩⟩⟩ trivial (by kernel_rfl) trivial ?k17
     case k17 =>
      rintro φ17 xs17 I17 w17 le17 s 
      replace hl0 := RE.mono le17 hl0
      replace hb1 := RE.mono le17 hb1
      replace hb2 := RE.mono le17 hb2
      replace hr0 := RE.mono le17 hr0
      replace hl := le17 _ _ hl
      replace hrk := le17 _ _ hrk
      refine wp_ret ?_
      refine ret_rule (C := []) [((φ17 18), .cells #[.int .u64 ((a - a : Nat) : Int), .pointer none, .pointer none] 87), ((φ17 34), .cells #[.int .u64 ((b - a : Nat) : Int), .pointer (some ⟨kb1, 0, none⟩), .pointer (some ⟨kb2, 0, none⟩)] 87), ((φ17 36), .cells #[.int .u64 ((n + a : Nat) : Int), .pointer (some ⟨(φ17 18), 0, none⟩), .pointer (some ⟨(φ17 34), 0, none⟩)] 87)] [] (.pointer (some ⟨(φ17 36), 0, none⟩)) [] [] s trivial (by kernel_rfl) ?_
      obtain ⟨I18, le18, hk18, s⟩ := s.freezeAt 0 (φ17 18) (.cells #[.int .u64 ((a - a : Nat) : Int), .pointer none, .pointer none] 87) [((φ17 34), .cells #[.int .u64 ((b - a : Nat) : Int), .pointer (some ⟨kb1, 0, none⟩), .pointer (some ⟨kb2, 0, none⟩)] 87), ((φ17 36), .cells #[.int .u64 ((n + a : Nat) : Int), .pointer (some ⟨(φ17 18), 0, none⟩), .pointer (some ⟨(φ17 34), 0, none⟩)] 87)] (by kernel_rfl) (by kernel_rfl)
      replace hl0 := RE.mono le18 hl0
      replace hb1 := RE.mono le18 hb1
      replace hb2 := RE.mono le18 hb2
      replace hr0 := RE.mono le18 hr0
      replace hl := le18 _ _ hl
      replace hrk := le18 _ _ hrk
      obtain ⟨I19, le19, hk19, s⟩ := s.freezeAt 0 (φ17 34) (.cells #[.int .u64 ((b - a : Nat) : Int), .pointer (some ⟨kb1, 0, none⟩), .pointer (some ⟨kb2, 0, none⟩)] 87) [((φ17 36), .cells #[.int .u64 ((n + a : Nat) : Int), .pointer (some ⟨(φ17 18), 0, none⟩), .pointer (some ⟨(φ17 34), 0, none⟩)] 87)] (by kernel_rfl) (by kernel_rfl)
      replace hl0 := RE.mono le19 hl0
      replace hb1 := RE.mono le19 hb1
      replace hb2 := RE.mono le19 hb2
      replace hr0 := RE.mono le19 hr0
      replace hl := le19 _ _ hl
      replace hrk := le19 _ _ hrk
      replace hk18 := le19 _ _ hk18
      obtain ⟨I20, le20, hk20, s⟩ := s.freezeAt 0 (φ17 36) (.cells #[.int .u64 ((n + a : Nat) : Int), .pointer (some ⟨(φ17 18), 0, none⟩), .pointer (some ⟨(φ17 34), 0, none⟩)] 87) [] (by kernel_rfl) (by kernel_rfl)
      replace hl0 := RE.mono le20 hl0
      replace hb1 := RE.mono le20 hb1
      replace hb2 := RE.mono le20 hb2
      replace hr0 := RE.mono le20 hr0
      replace hl := le20 _ _ hl
      replace hrk := le20 _ _ hrk
      replace hk18 := le20 _ _ hk18
      replace hk19 := le20 _ _ hk19
      have hcm := of_decide_eq_false hc9
      exact ⟨_, _, _, rfl, s, ⟨_, rfl, by rw [mk_node9 (l := E.leaf a) (r := E.node b b1 b2) (m := a) (fun q => by cases q.2.1) (show min a b = a by omega)]; exact ⟨_, _, hk20, hk18, ⟨_, _, hk19, hb1, hb2⟩⟩⟩⟩
 | node a a1 a2 =>
  cases r with
  | leaf b =>
   have hna := hnl
   have hta := htl
   have hl0 : RE _ (E.node a a1 a2) ka := hl
   have hab : a ≤ (E.node a a1 a2).top := hbl
   obtain ⟨ka1, ka2, hlk, ha1, ha2⟩ := hl
   have hnb := hnr
   have htb := htr
   have hr0 : RE _ (E.leaf b) kb := hr
   have hbb : b ≤ (E.leaf b).top := hbr
   refine enter_rule 83 [(0, .int .u64 ((n : Nat) : Int)), (1, .pointer (some ⟨ka, 0, none⟩)), (2, .pointer (some ⟨kb, 0, none⟩))] Try.func70 rfl (by kernel_rfl) ?_
   intro w s
   refine wp_seq ?_
   refine region_rule ?_
   refine ops_rule (C := []) [] [] 1 [] 0 (fun φ1 => [(6, .pointer none)]) (fun φ1 => []) (fun φ1 => []) s trivial (fun φ1 => by kernel_rfl) ?_
   intro φ1 w1 s
   refine ops_done (by kernel_rfl) ?_
   refine wp_seq ?_
   refine wp_seq ?_
   refine draw_rule (C := [(ka, .cells #[.int .u64 ((a : Nat) : Int), .pointer (some ⟨ka1, 0, none⟩), .pointer (some ⟨ka2, 0, none⟩)] 87)]) ⟨(fun φ2 xs2 => [.look 0 [] [], .look 0 [] [], .look 0 [] [], .look 0 [.c 0] [ka], .look 0 [] [], .look 0 [] [], .skip, .skip, .skip, .skip, .skip, .look 0 [] [], .look 0 [] [], .skip, .skip, .skip, .skip, .skip, .skip, .skip, .skip, .skip, .look 0 [] []]), (fun φ2 xs2 => [.pointer (some ⟨ka, 0, none⟩), .pointer (some ⟨ka, 0, none⟩), .pointer (some ⟨ka, 1, none⟩), .pointer (some ⟨ka1, 0, none⟩), .bool false, .bool false, undef, undef, undef, undef, undef, .bool false, .bool false, undef, undef, undef, undef, undef, undef, undef, undef, undef, .bool false]), (fun φ2 xs2 => [[]]), (fun φ2 xs2 => [[default, default, default, default, default, default, default, default, default, default, default, default, default, default, default, default, default, default, default, default, default, default, default]]), [], [1, 1, 1, 1, 1, 1, 0, 0, 0, 0, 0, 1, 1, 0, 0, 0, 0, 0, 0, 0, 0, 0, 1]⟩ (fun j => ([MP.any, MP.any, MP.any, MP.any, MP.any, MP.any, MP.any, MP.any, MP.any, MP.any, MP.any, MP.any, MP.any, MP.any, MP.any, MP.any, MP.any, MP.any, MP.any, MP.any, MP.any, MP.any, MP.any] : List MP).getD j MP.any) [] [] [] (fun φ2 xs2 => []) (fun φ2 xs2 => [(8, .pointer (some ⟨ka, 0, none⟩)), (9, .pointer (some ⟨ka, 0, none⟩)), (10, .pointer (some ⟨ka, 1, none⟩)), (11, .pointer (some ⟨ka1, 0, none⟩)), (12, .bool false), (13, .bool false), (14, undef), (15, undef), (16, undef), (17, undef), (18, undef), (19, .bool false), (20, .bool false), (21, undef), (22, undef), (23, undef), (24, undef), (25, undef), (26, undef), (27, undef), (28, undef), (29, undef), (30, .bool false)]) (fun φ2 xs2 => []) s ⟨hlk, trivial⟩ (by kernel_rfl) (by kernel_rfl) (fun _ _ => by kernel_rfl) (fun _ _ => by kernel_rfl) ⟨fun _ _ => by kernel_rfl, fun _ _ => by kernel_rfl, fun _ _ => by kernel_rfl, fun _ _ => by kernel_rfl⟩ (fun _ _ _ => by kernel_rfl) (fun _ _ => by kernel_rfl) (fun _ _ => by kernel_rfl) (fun _ _ => by kernel_rfl) (fun _ _ => by kernel_rfl) (fun _ _ => by kernel_rfl) trivial trivial (by kernel_rfl) trivial ?k2
   case k2 =>
    rintro φ2 xs2 I2 w2 le2 s 
    replace ha1 := RE.mono le2 ha1
    replace ha2 := RE.mono le2 ha2
    replace hl0 := RE.mono le2 hl0
    replace hr0 := RE.mono le2 hr0
    replace hlk := le2 _ _ hlk
    replace hr := le2 _ _ hr
    refine cond_false_rule (b := false) (by kernel_rfl) rfl ?_
    refine wp_skip ?_
    refine wp_seq ?_
    refine region_rule ?_
    refine ops_rule (C := []) [] [] 1 [] 0 (fun φ3 => [(38, .pointer (some ⟨ka, 0, none⟩))]) (fun φ3 => []) (fun φ3 => []) s trivial (fun φ3 => by kernel_rfl) ?_
    intro φ3 w3 s
    refine call_rule (some 39) s (rminB_c hl0 hna hta) (by kernel_rfl) ?_
    intro v4 I4 w4 le4 h4 s
    replace ha1 := RE.mono le4 ha1
    replace ha2 := RE.mono le4 ha2
    replace hl0 := RE.mono le4 hl0
    replace hr0 := RE.mono le4 hr0
    replace hlk := le4 _ _ hlk
    replace hr := le4 _ _ hr
    obtain rfl := h4
    refine ops_rule (C := []) [] [] 1 [] 0 (fun φ5 => [(7, .int .u64 ((a : Nat) : Int))]) (fun φ5 => []) (fun φ5 => []) s trivial (fun φ5 => by kernel_rfl) ?_
    intro φ5 w5 s
    refine ops_done (by kernel_rfl) ?_
    refine wp_seq ?_
    refine wp_seq ?_
    refine region_rule ?_
    refine ops_rule (C := []) [] [] 1 [] 0 (fun φ6 => [(40, .pointer (some ⟨kb, 0, none⟩))]) (fun φ6 => []) (fun φ6 => []) s trivial (fun φ6 => by kernel_rfl) ?_
    intro φ6 w6 s
    refine call_rule (some 41) s (rminB_c hr0 hnb htb) (by kernel_rfl) ?_
    intro v7 I7 w7 le7 h7 s
    replace ha1 := RE.mono le7 ha1
    replace ha2 := RE.mono le7 ha2
    replace hl0 := RE.mono le7 hl0
    replace hr0 := RE.mono le7 hr0
    replace hlk := le7 _ _ hlk
    replace hr := le7 _ _ hr
    obtain rfl := h7
    refine ops_rule (C := []) [] [] 2 [] 0 (fun φ8 => [(43, .bool (decide (((b : Nat) : Int) < ((a : Nat) : Int)))), (42, .int .u64 ((a : Nat) : Int))]) (fun φ8 => []) (fun φ8 => []) s trivial (fun φ8 => by kernel_rfl) ?_
    intro φ8 w8 s
    rw [nat_lss (a := b) (b := a)]
    refine ops_done (by kernel_rfl) ?_
    rcases Bool.eq_false_or_eq_true (decide (b < a)) with hc9 | hc9
    ·
     rw [hc9]
     refine cond_true_rule (b := true) (by kernel_rfl) rfl ?_
     refine region_rule ?_
     refine ops_rule (C := []) [] [] 1 [] 0 (fun φ10 => [(44, .pointer (some ⟨kb, 0, none⟩))]) (fun φ10 => []) (fun φ10 => []) s trivial (fun φ10 => by kernel_rfl) ?_
     intro φ10 w10 s
     refine call_rule (some 45) s (rminB_c hr0 hnb htb) (by kernel_rfl) ?_
     intro v11 I11 w11 le11 h11 s
     replace ha1 := RE.mono le11 ha1
     replace ha2 := RE.mono le11 ha2
     replace hl0 := RE.mono le11 hl0
     replace hr0 := RE.mono le11 hr0
     replace hlk := le11 _ _ hlk
     replace hr := le11 _ _ hr
     obtain rfl := h11
     refine ops_rule (C := []) [] [] 1 [] 0 (fun φ12 => [(7, .int .u64 ((b : Nat) : Int))]) (fun φ12 => []) (fun φ12 => []) s trivial (fun φ12 => by kernel_rfl) ?_
     intro φ12 w12 s
     refine ops_done (by kernel_rfl) ?_
     refine wp_seq ?_
     refine draw_rule (C := [(ka, .cells #[.int .u64 ((a : Nat) : Int), .pointer (some ⟨ka1, 0, none⟩), .pointer (some ⟨ka2, 0, none⟩)] 87), (kb, .cells #[.int .u64 ((b : Nat) : Int), .pointer none, .pointer none] 87)]) ⟨(fun φ13 xs13 => [.look 0 [] [], .look 0 [] [], .sub 0 [] [] (.int .u64 (IntKind.wrap .u64 (((n : Nat) : Int) + ((b : Nat) : Int)))), .look 0 [] [], .look 0 [] [], .look 0 [] [], .look 0 [.c 0] [ka], .look 0 [] [], .sub 0 [] [] (.int .u64 (IntKind.wrap .u64 (((a : Nat) : Int) - ((b : Nat) : Int)))), .look 0 [] [], .look 0 [] [], .look 0 [] [], .look 0 [.c 0] [ka], .look 0 [] [], .look 0 [] [], .look 0 [] [], .look 0 [.c 0] [ka], .look 0 [] [], .new, .look 0 [] [], .look 0 [] [], .look 0 [] [], .look 0 [.c 1] [kb], .look 0 [] [], .sub 0 [] [] (.int .u64 (IntKind.wrap .u64 (((b : Nat) : Int) - ((b : Nat) : Int)))), .look 0 [] [], .look 0 [] [], .look 0 [] [], .look 0 [.c 1] [kb], .look 0 [] [], .look 0 [] [], .look 0 [] [], .look 0 [.c 1] [kb], .look 0 [] [], .new, .look 0 [] [], .new, .look 0 [] []]), (fun φ13 xs13 => [.int .u64 ((n : Nat) : Int), .int .u64 ((b : Nat) : Int), .int .u64 ((n + b : Nat) : Int), .pointer (some ⟨ka, 0, none⟩), .pointer (some ⟨ka, 0, none⟩), .pointer (some ⟨ka, 0, none⟩), .int .u64 ((a : Nat) : Int), .int .u64 ((b : Nat) : Int), .int .u64 ((a - b : Nat) : Int), .pointer (some ⟨ka, 0, none⟩), .pointer (some ⟨ka, 0, none⟩), .pointer (some ⟨ka, 1, none⟩), .pointer (some ⟨ka1, 0, none⟩), .pointer (some ⟨ka, 0, none⟩), .pointer (some ⟨ka, 0, none⟩), .pointer (some ⟨ka, 2, none⟩), .pointer (some ⟨ka2, 0, none⟩), .agg #[.int .u64 ((a - b : Nat) : Int), .pointer (some ⟨ka1, 0, none⟩), .pointer (some ⟨ka2, 0, none⟩)], .pointer (some ⟨(φ13 18), 0, none⟩), .pointer (some ⟨kb, 0, none⟩), .pointer (some ⟨kb, 0, none⟩), .pointer (some ⟨kb, 0, none⟩), .int .u64 ((b : Nat) : Int), .int .u64 ((b : Nat) : Int), .int .u64 ((b - b : Nat) : Int), .pointer (some ⟨kb, 0, none⟩), .pointer (some ⟨kb, 0, none⟩), .pointer (some ⟨kb, 1, none⟩), .pointer none, .pointer (some ⟨kb, 0, none⟩), .pointer (some ⟨kb, 0, none⟩), .pointer (some ⟨kb, 2, none⟩), .pointer none, .agg #[.int .u64 ((b - b : Nat) : Int), .pointer none, .pointer none], .pointer (some ⟨(φ13 34), 0, none⟩), .agg #[.int .u64 ((n + b : Nat) : Int), .pointer (some ⟨(φ13 18), 0, none⟩), .pointer (some ⟨(φ13 34), 0, none⟩)], .pointer (some ⟨(φ13 36), 0, none⟩), .pointer (some ⟨(φ13 36), 0, none⟩)]), (fun φ13 xs13 => [[]]), (fun φ13 xs13 => [[default, default, default, default, default, default, default, default, default, default, default, default, default, default, default, default, default, default, .cells #[.int .u64 ((a - b : Nat) : Int), .pointer (some ⟨ka1, 0, none⟩), .pointer (some ⟨ka2, 0, none⟩)] 87, default, default, default, default, default, default, default, default, default, default, default, default, default, default, default, .cells #[.int .u64 ((b - b : Nat) : Int), .pointer none, .pointer none] 87, default, .cells #[.int .u64 ((n + b : Nat) : Int), .pointer (some ⟨(φ13 18), 0, none⟩), .pointer (some ⟨(φ13 34), 0, none⟩)] 87, default]]), [], [1, 1, 5, 1, 1, 1, 1, 1, 5, 1, 1, 1, 1, 1, 1, 1, 1, 1, 2, 1, 1, 1, 1, 1, 5, 1, 1, 1, 1, 1, 1, 1, 1, 1, 2, 1, 2, 1]⟩ (fun j => ([MP.any, MP.any, MP.any, MP.any, MP.any, MP.any, MP.any, MP.any, MP.any, MP.any, MP.any, MP.any, MP.any, MP.any, MP.any, MP.any, MP.any, MP.any, MP.any, MP.any, MP.any, MP.any, MP.any, MP.any, MP.any, MP.any, MP.any, MP.any, MP.any, MP.any, MP.any, MP.any, MP.any, MP.any, MP.any, MP.any, MP.any, MP.any] : List MP).getD j MP.any) [] [2, 8, 24] [] (fun φ13 xs13 => []) (fun φ13 xs13 => [(46, .int .u64 ((n : Nat) : Int)), (47, .int .u64 ((b : Nat) : Int)), (48, .int .u64 ((n + b : Nat) : Int)), (49, .pointer (some ⟨ka, 0, none⟩)), (50, .pointer (some ⟨ka, 0, none⟩)), (51, .pointer (some ⟨ka, 0, none⟩)), (52, .int .u64 ((a : Nat) : Int)), (53, .int .u64 ((b : Nat) : Int)), (54, .int .u64 ((a - b : Nat) : Int)), (55, .pointer (some ⟨ka, 0, none⟩)), (56, .pointer (some ⟨ka, 0, none⟩)), (57, .pointer (some ⟨ka, 1, none⟩)), (58, .pointer (some ⟨ka1, 0, none⟩)), (59, .pointer (some ⟨ka, 0, none⟩)), (60, .pointer (some ⟨ka, 0, none⟩)), (61, .pointer (some ⟨ka, 2, none⟩)), (62, .pointer (some ⟨ka2, 0, none⟩)), (63, .agg #[.int .u64 ((a - b : Nat) : Int), .pointer (some ⟨ka1, 0, none⟩), .pointer (some ⟨ka2, 0, none⟩)]), (64, .pointer (some ⟨(φ13 18), 0, none⟩)), (65, .pointer (some ⟨kb, 0, none⟩)), (66, .pointer (some ⟨kb, 0, none⟩)), (67, .pointer (some ⟨kb, 0, none⟩)), (68, .int .u64 ((b : Nat) : Int)), (69, .int .u64 ((b : Nat) : Int)), (70, .int .u64 ((b - b : Nat) : Int)), (71, .pointer (some ⟨kb, 0, none⟩)), (72, .pointer (some ⟨kb, 0, none⟩)), (73, .pointer (some ⟨kb, 1, none⟩)), (74, .pointer none), (75, .pointer (some ⟨kb, 0, none⟩)), (76, .pointer (some ⟨kb, 0, none⟩)), (77, .pointer (some ⟨kb, 2, none⟩)), (78, .pointer none), (79, .agg #[.int .u64 ((b - b : Nat) : Int), .pointer none, .pointer none]), (80, .pointer (some ⟨(φ13 34), 0, none⟩)), (81, .agg #[.int .u64 ((n + b : Nat) : Int), .pointer (some ⟨(φ13 18), 0, none⟩), .pointer (some ⟨(φ13 34), 0, none⟩)]), (82, .pointer (some ⟨(φ13 36), 0, none⟩)), (6, .pointer (some ⟨(φ13 36), 0, none⟩))]) (fun φ13 xs13 => [((φ13 18), .cells #[.int .u64 ((a - b : Nat) : Int), .pointer (some ⟨ka1, 0, none⟩), .pointer (some ⟨ka2, 0, none⟩)] 87), ((φ13 34), .cells #[.int .u64 ((b - b : Nat) : Int), .pointer none, .pointer none] 87), ((φ13 36), .cells #[.int .u64 ((n + b : Nat) : Int), .pointer (some ⟨(φ13 18), 0, none⟩), .pointer (some ⟨(φ13 34), 0, none⟩)] 87)]) s ⟨hlk, ⟨hr, trivial⟩⟩ (by kernel_rfl) (by kernel_rfl) (fun _ _ => by kernel_rfl) (fun _ _ => by kernel_rfl) ⟨fun _ _ => by kernel_rfl, fun _ _ => by kernel_rfl, fun _ _ => by kernel_rfl, fun _ _ => by kernel_rfl⟩ (fun _ _ _ => by kernel_rfl) (fun _ _ => by kernel_rfl) (fun _ _ => by kernel_rfl) (fun _ _ => by kernel_rfl) (fun _ _ => by kernel_rfl) (fun _ _ => by kernel_rfl) ⟨kcast (A := ∀ (φ13 : Nat → Nat) (xs13 : Xs), (.int .u64 (IntKind.wrap .u64 (((n : Nat) : Int) + ((b : Nat) : Int))) : Value) = .int .u64 ((n + b : Nat) : Int)) (by kernel_rfl) (fun φ13 xs13 => congrArg (Value.int .u64) ((nat_addU (a := n) (b := b) (by have hq0 := of_decide_eq_true hc9; omega)))), ⟨kcast (A := ∀ (φ13 : Nat → Nat) (xs13 : Xs), (.int .u64 (IntKind.wrap .u64 (((a : Nat) : Int) - ((b : Nat) : Int))) : Value) = .int .u64 ((a - b : Nat) : Int)) (by kernel_rfl) (fun φ13 xs13 => congrArg (Value.int .u64) ((nat_subU (a := a) (b := b) (by have hq0 := of_decide_eq_true hc9; omega) (by have hq0 := of_decide_eq_true hc9; omega)))), ⟨kcast (A := ∀ (φ13 : Nat → Nat) (xs13 : Xs), (.int .u64 (IntKind.wrap .u64 (((b : Nat) : Int) - ((b : Nat) : Int))) : Value) = .int .u64 ((b - b : Nat) : Int)) (by kernel_rfl) (fun φ13 xs13 => congrArg (Value.int .u64) ((nat_subU (a := b) (b := b) (by have hq0 := of_decide_eq_true hc9; omega) (by have hq0 := of_decide_eq_true hc9; omega)))), trivial⟩⟩⟩ trivial (by kernel_rfl) trivial ?k13
     case k13 =>
      rintro φ13 xs13 I13 w13 le13 s 
      replace ha1 := RE.mono le13 ha1
      replace ha2 := RE.mono le13 ha2
      replace hl0 := RE.mono le13 hl0
      replace hr0 := RE.mono le13 hr0
      replace hlk := le13 _ _ hlk
      replace hr := le13 _ _ hr
      refine wp_ret ?_
      refine ret_rule (C := []) [((φ13 18), .cells #[.int .u64 ((a - b : Nat) : Int), .pointer (some ⟨ka1, 0, none⟩), .pointer (some ⟨ka2, 0, none⟩)] 87), ((φ13 34), .cells #[.int .u64 ((b - b : Nat) : Int), .pointer none, .pointer none] 87), ((φ13 36), .cells #[.int .u64 ((n + b : Nat) : Int), .pointer (some ⟨(φ13 18), 0, none⟩), .pointer (some ⟨(φ13 34), 0, none⟩)] 87)] [] (.pointer (some ⟨(φ13 36), 0, none⟩)) [] [] s trivial (by kernel_rfl) ?_
      obtain ⟨I14, le14, hk14, s⟩ := s.freezeAt 0 (φ13 18) (.cells #[.int .u64 ((a - b : Nat) : Int), .pointer (some ⟨ka1, 0, none⟩), .pointer (some ⟨ka2, 0, none⟩)] 87) [((φ13 34), .cells #[.int .u64 ((b - b : Nat) : Int), .pointer none, .pointer none] 87), ((φ13 36), .cells #[.int .u64 ((n + b : Nat) : Int), .pointer (some ⟨(φ13 18), 0, none⟩), .pointer (some ⟨(φ13 34), 0, none⟩)] 87)] (by kernel_rfl) (by kernel_rfl)
      replace ha1 := RE.mono le14 ha1
      replace ha2 := RE.mono le14 ha2
      replace hl0 := RE.mono le14 hl0
      replace hr0 := RE.mono le14 hr0
      replace hlk := le14 _ _ hlk
      replace hr := le14 _ _ hr
      obtain ⟨I15, le15, hk15, s⟩ := s.freezeAt 0 (φ13 34) (.cells #[.int .u64 ((b - b : Nat) : Int), .pointer none, .pointer none] 87) [((φ13 36), .cells #[.int .u64 ((n + b : Nat) : Int), .pointer (some ⟨(φ13 18), 0, none⟩), .pointer (some ⟨(φ13 34), 0, none⟩)] 87)] (by kernel_rfl) (by kernel_rfl)
      replace ha1 := RE.mono le15 ha1
      replace ha2 := RE.mono le15 ha2
      replace hl0 := RE.mono le15 hl0
      replace hr0 := RE.mono le15 hr0
      replace hlk := le15 _ _ hlk
      replace hr := le15 _ _ hr
      replace hk14 := le15 _ _ hk14
      obtain ⟨I16, le16, hk16, s⟩ := s.freezeAt 0 (φ13 36) (.cells #[.int .u64 ((n + b : Nat) : Int), .pointer (some ⟨(φ13 18), 0, none⟩), .pointer (some ⟨(φ13 34), 0, none⟩)] 87) [] (by kernel_rfl) (by kernel_rfl)
      replace ha1 := RE.mono le16 ha1
      replace ha2 := RE.mono le16 ha2
      replace hl0 := RE.mono le16 hl0
      replace hr0 := RE.mono le16 hr0
      replace hlk := le16 _ _ hlk
      replace hr := le16 _ _ hr
      replace hk14 := le16 _ _ hk14
      replace hk15 := le16 _ _ hk15
      have hcm := of_decide_eq_true hc9
      exact ⟨_, _, _, rfl, s, ⟨_, rfl, by rw [mk_node9 (l := E.node a a1 a2) (r := E.leaf b) (m := b) (fun q => by cases q.1) (show min a b = b by omega)]; exact ⟨_, _, hk16, ⟨_, _, hk14, ha1, ha2⟩, hk15⟩⟩⟩
    ·
     rw [hc9]
     refine cond_false_rule (b := false) (by kernel_rfl) rfl ?_
     refine wp_skip ?_
     refine wp_seq ?_
     refine draw_rule (C := [(ka, .cells #[.int .u64 ((a : Nat) : Int), .pointer (some ⟨ka1, 0, none⟩), .pointer (some ⟨ka2, 0, none⟩)] 87), (kb, .cells #[.int .u64 ((b : Nat) : Int), .pointer none, .pointer none] 87)]) ⟨(fun φ17 xs17 => [.look 0 [] [], .look 0 [] [], .sub 0 [] [] (.int .u64 (IntKind.wrap .u64 (((n : Nat) : Int) + ((a : Nat) : Int)))), .look 0 [] [], .look 0 [] [], .look 0 [] [], .look 0 [.c 0] [ka], .look 0 [] [], .sub 0 [] [] (.int .u64 (IntKind.wrap .u64 (((a : Nat) : Int) - ((a : Nat) : Int)))), .look 0 [] [], .look 0 [] [], .look 0 [] [], .look 0 [.c 0] [ka], .look 0 [] [], .look 0 [] [], .look 0 [] [], .look 0 [.c 0] [ka], .look 0 [] [], .new, .look 0 [] [], .look 0 [] [], .look 0 [] [], .look 0 [.c 1] [kb], .look 0 [] [], .sub 0 [] [] (.int .u64 (IntKind.wrap .u64 (((b : Nat) : Int) - ((a : Nat) : Int)))), .look 0 [] [], .look 0 [] [], .look 0 [] [], .look 0 [.c 1] [kb], .look 0 [] [], .look 0 [] [], .look 0 [] [], .look 0 [.c 1] [kb], .look 0 [] [], .new, .look 0 [] [], .new, .look 0 [] []]), (fun φ17 xs17 => [.int .u64 ((n : Nat) : Int), .int .u64 ((a : Nat) : Int), .int .u64 ((n + a : Nat) : Int), .pointer (some ⟨ka, 0, none⟩), .pointer (some ⟨ka, 0, none⟩), .pointer (some ⟨ka, 0, none⟩), .int .u64 ((a : Nat) : Int), .int .u64 ((a : Nat) : Int), .int .u64 ((a - a : Nat) : Int), .pointer (some ⟨ka, 0, none⟩), .pointer (some ⟨ka, 0, none⟩), .pointer (some ⟨ka, 1, none⟩), .pointer (some ⟨ka1, 0, none⟩), .pointer (some ⟨ka, 0, none⟩), .pointer (some ⟨ka, 0, none⟩), .pointer (some ⟨ka, 2, none⟩), .pointer (some ⟨ka2, 0, none⟩), .agg #[.int .u64 ((a - a : Nat) : Int), .pointer (some ⟨ka1, 0, none⟩), .pointer (some ⟨ka2, 0, none⟩)], .pointer (some ⟨(φ17 18), 0, none⟩), .pointer (some ⟨kb, 0, none⟩), .pointer (some ⟨kb, 0, none⟩), .pointer (some ⟨kb, 0, none⟩), .int .u64 ((b : Nat) : Int), .int .u64 ((a : Nat) : Int), .int .u64 ((b - a : Nat) : Int), .pointer (some ⟨kb, 0, none⟩), .pointer (some ⟨kb, 0, none⟩), .pointer (some ⟨kb, 1, none⟩), .pointer none, .pointer (some ⟨kb, 0, none⟩), .pointer (some ⟨kb, 0, none⟩), .pointer (some ⟨kb, 2, none⟩), .pointer none, .agg #[.int .u64 ((b - a : Nat) : Int), .pointer none, .pointer none], .pointer (some ⟨(φ17 34), 0, none⟩), .agg #[.int .u64 ((n + a : Nat) : Int), .pointer (some ⟨(φ17 18), 0, none⟩), .pointer (some ⟨(φ17 34), 0, none⟩)], .pointer (some ⟨(φ17 36), 0, none⟩), .pointer (some ⟨(φ17 36), 0, none⟩)]), (fun φ17 xs17 => [[]]), (fun φ17 xs17 => [[default, default, default, default, default, default, default, default, default, default, default, default, default, default, default, default, default, default, .cells #[.int .u64 ((a - a : Nat) : Int), .pointer (some ⟨ka1, 0, none⟩), .pointer (some ⟨ka2, 0, none⟩)] 87, default, default, default, default, default, default, default, default, default, default, default, default, default, default, default, .cells #[.int .u64 ((b - a : Nat) : Int), .pointer none, .pointer none] 87, default, .cells #[.int .u64 ((n + a : Nat) : Int), .pointer (some ⟨(φ17 18), 0, none⟩), .pointer (some ⟨(φ17 34), 0, none⟩)] 87, default]]), [], [1, 1, 5, 1, 1, 1, 1, 1, 5, 1, 1, 1, 1, 1, 1, 1, 1, 1, 2, 1, 1, 1, 1, 1, 5, 1, 1, 1, 1, 1, 1, 1, 1, 1, 2, 1, 2, 1]⟩ (fun j => ([MP.any, MP.any, MP.any, MP.any, MP.any, MP.any, MP.any, MP.any, MP.any, MP.any, MP.any, MP.any, MP.any, MP.any, MP.any, MP.any, MP.any, MP.any, MP.any, MP.any, MP.any, MP.any, MP.any, MP.any, MP.any, MP.any, MP.any, MP.any, MP.any, MP.any, MP.any, MP.any, MP.any, MP.any, MP.any, MP.any, MP.any, MP.any] : List MP).getD j MP.any) [] [2, 8, 24] [] (fun φ17 xs17 => []) (fun φ17 xs17 => [(46, .int .u64 ((n : Nat) : Int)), (47, .int .u64 ((a : Nat) : Int)), (48, .int .u64 ((n + a : Nat) : Int)), (49, .pointer (some ⟨ka, 0, none⟩)), (50, .pointer (some ⟨ka, 0, none⟩)), (51, .pointer (some ⟨ka, 0, none⟩)), (52, .int .u64 ((a : Nat) : Int)), (53, .int .u64 ((a : Nat) : Int)), (54, .int .u64 ((a - a : Nat) : Int)), (55, .pointer (some ⟨ka, 0, none⟩)), (56, .pointer (some ⟨ka, 0, none⟩)), (57, .pointer (some ⟨ka, 1, none⟩)), (58, .pointer (some ⟨ka1, 0, none⟩)), (59, .pointer (some ⟨ka, 0, none⟩)), (60, .pointer (some ⟨ka, 0, none⟩)), (61, .pointer (some ⟨ka, 2, none⟩)), (62, .pointer (some ⟨ka2, 0, none⟩)), (63, .agg #[.int .u64 ((a - a : Nat) : Int), .pointer (some ⟨ka1, 0, none⟩), .pointer (some ⟨ka2, 0, none⟩)]), (64, .pointer (some ⟨(φ17 18), 0, none⟩)), (65, .pointer (some ⟨kb, 0, none⟩)), (66, .pointer (some ⟨kb, 0, none⟩)), (67, .pointer (some ⟨kb, 0, none⟩)), (68, .int .u64 ((b : Nat) : Int)), (69, .int .u64 ((a : Nat) : Int)), (70, .int .u64 ((b - a : Nat) : Int)), (71, .pointer (some ⟨kb, 0, none⟩)), (72, .pointer (some ⟨kb, 0, none⟩)), (73, .pointer (some ⟨kb, 1, none⟩)), (74, .pointer none), (75, .pointer (some ⟨kb, 0, none⟩)), (76, .pointer (some ⟨kb, 0, none⟩)), (77, .pointer (some ⟨kb, 2, none⟩)), (78, .pointer none), (79, .agg #[.int .u64 ((b - a : Nat) : Int), .pointer none, .pointer none]), (80, .pointer (some ⟨(φ17 34), 0, none⟩)), (81, .agg #[.int .u64 ((n + a : Nat) : Int), .pointer (some ⟨(φ17 18), 0, none⟩), .pointer (some ⟨(φ17 34), 0, none⟩)]), (82, .pointer (some ⟨(φ17 36), 0, none⟩)), (6, .pointer (some ⟨(φ17 36), 0, none⟩))]) (fun φ17 xs17 => [((φ17 18), .cells #[.int .u64 ((a - a : Nat) : Int), .pointer (some ⟨ka1, 0, none⟩), .pointer (some ⟨ka2, 0, none⟩)] 87), ((φ17 34), .cells #[.int .u64 ((b - a : Nat) : Int), .pointer none, .pointer none] 87), ((φ17 36), .cells #[.int .u64 ((n + a : Nat) : Int), .pointer (some ⟨(φ17 18), 0, none⟩), .pointer (some ⟨(φ17 34), 0, none⟩)] 87)]) s ⟨hlk, ⟨hr, trivial⟩⟩ (by kernel_rfl) (by kernel_rfl) (fun _ _ => by kernel_rfl) (fun _ _ => by kernel_rfl) ⟨fun _ _ => by kernel_rfl, fun _ _ => by kernel_rfl, fun _ _ => by kernel_rfl, fun _ _ => by kernel_rfl⟩ (fun _ _ _ => by kernel_rfl) (fun _ _ => by kernel_rfl) (fun _ _ => by kernel_rfl) (fun _ _ => by kernel_rfl) (fun _ _ => by kernel_rfl) (fun _ _ => by kernel_rfl) ⟨kcast (A := ∀ (φ17 : Nat → Nat) (xs17 : Xs), (.int .u64 (IntKind.wrap .u64 (((n : Nat) : Int) + ((a : Nat) : Int))) : Value) = .int .u64 ((n + a : Nat) : Int)) (by kernel_rfl) (fun φ17 xs17 => congrArg (Value.int .u64) ((nat_addU (a := n) (b := a) (by have hq0 := of_decide_eq_false hc9; omega)))), ⟨kcast (A := ∀ (φ17 : Nat → Nat) (xs17 : Xs), (.int .u64 (IntKind.wrap .u64 (((a : Nat) : Int) - ((a : Nat) : Int))) : Value) = .int .u64 ((a - a : Nat) : Int)) (by kernel_rfl) (fun φ17 xs17 => congrArg (Value.int .u64) ((nat_subU (a := a) (b := a) (by have hq0 := of_decide_eq_false hc9; omega) (by have hq0 := of_decide_eq_false hc9; omega)))), ⟨kcast (A := ∀ (φ17 : Nat → Nat) (xs17 : Xs), (.int .u64 (IntKind.wrap .u64 (((b : Nat) : Int) - ((a : Nat) : Int))) : Value) = .int .u64 ((b - a : Nat) : Int)) (by kernel_rfl) (fun φ17 xs17 => congrArg (Value.int .u64) ((nat_subU (a := b) (b := a) (by have hq0 := of_decide_eq_false hc9; omega) (by have hq0 := of_decide_eq_false hc9; omega)))), trivial⟩⟩⟩ trivial (by kernel_rfl) trivial ?k17
     case k17 =>
      rintro φ17 xs17 I17 w17 le17 s 
      replace ha1 := RE.mono le17 ha1
      replace ha2 := RE.mono le17 ha2
      replace hl0 := RE.mono le17 hl0
      replace hr0 := RE.mono le17 hr0
      replace hlk := le17 _ _ hlk
      replace hr := le17 _ _ hr
      refine wp_ret ?_
      refine ret_rule (C := []) [((φ17 18), .cells #[.int .u64 ((a - a : Nat) : Int), .pointer (some ⟨ka1, 0, none⟩), .pointer (some ⟨ka2, 0, none⟩)] 87), ((φ17 34), .cells #[.int .u64 ((b - a : Nat) : Int), .pointer none, .pointer none] 87), ((φ17 36), .cells #[.int .u64 ((n + a : Nat) : Int), .pointer (some ⟨(φ17 18), 0, none⟩), .pointer (some ⟨(φ17 34), 0, none⟩)] 87)] [] (.pointer (some ⟨(φ17 36), 0, none⟩)) [] [] s trivial (by kernel_rfl) ?_
      obtain ⟨I18, le18, hk18, s⟩ := s.freezeAt 0 (φ17 18) (.cells #[.int .u64 ((a - a : Nat) : Int), .pointer (some ⟨ka1, 0, none⟩), .pointer (some ⟨ka2, 0, none⟩)] 87) [((φ17 34), .cells #[.int .u64 ((b - a : Nat) : Int), .pointer none, .pointer none] 87), ((φ17 36), .cells #[.int .u64 ((n + a : Nat) : Int), .pointer (some ⟨(φ17 18), 0, none⟩), .pointer (some ⟨(φ17 34), 0, none⟩)] 87)] (by kernel_rfl) (by kernel_rfl)
      replace ha1 := RE.mono le18 ha1
      replace ha2 := RE.mono le18 ha2
      replace hl0 := RE.mono le18 hl0
      replace hr0 := RE.mono le18 hr0
      replace hlk := le18 _ _ hlk
      replace hr := le18 _ _ hr
      obtain ⟨I19, le19, hk19, s⟩ := s.freezeAt 0 (φ17 34) (.cells #[.int .u64 ((b - a : Nat) : Int), .pointer none, .pointer none] 87) [((φ17 36), .cells #[.int .u64 ((n + a : Nat) : Int), .pointer (some ⟨(φ17 18), 0, none⟩), .pointer (some ⟨(φ17 34), 0, none⟩)] 87)] (by kernel_rfl) (by kernel_rfl)
      replace ha1 := RE.mono le19 ha1
      replace ha2 := RE.mono le19 ha2
      replace hl0 := RE.mono le19 hl0
      replace hr0 := RE.mono le19 hr0
      replace hlk := le19 _ _ hlk
      replace hr := le19 _ _ hr
      replace hk18 := le19 _ _ hk18
      obtain ⟨I20, le20, hk20, s⟩ := s.freezeAt 0 (φ17 36) (.cells #[.int .u64 ((n + a : Nat) : Int), .pointer (some ⟨(φ17 18), 0, none⟩), .pointer (some ⟨(φ17 34), 0, none⟩)] 87) [] (by kernel_rfl) (by kernel_rfl)
      replace ha1 := RE.mono le20 ha1
      replace ha2 := RE.mono le20 ha2
      replace hl0 := RE.mono le20 hl0
      replace hr0 := RE.mono le20 hr0
      replace hlk := le20 _ _ hlk
      replace hr := le20 _ _ hr
      replace hk18 := le20 _ _ hk18
      replace hk19 := le20 _ _ hk19
      have hcm := of_decide_eq_false hc9
      exact ⟨_, _, _, rfl, s, ⟨_, rfl, by rw [mk_node9 (l := E.node a a1 a2) (r := E.leaf b) (m := a) (fun q => by cases q.1) (show min a b = a by omega)]; exact ⟨_, _, hk20, ⟨_, _, hk18, ha1, ha2⟩, hk19⟩⟩⟩
  | node b b1 b2 =>
   have hna := hnl
   have hta := htl
   have hl0 : RE _ (E.node a a1 a2) ka := hl
   have hab : a ≤ (E.node a a1 a2).top := hbl
   obtain ⟨ka1, ka2, hlk, ha1, ha2⟩ := hl
   have hnb := hnr
   have htb := htr
   have hr0 : RE _ (E.node b b1 b2) kb := hr
   have hbb : b ≤ (E.node b b1 b2).top := hbr
   obtain ⟨kb1, kb2, hrk, hb1, hb2⟩ := hr
   refine enter_rule 83 [(0, .int .u64 ((n : Nat) : Int)), (1, .pointer (some ⟨ka, 0, none⟩)), (2, .pointer (some ⟨kb, 0, none⟩))] Try.func70 rfl (by kernel_rfl) ?_
   intro w s
   refine wp_seq ?_
   refine region_rule ?_
   refine ops_rule (C := []) [] [] 1 [] 0 (fun φ1 => [(6, .pointer none)]) (fun φ1 => []) (fun φ1 => []) s trivial (fun φ1 => by kernel_rfl) ?_
   intro φ1 w1 s
   refine ops_done (by kernel_rfl) ?_
   refine wp_seq ?_
   refine wp_seq ?_
   refine draw_rule (C := [(ka, .cells #[.int .u64 ((a : Nat) : Int), .pointer (some ⟨ka1, 0, none⟩), .pointer (some ⟨ka2, 0, none⟩)] 87)]) ⟨(fun φ2 xs2 => [.look 0 [] [], .look 0 [] [], .look 0 [] [], .look 0 [.c 0] [ka], .look 0 [] [], .look 0 [] [], .skip, .skip, .skip, .skip, .skip, .look 0 [] [], .look 0 [] [], .skip, .skip, .skip, .skip, .skip, .skip, .skip, .skip, .skip, .look 0 [] []]), (fun φ2 xs2 => [.pointer (some ⟨ka, 0, none⟩), .pointer (some ⟨ka, 0, none⟩), .pointer (some ⟨ka, 1, none⟩), .pointer (some ⟨ka1, 0, none⟩), .bool false, .bool false, undef, undef, undef, undef, undef, .bool false, .bool false, undef, undef, undef, undef, undef, undef, undef, undef, undef, .bool false]), (fun φ2 xs2 => [[]]), (fun φ2 xs2 => [[default, default, default, default, default, default, default, default, default, default, default, default, default, default, default, default, default, default, default, default, default, default, default]]), [], [1, 1, 1, 1, 1, 1, 0, 0, 0, 0, 0, 1, 1, 0, 0, 0, 0, 0, 0, 0, 0, 0, 1]⟩ (fun j => ([MP.any, MP.any, MP.any, MP.any, MP.any, MP.any, MP.any, MP.any, MP.any, MP.any, MP.any, MP.any, MP.any, MP.any, MP.any, MP.any, MP.any, MP.any, MP.any, MP.any, MP.any, MP.any, MP.any] : List MP).getD j MP.any) [] [] [] (fun φ2 xs2 => []) (fun φ2 xs2 => [(8, .pointer (some ⟨ka, 0, none⟩)), (9, .pointer (some ⟨ka, 0, none⟩)), (10, .pointer (some ⟨ka, 1, none⟩)), (11, .pointer (some ⟨ka1, 0, none⟩)), (12, .bool false), (13, .bool false), (14, undef), (15, undef), (16, undef), (17, undef), (18, undef), (19, .bool false), (20, .bool false), (21, undef), (22, undef), (23, undef), (24, undef), (25, undef), (26, undef), (27, undef), (28, undef), (29, undef), (30, .bool false)]) (fun φ2 xs2 => []) s ⟨hlk, trivial⟩ (by kernel_rfl) (by kernel_rfl) (fun _ _ => by kernel_rfl) (fun _ _ => by kernel_rfl) ⟨fun _ _ => by kernel_rfl, fun _ _ => by kernel_rfl, fun _ _ => by kernel_rfl, fun _ _ => by kernel_rfl⟩ (fun _ _ _ => by kernel_rfl) (fun _ _ => by kernel_rfl) (fun _ _ => by kernel_rfl) (fun _ _ => by kernel_rfl) (fun _ _ => by kernel_rfl) (fun _ _ => by kernel_rfl) trivial trivial (by kernel_rfl) trivial ?k2
   case k2 =>
    rintro φ2 xs2 I2 w2 le2 s 
    replace ha1 := RE.mono le2 ha1
    replace ha2 := RE.mono le2 ha2
    replace hl0 := RE.mono le2 hl0
    replace hb1 := RE.mono le2 hb1
    replace hb2 := RE.mono le2 hb2
    replace hr0 := RE.mono le2 hr0
    replace hlk := le2 _ _ hlk
    replace hrk := le2 _ _ hrk
    refine cond_false_rule (b := false) (by kernel_rfl) rfl ?_
    refine wp_skip ?_
    refine wp_seq ?_
    refine region_rule ?_
    refine ops_rule (C := []) [] [] 1 [] 0 (fun φ3 => [(38, .pointer (some ⟨ka, 0, none⟩))]) (fun φ3 => []) (fun φ3 => []) s trivial (fun φ3 => by kernel_rfl) ?_
    intro φ3 w3 s
    refine call_rule (some 39) s (rminB_c hl0 hna hta) (by kernel_rfl) ?_
    intro v4 I4 w4 le4 h4 s
    replace ha1 := RE.mono le4 ha1
    replace ha2 := RE.mono le4 ha2
    replace hb1 := RE.mono le4 hb1
    replace hb2 := RE.mono le4 hb2
    replace hr0 := RE.mono le4 hr0
    replace hlk := le4 _ _ hlk
    replace hrk := le4 _ _ hrk
    obtain rfl := h4
    refine ops_rule (C := []) [] [] 1 [] 0 (fun φ5 => [(7, .int .u64 ((a : Nat) : Int))]) (fun φ5 => []) (fun φ5 => []) s trivial (fun φ5 => by kernel_rfl) ?_
    intro φ5 w5 s
    refine ops_done (by kernel_rfl) ?_
    refine wp_seq ?_
    refine wp_seq ?_
    refine region_rule ?_
    refine ops_rule (C := []) [] [] 1 [] 0 (fun φ6 => [(40, .pointer (some ⟨kb, 0, none⟩))]) (fun φ6 => []) (fun φ6 => []) s trivial (fun φ6 => by kernel_rfl) ?_
    intro φ6 w6 s
    refine call_rule (some 41) s (rminB_c hr0 hnb htb) (by kernel_rfl) ?_
    intro v7 I7 w7 le7 h7 s
    replace ha1 := RE.mono le7 ha1
    replace ha2 := RE.mono le7 ha2
    replace hb1 := RE.mono le7 hb1
    replace hb2 := RE.mono le7 hb2
    replace hr0 := RE.mono le7 hr0
    replace hlk := le7 _ _ hlk
    replace hrk := le7 _ _ hrk
    obtain rfl := h7
    refine ops_rule (C := []) [] [] 2 [] 0 (fun φ8 => [(43, .bool (decide (((b : Nat) : Int) < ((a : Nat) : Int)))), (42, .int .u64 ((a : Nat) : Int))]) (fun φ8 => []) (fun φ8 => []) s trivial (fun φ8 => by kernel_rfl) ?_
    intro φ8 w8 s
    rw [nat_lss (a := b) (b := a)]
    refine ops_done (by kernel_rfl) ?_
    rcases Bool.eq_false_or_eq_true (decide (b < a)) with hc9 | hc9
    ·
     rw [hc9]
     refine cond_true_rule (b := true) (by kernel_rfl) rfl ?_
     refine region_rule ?_
     refine ops_rule (C := []) [] [] 1 [] 0 (fun φ10 => [(44, .pointer (some ⟨kb, 0, none⟩))]) (fun φ10 => []) (fun φ10 => []) s trivial (fun φ10 => by kernel_rfl) ?_
     intro φ10 w10 s
     refine call_rule (some 45) s (rminB_c hr0 hnb htb) (by kernel_rfl) ?_
     intro v11 I11 w11 le11 h11 s
     replace ha1 := RE.mono le11 ha1
     replace ha2 := RE.mono le11 ha2
     replace hb1 := RE.mono le11 hb1
     replace hb2 := RE.mono le11 hb2
     replace hlk := le11 _ _ hlk
     replace hrk := le11 _ _ hrk
     obtain rfl := h11
     refine ops_rule (C := []) [] [] 1 [] 0 (fun φ12 => [(7, .int .u64 ((b : Nat) : Int))]) (fun φ12 => []) (fun φ12 => []) s trivial (fun φ12 => by kernel_rfl) ?_
     intro φ12 w12 s
     refine ops_done (by kernel_rfl) ?_
     refine wp_seq ?_
     refine draw_rule (C := [(ka, .cells #[.int .u64 ((a : Nat) : Int), .pointer (some ⟨ka1, 0, none⟩), .pointer (some ⟨ka2, 0, none⟩)] 87), (kb, .cells #[.int .u64 ((b : Nat) : Int), .pointer (some ⟨kb1, 0, none⟩), .pointer (some ⟨kb2, 0, none⟩)] 87)]) ⟨(fun φ13 xs13 => [.look 0 [] [], .look 0 [] [], .sub 0 [] [] (.int .u64 (IntKind.wrap .u64 (((n : Nat) : Int) + ((b : Nat) : Int)))), .look 0 [] [], .look 0 [] [], .look 0 [] [], .look 0 [.c 0] [ka], .look 0 [] [], .sub 0 [] [] (.int .u64 (IntKind.wrap .u64 (((a : Nat) : Int) - ((b : Nat) : Int)))), .look 0 [] [], .look 0 [] [], .look 0 [] [], .look 0 [.c 0] [ka], .look 0 [] [], .look 0 [] [], .look 0 [] [], .look 0 [.c 0] [ka], .look 0 [] [], .new, .look 0 [] [], .look 0 [] [], .look 0 [] [], .look 0 [.c 1] [kb], .look 0 [] [], .sub 0 [] [] (.int .u64 (IntKind.wrap .u64 (((b : Nat) : Int) - ((b : Nat) : Int)))), .look 0 [] [], .look 0 [] [], .look 0 [] [], .look 0 [.c 1] [kb], .look 0 [] [], .look 0 [] [], .look 0 [] [], .look 0 [.c 1] [kb], .look 0 [] [], .new, .look 0 [] [], .new, .look 0 [] []]), (fun φ13 xs13 => [.int .u64 ((n : Nat) : Int), .int .u64 ((b : Nat) : Int), .int .u64 ((n + b : Nat) : Int), .pointer (some ⟨ka, 0, none⟩), .pointer (some ⟨ka, 0, none⟩), .pointer (some ⟨ka, 0, none⟩), .int .u64 ((a : Nat) : Int), .int .u64 ((b : Nat) : Int), .int .u64 ((a - b : Nat) : Int), .pointer (some ⟨ka, 0, none⟩), .pointer (some ⟨ka, 0, none⟩), .pointer (some ⟨ka, 1, none⟩), .pointer (some ⟨ka1, 0, none⟩), .pointer (some ⟨ka, 0, none⟩), .pointer (some ⟨ka, 0, none⟩), .pointer (some ⟨ka, 2, none⟩), .pointer (some ⟨ka2, 0, none⟩), .agg #[.int .u64 ((a - b : Nat) : Int), .pointer (some ⟨ka1, 0, none⟩), .pointer (some ⟨ka2, 0, none⟩)], .pointer (some ⟨(φ13 18), 0, none⟩), .pointer (some ⟨kb, 0, none⟩), .pointer (some ⟨kb, 0, none⟩), .pointer (some ⟨kb, 0, none⟩), .int .u64 ((b : Nat) : Int), .int .u64 ((b : Nat) : Int), .int .u64 ((b - b : Nat) : Int), .pointer (some ⟨kb, 0, none⟩), .pointer (some ⟨kb, 0, none⟩), .pointer (some ⟨kb, 1, none⟩), .pointer (some ⟨kb1, 0, none⟩), .pointer (some ⟨kb, 0, none⟩), .pointer (some ⟨kb, 0, none⟩), .pointer (some ⟨kb, 2, none⟩), .pointer (some ⟨kb2, 0, none⟩), .agg #[.int .u64 ((b - b : Nat) : Int), .pointer (some ⟨kb1, 0, none⟩), .pointer (some ⟨kb2, 0, none⟩)], .pointer (some ⟨(φ13 34), 0, none⟩), .agg #[.int .u64 ((n + b : Nat) : Int), .pointer (some ⟨(φ13 18), 0, none⟩), .pointer (some ⟨(φ13 34), 0, none⟩)], .pointer (some ⟨(φ13 36), 0, none⟩), .pointer (some ⟨(φ13 36), 0, none⟩)]), (fun φ13 xs13 => [[]]), (fun φ13 xs13 => [[default, default, default, default, default, default, default, default, default, default, default, default, default, default, default, default, default, default, .cells #[.int .u64 ((a - b : Nat) : Int), .pointer (some ⟨ka1, 0, none⟩), .pointer (some ⟨ka2, 0, none⟩)] 87, default, default, default, default, default, default, default, default, default, default, default, default, default, default, default, .cells #[.int .u64 ((b - b : Nat) : Int), .pointer (some ⟨kb1, 0, none⟩), .pointer (some ⟨kb2, 0, none⟩)] 87, default, .cells #[.int .u64 ((n + b : Nat) : Int), .pointer (some ⟨(φ13 18), 0, none⟩), .pointer (some ⟨(φ13 34), 0, none⟩)] 87, default]]), [], [1, 1, 5, 1, 1, 1, 1, 1, 5, 1, 1, 1, 1, 1, 1, 1, 1, 1, 2, 1, 1, 1, 1, 1, 5, 1, 1, 1, 1, 1, 1, 1, 1, 1, 2, 1, 2, 1]⟩ (fun j => ([MP.any, MP.any, MP.any, MP.any, MP.any, MP.any, MP.any, MP.any, MP.any, MP.any, MP.any, MP.any, MP.any, MP.any, MP.any, MP.any, MP.any, MP.any, MP.any, MP.any, MP.any, MP.any, MP.any, MP.any, MP.any, MP.any, MP.any, MP.any, MP.any, MP.any, MP.any, MP.any, MP.any, MP.any, MP.any, MP.any, MP.any, MP.any] : List MP).getD j MP.any) [] [2, 8, 24] [] (fun φ13 xs13 => []) (fun φ13 xs13 => [(46, .int .u64 ((n : Nat) : Int)), (47, .int .u64 ((b : Nat) : Int)), (48, .int .u64 ((n + b : Nat) : Int)), (49, .pointer (some ⟨ka, 0, none⟩)), (50, .pointer (some ⟨ka, 0, none⟩)), (51, .pointer (some ⟨ka, 0, none⟩)), (52, .int .u64 ((a : Nat) : Int)), (53, .int .u64 ((b : Nat) : Int)), (54, .int .u64 ((a - b : Nat) : Int)), (55, .pointer (some ⟨ka, 0, none⟩)), (56, .pointer (some ⟨ka, 0, none⟩)), (57, .pointer (some ⟨ka, 1, none⟩)), (58, .pointer (some ⟨ka1, 0, none⟩)), (59, .pointer (some ⟨ka, 0, none⟩)), (60, .pointer (some ⟨ka, 0, none⟩)), (61, .pointer (some ⟨ka, 2, none⟩)), (62, .pointer (some ⟨ka2, 0, none⟩)), (63, .agg #[.int .u64 ((a - b : Nat) : Int), .pointer (some ⟨ka1, 0, none⟩), .pointer (some ⟨ka2, 0, none⟩)]), (64, .pointer (some ⟨(φ13 18), 0, none⟩)), (65, .pointer (some ⟨kb, 0, none⟩)), (66, .pointer (some ⟨kb, 0, none⟩)), (67, .pointer (some ⟨kb, 0, none⟩)), (68, .int .u64 ((b : Nat) : Int)), (69, .int .u64 ((b : Nat) : Int)), (70, .int .u64 ((b - b : Nat) : Int)), (71, .pointer (some ⟨kb, 0, none⟩)), (72, .pointer (some ⟨kb, 0, none⟩)), (73, .pointer (some ⟨kb, 1, none⟩)), (74, .pointer (some ⟨kb1, 0, none⟩)), (75, .pointer (some ⟨kb, 0, none⟩)), (76, .pointer (some ⟨kb, 0, none⟩)), (77, .pointer (some ⟨kb, 2, none⟩)), (78, .pointer (some ⟨kb2, 0, none⟩)), (79, .agg #[.int .u64 ((b - b : Nat) : Int), .pointer (some ⟨kb1, 0, none⟩), .pointer (some ⟨kb2, 0, none⟩)]), (80, .pointer (some ⟨(φ13 34), 0, none⟩)), (81, .agg #[.int .u64 ((n + b : Nat) : Int), .pointer (some ⟨(φ13 18), 0, none⟩), .pointer (some ⟨(φ13 34), 0, none⟩)]), (82, .pointer (some ⟨(φ13 36), 0, none⟩)), (6, .pointer (some ⟨(φ13 36), 0, none⟩))]) (fun φ13 xs13 => [((φ13 18), .cells #[.int .u64 ((a - b : Nat) : Int), .pointer (some ⟨ka1, 0, none⟩), .pointer (some ⟨ka2, 0, none⟩)] 87), ((φ13 34), .cells #[.int .u64 ((b - b : Nat) : Int), .pointer (some ⟨kb1, 0, none⟩), .pointer (some ⟨kb2, 0, none⟩)] 87), ((φ13 36), .cells #[.int .u64 ((n + b : Nat) : Int), .pointer (some ⟨(φ13 18), 0, none⟩), .pointer (some ⟨(φ13 34), 0, none⟩)] 87)]) s ⟨hlk, ⟨hrk, trivial⟩⟩ (by kernel_rfl) (by kernel_rfl) (fun _ _ => by kernel_rfl) (fun _ _ => by kernel_rfl) ⟨fun _ _ => by kernel_rfl, fun _ _ => by kernel_rfl, fun _ _ => by kernel_rfl, fun _ _ => by kernel_rfl⟩ (fun _ _ _ => by kernel_rfl) (fun _ _ => by kernel_rfl) (fun _ _ => by kernel_rfl) (fun _ _ => by kernel_rfl) (fun _ _ => by kernel_rfl) (fun _ _ => by kernel_rfl) ⟨kcast (A := ∀ (φ13 : Nat → Nat) (xs13 : Xs), (.int .u64 (IntKind.wrap .u64 (((n : Nat) : Int) + ((b : Nat) : Int))) : Value) = .int .u64 ((n + b : Nat) : Int)) (by kernel_rfl) (fun φ13 xs13 => congrArg (Value.int .u64) ((nat_addU (a := n) (b := b) (by have hq0 := of_decide_eq_true hc9; omega)))), ⟨kcast (A := ∀ (φ13 : Nat → Nat) (xs13 : Xs), (.int .u64 (IntKind.wrap .u64 (((a : Nat) : Int) - ((b : Nat) : Int))) : Value) = .int .u64 ((a - b : Nat) : Int)) (by kernel_rfl) (fun φ13 xs13 => congrArg (Value.int .u64) ((nat_subU (a := a) (b := b) (by have hq0 := of_decide_eq_true hc9; omega) (by have hq0 := of_decide_eq_true hc9; omega)))), ⟨kcast (A := ∀ (φ13 : Nat → Nat) (xs13 : Xs), (.int .u64 (IntKind.wrap .u64 (((b : Nat) : Int) - ((b : Nat) : Int))) : Value) = .int .u64 ((b - b : Nat) : Int)) (by kernel_rfl) (fun φ13 xs13 => congrArg (Value.int .u64) ((nat_subU (a := b) (b := b) (by have hq0 := of_decide_eq_true hc9; omega) (by have hq0 := of_decide_eq_true hc9; omega)))), trivial⟩⟩⟩ trivial (by kernel_rfl) trivial ?k13
     case k13 =>
      rintro φ13 xs13 I13 w13 le13 s 
      replace ha1 := RE.mono le13 ha1
      replace ha2 := RE.mono le13 ha2
      replace hb1 := RE.mono le13 hb1
      replace hb2 := RE.mono le13 hb2
      replace hlk := le13 _ _ hlk
      replace hrk := le13 _ _ hrk
      refine wp_ret ?_
      refine ret_rule (C := []) [((φ13 18), .cells #[.int .u64 ((a - b : Nat) : Int), .pointer (some ⟨ka1, 0, none⟩), .pointer (some ⟨ka2, 0, none⟩)] 87), ((φ13 34), .cells #[.int .u64 ((b - b : Nat) : Int), .pointer (some ⟨kb1, 0, none⟩), .pointer (some ⟨kb2, 0, none⟩)] 87), ((φ13 36), .cells #[.int .u64 ((n + b : Nat) : Int), .pointer (some ⟨(φ13 18), 0, none⟩), .pointer (some ⟨(φ13 34), 0, none⟩)] 87)] [] (.pointer (some ⟨(φ13 36), 0, none⟩)) [] [] s trivial (by kernel_rfl) ?_
      obtain ⟨I14, le14, hk14, s⟩ := s.freezeAt 0 (φ13 18) (.cells #[.int .u64 ((a - b : Nat) : Int), .pointer (some ⟨ka1, 0, none⟩), .pointer (some ⟨ka2, 0, none⟩)] 87) [((φ13 34), .cells #[.int .u64 ((b - b : Nat) : Int), .pointer (some ⟨kb1, 0, none⟩), .pointer (some ⟨kb2, 0, none⟩)] 87), ((φ13 36), .cells #[.int .u64 ((n + b : Nat) : Int), .pointer (some ⟨(φ13 18), 0, none⟩), .pointer (some ⟨(φ13 34), 0, none⟩)] 87)] (by kernel_rfl) (by kernel_rfl)
      replace ha1 := RE.mono le14 ha1
      replace ha2 := RE.mono le14 ha2
      replace hb1 := RE.mono le14 hb1
      replace hb2 := RE.mono le14 hb2
      replace hlk := le14 _ _ hlk
      replace hrk := le14 _ _ hrk
      obtain ⟨I15, le15, hk15, s⟩ := s.freezeAt 0 (φ13 34) (.cells #[.int .u64 ((b - b : Nat) : Int), .pointer (some ⟨kb1, 0, none⟩), .pointer (some ⟨kb2, 0, none⟩)] 87) [((φ13 36), .cells #[.int .u64 ((n + b : Nat) : Int), .pointer (some ⟨(φ13 18), 0, none⟩), .pointer (some ⟨(φ13 34), 0, none⟩)] 87)] (by kernel_rfl) (by kernel_rfl)
      replace ha1 := RE.mono le15 ha1
      replace ha2 := RE.mono le15 ha2
      replace hb1 := RE.mono le15 hb1
      replace hb2 := RE.mono le15 hb2
      replace hlk := le15 _ _ hlk
      replace hrk := le15 _ _ hrk
      replace hk14 := le15 _ _ hk14
      obtain ⟨I16, le16, hk16, s⟩ := s.freezeAt 0 (φ13 36) (.cells #[.int .u64 ((n + b : Nat) : Int), .pointer (some ⟨(φ13 18), 0, none⟩), .pointer (some ⟨(φ13 34), 0, none⟩)] 87) [] (by kernel_rfl) (by kernel_rfl)
      replace ha1 := RE.mono le16 ha1
      replace ha2 := RE.mono le16 ha2
      replace hb1 := RE.mono le16 hb1
      replace hb2 := RE.mono le16 hb2
      replace hlk := le16 _ _ hlk
      replace hrk := le16 _ _ hrk
      replace hk14 := le16 _ _ hk14
      replace hk15 := le16 _ _ hk15
      have hcm := of_decide_eq_true hc9
      exact ⟨_, _, _, rfl, s, ⟨_, rfl, by rw [mk_node9 (l := E.node a a1 a2) (r := E.node b b1 b2) (m := b) (fun q => by cases q.1) (show min a b = b by omega)]; exact ⟨_, _, hk16, ⟨_, _, hk14, ha1, ha2⟩, ⟨_, _, hk15, hb1, hb2⟩⟩⟩⟩
    ·
     rw [hc9]
     refine cond_false_rule (b := false) (by kernel_rfl) rfl ?_
     refine wp_skip ?_
     refine wp_seq ?_
     refine draw_rule (C := [(ka, .cells #[.int .u64 ((a : Nat) : Int), .pointer (some ⟨ka1, 0, none⟩), .pointer (some ⟨ka2, 0, none⟩)] 87), (kb, .cells #[.int .u64 ((b : Nat) : Int), .pointer (some ⟨kb1, 0, none⟩), .pointer (some ⟨kb2, 0, none⟩)] 87)]) ⟨(fun φ17 xs17 => [.look 0 [] [], .look 0 [] [], .sub 0 [] [] (.int .u64 (IntKind.wrap .u64 (((n : Nat) : Int) + ((a : Nat) : Int)))), .look 0 [] [], .look 0 [] [], .look 0 [] [], .look 0 [.c 0] [ka], .look 0 [] [], .sub 0 [] [] (.int .u64 (IntKind.wrap .u64 (((a : Nat) : Int) - ((a : Nat) : Int)))), .look 0 [] [], .look 0 [] [], .look 0 [] [], .look 0 [.c 0] [ka], .look 0 [] [], .look 0 [] [], .look 0 [] [], .look 0 [.c 0] [ka], .look 0 [] [], .new, .look 0 [] [], .look 0 [] [], .look 0 [] [], .look 0 [.c 1] [kb], .look 0 [] [], .sub 0 [] [] (.int .u64 (IntKind.wrap .u64 (((b : Nat) : Int) - ((a : Nat) : Int)))), .look 0 [] [], .look 0 [] [], .look 0 [] [], .look 0 [.c 1] [kb], .look 0 [] [], .look 0 [] [], .look 0 [] [], .look 0 [.c 1] [kb], .look 0 [] [], .new, .look 0 [] [], .new, .look 0 [] []]), (fun φ17 xs17 => [.int .u64 ((n : Nat) : Int), .int .u64 ((a : Nat) : Int), .int .u64 ((n + a : Nat) : Int), .pointer (some ⟨ka, 0, none⟩), .pointer (some ⟨ka, 0, none⟩), .pointer (some ⟨ka, 0, none⟩), .int .u64 ((a : Nat) : Int), .int .u64 ((a : Nat) : Int), .int .u64 ((a - a : Nat) : Int), .pointer (some ⟨ka, 0, none⟩), .pointer (some ⟨ka, 0, none⟩), .pointer (some ⟨ka, 1, none⟩), .pointer (some ⟨ka1, 0, none⟩), .pointer (some ⟨ka, 0, none⟩), .pointer (some ⟨ka, 0, none⟩), .pointer (some ⟨ka, 2, none⟩), .pointer (some ⟨ka2, 0, none⟩), .agg #[.int .u64 ((a - a : Nat) : Int), .pointer (some ⟨ka1, 0, none⟩), .pointer (some ⟨ka2, 0, none⟩)], .pointer (some ⟨(φ17 18), 0, none⟩), .pointer (some ⟨kb, 0, none⟩), .pointer (some ⟨kb, 0, none⟩), .pointer (some ⟨kb, 0, none⟩), .int .u64 ((b : Nat) : Int), .int .u64 ((a : Nat) : Int), .int .u64 ((b - a : Nat) : Int), .pointer (some ⟨kb, 0, none⟩), .pointer (some ⟨kb, 0, none⟩), .pointer (some ⟨kb, 1, none⟩), .pointer (some ⟨kb1, 0, none⟩), .pointer (some ⟨kb, 0, none⟩), .pointer (some ⟨kb, 0, none⟩), .pointer (some ⟨kb, 2, none⟩), .pointer (some ⟨kb2, 0, none⟩), .agg #[.int .u64 ((b - a : Nat) : Int), .pointer (some ⟨kb1, 0, none⟩), .pointer (some ⟨kb2, 0, none⟩)], .pointer (some ⟨(φ17 34), 0, none⟩), .agg #[.int .u64 ((n + a : Nat) : Int), .pointer (some ⟨(φ17 18), 0, none⟩), .pointer (some ⟨(φ17 34), 0, none⟩)], .pointer (some ⟨(φ17 36), 0, none⟩), .pointer (some ⟨(φ17 36), 0, none⟩)]), (fun φ17 xs17 => [[]]), (fun φ17 xs17 => [[default, default, default, default, default, default, default, default, default, default, default, default, default, default, default, default, default, default, .cells #[.int .u64 ((a - a : Nat) : Int), .pointer (some ⟨ka1, 0, none⟩), .pointer (some ⟨ka2, 0, none⟩)] 87, default, default, default, default, default, default, default, default, default, default, default, default, default, default, default, .cells #[.int .u64 ((b - a : Nat) : Int), .pointer (some ⟨kb1, 0, none⟩), .pointer (some ⟨kb2, 0, none⟩)] 87, default, .cells #[.int .u64 ((n + a : Nat) : Int), .pointer (some ⟨(φ17 18), 0, none⟩), .pointer (some ⟨(φ17 34), 0, none⟩)] 87, default]]), [], [1, 1, 5, 1, 1, 1, 1, 1, 5, 1, 1, 1, 1, 1, 1, 1, 1, 1, 2, 1, 1, 1, 1, 1, 5, 1, 1, 1, 1, 1, 1, 1, 1, 1, 2, 1, 2, 1]⟩ (fun j => ([MP.any, MP.any, MP.any, MP.any, MP.any, MP.any, MP.any, MP.any, MP.any, MP.any, MP.any, MP.any, MP.any, MP.any, MP.any, MP.any, MP.any, MP.any, MP.any, MP.any, MP.any, MP.any, MP.any, MP.any, MP.any, MP.any, MP.any, MP.any, MP.any, MP.any, MP.any, MP.any, MP.any, MP.any, MP.any, MP.any, MP.any, MP.any] : List MP).getD j MP.any) [] [2, 8, 24] [] (fun φ17 xs17 => []) (fun φ17 xs17 => [(46, .int .u64 ((n : Nat) : Int)), (47, .int .u64 ((a : Nat) : Int)), (48, .int .u64 ((n + a : Nat) : Int)), (49, .pointer (some ⟨ka, 0, none⟩)), (50, .pointer (some ⟨ka, 0, none⟩)), (51, .pointer (some ⟨ka, 0, none⟩)), (52, .int .u64 ((a : Nat) : Int)), (53, .int .u64 ((a : Nat) : Int)), (54, .int .u64 ((a - a : Nat) : Int)), (55, .pointer (some ⟨ka, 0, none⟩)), (56, .pointer (some ⟨ka, 0, none⟩)), (57, .pointer (some ⟨ka, 1, none⟩)), (58, .pointer (some ⟨ka1, 0, none⟩)), (59, .pointer (some ⟨ka, 0, none⟩)), (60, .pointer (some ⟨ka, 0, none⟩)), (61, .pointer (some ⟨ka, 2, none⟩)), (62, .pointer (some ⟨ka2, 0, none⟩)), (63, .agg #[.int .u64 ((a - a : Nat) : Int), .pointer (some ⟨ka1, 0, none⟩), .pointer (some ⟨ka2, 0, none⟩)]), (64, .pointer (some ⟨(φ17 18), 0, none⟩)), (65, .pointer (some ⟨kb, 0, none⟩)), (66, .pointer (some ⟨kb, 0, none⟩)), (67, .pointer (some ⟨kb, 0, none⟩)), (68, .int .u64 ((b : Nat) : Int)), (69, .int .u64 ((a : Nat) : Int)), (70, .int .u64 ((b - a : Nat) : Int)), (71, .pointer (some ⟨kb, 0, none⟩)), (72, .pointer (some ⟨kb, 0, none⟩)), (73, .pointer (some ⟨kb, 1, none⟩)), (74, .pointer (some ⟨kb1, 0, none⟩)), (75, .pointer (some ⟨kb, 0, none⟩)), (76, .pointer (some ⟨kb, 0, none⟩)), (77, .pointer (some ⟨kb, 2, none⟩)), (78, .pointer (some ⟨kb2, 0, none⟩)), (79, .agg #[.int .u64 ((b - a : Nat) : Int), .pointer (some ⟨kb1, 0, none⟩), .pointer (some ⟨kb2, 0, none⟩)]), (80, .pointer (some ⟨(φ17 34), 0, none⟩)), (81, .agg #[.int .u64 ((n + a : Nat) : Int), .pointer (some ⟨(φ17 18), 0, none⟩), .pointer (some ⟨(φ17 34), 0, none⟩)]), (82, .pointer (some ⟨(φ17 36), 0, none⟩)), (6, .pointer (some ⟨(φ17 36), 0, none⟩))]) (fun φ17 xs17 => [((φ17 18), .cells #[.int .u64 ((a - a : Nat) : Int), .pointer (some ⟨ka1, 0, none⟩), .pointer (some ⟨ka2, 0, none⟩)] 87), ((φ17 34), .cells #[.int .u64 ((b - a : Nat) : Int), .pointer (some ⟨kb1, 0, none⟩), .pointer (some ⟨kb2, 0, none⟩)] 87), ((φ17 36), .cells #[.int .u64 ((n + a : Nat) : Int), .pointer (some ⟨(φ17 18), 0, none⟩), .pointer (some ⟨(φ17 34), 0, none⟩)] 87)]) s ⟨hlk, ⟨hrk, trivial⟩⟩ (by kernel_rfl) (by kernel_rfl) (fun _ _ => by kernel_rfl) (fun _ _ => by kernel_rfl) ⟨fun _ _ => by kernel_rfl, fun _ _ => by kernel_rfl, fun _ _ => by kernel_rfl, fun _ _ => by kernel_rfl⟩ (fun _ _ _ => by kernel_rfl) (fun _ _ => by kernel_rfl) (fun _ _ => by kernel_rfl) (fun _ _ => by kernel_rfl) (fun _ _ => by kernel_rfl) (fun _ _ => by kernel_rfl) ⟨kcast (A := ∀ (φ17 : Nat → Nat) (xs17 : Xs), (.int .u64 (IntKind.wrap .u64 (((n : Nat) : Int) + ((a : Nat) : Int))) : Value) = .int .u64 ((n + a : Nat) : Int)) (by kernel_rfl) (fun φ17 xs17 => congrArg (Value.int .u64) ((nat_addU (a := n) (b := a) (by have hq0 := of_decide_eq_false hc9; omega)))), ⟨kcast (A := ∀ (φ17 : Nat → Nat) (xs17 : Xs), (.int .u64 (IntKind.wrap .u64 (((a : Nat) : Int) - ((a : Nat) : Int))) : Value) = .int .u64 ((a - a : Nat) : Int)) (by kernel_rfl) (fun φ17 xs17 => congrArg (Value.int .u64) ((nat_subU (a := a) (b := a) (by have hq0 := of_decide_eq_false hc9; omega) (by have hq0 := of_decide_eq_false hc9; omega)))), ⟨kcast (A := ∀ (φ17 : Nat → Nat) (xs17 : Xs), (.int .u64 (IntKind.wrap .u64 (((b : Nat) : Int) - ((a : Nat) : Int))) : Value) = .int .u64 ((b - a : Nat) : Int)) (by kernel_rfl) (fun φ17 xs17 => congrArg (Value.int .u64) ((nat_subU (a := b) (b := a) (by have hq0 := of_decide_eq_false hc9; omega) (by have hq0 := of_decide_eq_false hc9; omega)))), trivial⟩⟩⟩ trivial (by kernel_rfl) trivial ?k17
     case k17 =>
      rintro φ17 xs17 I17 w17 le17 s 
      replace ha1 := RE.mono le17 ha1
      replace ha2 := RE.mono le17 ha2
      replace hb1 := RE.mono le17 hb1
      replace hb2 := RE.mono le17 hb2
      refine wp_ret ?_
      refine ret_rule (C := []) [((φ17 18), .cells #[.int .u64 ((a - a : Nat) : Int), .pointer (some ⟨ka1, 0, none⟩), .pointer (some ⟨ka2, 0, none⟩)] 87), ((φ17 34), .cells #[.int .u64 ((b - a : Nat) : Int), .pointer (some ⟨kb1, 0, none⟩), .pointer (some ⟨kb2, 0, none⟩)] 87), ((φ17 36), .cells #[.int .u64 ((n + a : Nat) : Int), .pointer (some ⟨(φ17 18), 0, none⟩), .pointer (some ⟨(φ17 34), 0, none⟩)] 87)] [] (.pointer (some ⟨(φ17 36), 0, none⟩)) [] [] s trivial (by kernel_rfl) ?_
      obtain ⟨I18, le18, hk18, s⟩ := s.freezeAt 0 (φ17 18) (.cells #[.int .u64 ((a - a : Nat) : Int), .pointer (some ⟨ka1, 0, none⟩), .pointer (some ⟨ka2, 0, none⟩)] 87) [((φ17 34), .cells #[.int .u64 ((b - a : Nat) : Int), .pointer (some ⟨kb1, 0, none⟩), .pointer (some ⟨kb2, 0, none⟩)] 87), ((φ17 36), .cells #[.int .u64 ((n + a : Nat) : Int), .pointer (some ⟨(φ17 18), 0, none⟩), .pointer (some ⟨(φ17 34), 0, none⟩)] 87)] (by kernel_rfl) (by kernel_rfl)
      replace ha1 := RE.mono le18 ha1
      replace ha2 := RE.mono le18 ha2
      replace hb1 := RE.mono le18 hb1
      replace hb2 := RE.mono le18 hb2
      obtain ⟨I19, le19, hk19, s⟩ := s.freezeAt 0 (φ17 34) (.cells #[.int .u64 ((b - a : Nat) : Int), .pointer (some ⟨kb1, 0, none⟩), .pointer (some ⟨kb2, 0, none⟩)] 87) [((φ17 36), .cells #[.int .u64 ((n + a : Nat) : Int), .pointer (some ⟨(φ17 18), 0, none⟩), .pointer (some ⟨(φ17 34), 0, none⟩)] 87)] (by kernel_rfl) (by kernel_rfl)
      replace ha1 := RE.mono le19 ha1
      replace ha2 := RE.mono le19 ha2
      replace hb1 := RE.mono le19 hb1
      replace hb2 := RE.mono le19 hb2
      replace hk18 := le19 _ _ hk18
      obtain ⟨I20, le20, hk20, s⟩ := s.freezeAt 0 (φ17 36) (.cells #[.int .u64 ((n + a : Nat) : Int), .pointer (some ⟨(φ17 18), 0, none⟩), .pointer (some ⟨(φ17 34), 0, none⟩)] 87) [] (by kernel_rfl) (by kernel_rfl)
      replace ha1 := RE.mono le20 ha1
      replace ha2 := RE.mono le20 ha2
      replace hb1 := RE.mono le20 hb1
      replace hb2 := RE.mono le20 hb2
      replace hk18 := le20 _ _ hk18
      replace hk19 := le20 _ _ hk19
      have hcm := of_decide_eq_false hc9
      exact ⟨_, _, _, rfl, s, ⟨_, rfl, by rw [mk_node9 (l := E.node a a1 a2) (r := E.node b b1 b2) (m := a) (fun q => by cases q.1) (show min a b = a by omega)]; exact ⟨_, _, hk20, ⟨_, _, hk18, ha1, ha2⟩, ⟨_, _, hk19, hb1, hb2⟩⟩⟩⟩

end Go.Proofs.Ytgmigcmhnmmdkaa.Ev

/- The document's Make of ids. -/
set_option linter.all false
set_option maxRecDepth 100000
namespace Go.Proofs.Ytgmigcmhnmmdkaa.Ev
open Go.RowKit Go.Sep

def BSl (I : IM) (l : List UInt8) (v : Value) : Prop := ∃ a cap, v = .slice a l.length cap ∧ l.length ≤ cap ∧ ∀ j x, l[j]? = some x → ∃ b o cs T fr, a = some ⟨b, o, none⟩ ∧ I b = some (.cells cs T fr) ∧ cs[o + j]? = some (.int .u8 ((x.toNat : Nat) : Int))
theorem BSl.mono {I J : IM} (le : I.Le J) {l : List UInt8} {v : Value} (h : BSl I l v) : BSl J l v := by
  obtain ⟨a, cap, hv, hc, hr⟩ := h
  refine ⟨a, cap, hv, hc, fun j x hj => ?_⟩
  obtain ⟨b, o, cs, T, fr, h1, h2, h3⟩ := hr j x hj
  exact ⟨b, o, cs, T, fr, h1, le _ _ h2, h3⟩
theorem bsl_nil (I : IM) : BSl I [] (.slice none 0 0) := ⟨none, 0, rfl, Nat.le_refl _, fun j x h => by simp at h⟩
theorem bsl_cons {I : IM} {x : UInt8} {l : List UInt8} {v : Value} (h : BSl I (x :: l) v) : ∃ b o cap cs T fr, v = .slice (some ⟨b, o, none⟩) (l.length + 1) cap ∧ l.length + 1 ≤ cap ∧ I b = some (.cells cs T fr) ∧ cs[o]? = some (.int .u8 ((x.toNat : Nat) : Int)) ∧
    BSl I l (.slice (if cap = 1 then some ⟨b, o, none⟩ else some ⟨b, o + 1, none⟩) l.length (cap - 1)) := by
  obtain ⟨a, cap, hv, hc, hr⟩ := h
  obtain ⟨b, o, cs, T, fr, h1, h2, h3⟩ := hr 0 x rfl
  subst h1
  refine ⟨b, o, cap, cs, T, fr, hv, hc, h2, h3, _, _, rfl, ?_, fun j y hj => ?_⟩
  · simp only [List.length_cons] at hc; omega
  · obtain ⟨b', o', cs', T', fr', e1, e2, e3⟩ := hr (j + 1) y (by simpa using hj)
    cases e1
    have hcap : ¬ cap = 1 := by
      have := (List.getElem?_eq_some_iff.1 hj).1
      simp only [List.length_cons] at hc; omega
    rw [if_neg hcap]
    exact ⟨b, o + 1, cs', T', fr', rfl, e2, by rw [show o + 1 + j = o + (j + 1) by omega]; exact e3⟩
theorem size5 (w : World) : (sizeOf 5).run Try.prog w = .ok 1 w := by kernel_rfl
theorem under22 : Try.prog.underlying 22 = some (.slice 5) := by kernel_rfl
theorem run_first {w : World} {b o n cap : Nat} : (Instr.indexAt 22 (.slice (some ⟨b, o, none⟩) (n + 1) cap) (.int .i64 0)).run Try.prog w = .ok (.pointer (some ⟨b, o, none⟩)) w := by
  have h : (0 : Int) < (n : Int) + 1 := by omega
  simp [Instr.indexAt, asIntOf, run_underlying under22, size5, h]
  rfl
theorem run_rest {w : World} {b o n cap : Nat} (hc : n + 1 ≤ cap) : (Instr.sliceAt 22 (.slice (some ⟨b, o, none⟩) (n + 1) cap) (some (.int .i64 1)) none none).run Try.prog w = .ok (.slice (if cap = 1 then some ⟨b, o, none⟩ else some ⟨b, o + 1, none⟩) n (cap - 1)) w := by
  have hb : (Instr.sliceBound (.int .i64 1) (n + 1) .sliceB).run Try.prog w = .ok 1 w := run_bound (k := 1) (by omega)
  simp [Instr.sliceAt, Instr.slice, run_underlying under22, Instr.sliceBounds, hb, size5]
  rfl
theorem run_loadB {w : World} {b o : Nat} {cs : Array Value} {T : TypeId} {fr : Nat × Nat} {v : Value} (h : w.heap[b]? = some (.cells cs T fr)) (hv : cs[o]? = some v) : (Instr.loadAt 5 (.pointer (some ⟨b, o, none⟩))).run Try.prog w = .ok v w := by
  have e : (Instr.loadAt 5 (.pointer (some ⟨b, o, none⟩))).run Try.prog w = (load ⟨b, o, none⟩).run Try.prog w := by kernel_rfl
  have hc := run_cell (a := ⟨b, o, none⟩) h rfl rfl
  rw [hv] at hc
  rw [e]; simp only [load, Sem.run, hc]
theorem rt_bit {J : IM} {k x : Nat} (h : J k = some (.cells #[.int .i64 ((x % 2 : Nat) : Int), .pointer none, .pointer none] 84)) : ∃ t : T, t.nf ∧ t.depth = 0 ∧ RT J t k := by
  have : x % 2 = 0 ∨ x % 2 = 1 := by omega
  rcases this with e | e
  · rw [e] at h; exact ⟨.zero, trivial, rfl, h⟩
  · rw [e] at h; exact ⟨.one, trivial, rfl, h⟩

set_option maxHeartbeats 2000000 in
theorem make_step {I : IM} {m : Nat} {xs : List UInt8} {v : Value} (hv : BSl I xs v) (hm9 : m ≤ 100) (ih : ¬ m = 0 → ∀ {J : IM} {xs : List UInt8} {v : Value}, BSl J xs v → Fun Try.prog 33 #[v, .int .i64 ((m - 1 : Nat) : Int)] J (fun v J => ∃ k v' t l', v = .tuple #[.pointer (some ⟨k, 0, none⟩), v'] ∧ (t.nf ∧ t.depth ≤ m - 1) ∧ RT J t k ∧ BSl J l' v')) : Fun Try.prog 33 #[v, .int .i64 ((m : Nat) : Int)] I (fun v J => ∃ k v' t l', v = .tuple #[.pointer (some ⟨k, 0, none⟩), v'] ∧ (t.nf ∧ t.depth ≤ m) ∧ RT J t k ∧ BSl J l' v') := by
 cases xs with
 | nil =>
  obtain ⟨a, cap, rfl, hcap, -⟩ := hv
  simp only [List.length_nil]
  refine enter_rule 49 [(0, .slice a 0 cap), (1, .int .i64 ((m : Nat) : Int))] Try.func33 rfl (by kernel_rfl) ?_
  intro w s
  refine wp_seq ?_
  refine region_rule ?_
  refine ops_rule (C := []) [] [] 2 [] 0 (fun φ1 => [(5, .slice none 0 0), (4, .pointer none)]) (fun φ1 => []) (fun φ1 => []) s trivial (fun φ1 => by kernel_rfl) ?_
  intro φ1 w1 s
  refine ops_done (by kernel_rfl) ?_
  refine wp_seq ?_
  refine wp_seq ?_
  refine region_rule ?_
  refine ops_rule (C := []) [] [] 3 [] 0 (fun φ2 => [(11, .bool true), (10, .int .i64 0), (9, .slice a 0 cap)]) (fun φ2 => []) (fun φ2 => []) s trivial (fun φ2 => by kernel_rfl) ?_
  intro φ2 w2 s
  refine ops_done (by kernel_rfl) ?_
  refine cond_true_rule (b := true) (by kernel_rfl) rfl ?_
  refine wp_seq ?_
  refine region_rule ?_
  refine call_rule (some 12) s (rzero_c) (by kernel_rfl) ?_
  intro v3 I3 w3 le3 h3 s
  obtain ⟨k3, rfl, h3_0⟩ := h3
  refine ops_rule (C := []) [] [] 2 [] 0 (fun φ4 => [(5, .slice none 0 0), (4, .pointer (some ⟨k3, 0, none⟩))]) (fun φ4 => []) (fun φ4 => []) s trivial (fun φ4 => by kernel_rfl) ?_
  intro φ4 w4 s
  refine ops_done (by kernel_rfl) ?_
  refine wp_ret ?_
  refine ret_rule (C := []) [] [] (.tuple #[.pointer (some ⟨k3, 0, none⟩), .slice none 0 0]) [] [] s trivial (by kernel_rfl) ?_
  exact ⟨_, _, _, rfl, s, ⟨_, _, T.zero, [], rfl, ⟨trivial, Nat.zero_le _⟩, h3_0, bsl_nil _⟩⟩
 | cons x l =>
  obtain ⟨b, o, cap, cs, T9, fr, rfl, hcap, hcs, hx, hrest⟩ := bsl_cons hv
  clear hv
  have hx8 : x.toNat < 256 := x.toNat_lt
  refine enter_rule 49 [(0, .slice (some ⟨b, o, none⟩) (l.length + 1) cap), (1, .int .i64 ((m : Nat) : Int))] Try.func33 rfl (by kernel_rfl) ?_
  intro w s
  refine wp_seq ?_
  refine region_rule ?_
  refine ops_rule (C := []) [] [] 2 [] 0 (fun φ1 => [(5, .slice none 0 0), (4, .pointer none)]) (fun φ1 => []) (fun φ1 => []) s trivial (fun φ1 => by kernel_rfl) ?_
  intro φ1 w1 s
  refine ops_done (by kernel_rfl) ?_
  refine wp_seq ?_
  refine wp_seq ?_
  refine region_rule ?_
  refine ops_rule (C := []) [] [] 3 [] 0 (fun φ2 => [(11, .bool ((((l.length + 1) : Nat) : Int) == ((0 : Nat) : Int))), (10, .int .i64 (((l.length + 1) : Nat) : Int)), (9, .slice (some ⟨b, o, none⟩) (l.length + 1) cap)]) (fun φ2 => []) (fun φ2 => []) s trivial (fun φ2 => by kernel_rfl) ?_
  intro φ2 w2 s
  rw [nat_eql (a := (l.length + 1)) (b := 0)]
  refine ops_done (by kernel_rfl) ?_
  rcases Bool.eq_false_or_eq_true (decide ((l.length + 1) = 0)) with hc3 | hc3
  ·
   exact absurd (of_decide_eq_true hc3) (by omega)
  ·
   rw [hc3]
   refine cond_false_rule (b := false) (by kernel_rfl) rfl ?_
   refine wp_skip ?_
   refine wp_seq ?_
   refine region_rule ?_
   refine ops_rule (C := []) [] [] 1 [] 0 (fun φ4 => [(13, .slice (some ⟨b, o, none⟩) (l.length + 1) cap)]) (fun φ4 => []) (fun φ4 => []) s trivial (fun φ4 => by kernel_rfl) ?_
   intro φ4 w4 s
   refine sem_rule (Instr.indexAt 22 (.slice (some ⟨b, o, none⟩) (l.length + 1) cap) (.int .i64 0)) (some 14) (.pointer (some ⟨b, o, none⟩)) (by kernel_rfl) (run_first) ?_
   refine sem_rule (Instr.loadAt 5 (.pointer (some ⟨b, o, none⟩))) (some 15) (.int .u8 ((x.toNat : Nat) : Int)) (by kernel_rfl) (run_loadB (s.sub _ _ hcs) hx) ?_
   refine ops_rule (C := []) [] [] 1 [] 0 (fun φ5 => [(6, .int .u8 ((x.toNat : Nat) : Int))]) (fun φ5 => []) (fun φ5 => []) s trivial (fun φ5 => by kernel_rfl) ?_
   intro φ5 w5 s
   refine ops_done (by kernel_rfl) ?_
   refine wp_seq ?_
   refine region_rule ?_
   refine ops_rule (C := []) [] [] 1 [] 0 (fun φ6 => [(16, .slice (some ⟨b, o, none⟩) (l.length + 1) cap)]) (fun φ6 => []) (fun φ6 => []) s trivial (fun φ6 => by kernel_rfl) ?_
   intro φ6 w6 s
   refine sem_rule (Instr.sliceAt 22 (.slice (some ⟨b, o, none⟩) (l.length + 1) cap) (some (.int .i64 1)) none none) (some 17) (.slice (if cap = 1 then some ⟨b, o, none⟩ else some ⟨b, o + 1, none⟩) l.length (cap - 1)) (by kernel_rfl) (run_rest hcap) ?_
   refine ops_rule (C := []) [] [] 1 [] 0 (fun φ7 => [(0, .slice (if cap = 1 then some ⟨b, o, none⟩ else some ⟨b, o + 1, none⟩) l.length (cap - 1))]) (fun φ7 => []) (fun φ7 => []) s trivial (fun φ7 => by kernel_rfl) ?_
   intro φ7 w7 s
   refine ops_done (by kernel_rfl) ?_
   refine wp_seq ?_
   refine wp_seq ?_
   refine region_rule ?_
   refine ops_rule (C := []) [] [] 3 [] 0 (fun φ8 => [(20, .bool (((m : Nat) : Int) == ((0 : Nat) : Int))), (19, .bool (((m : Nat) : Int) == ((0 : Nat) : Int))), (18, .int .i64 ((m : Nat) : Int))]) (fun φ8 => []) (fun φ8 => []) s trivial (fun φ8 => by kernel_rfl) ?_
   intro φ8 w8 s
   rw [nat_eql (a := m) (b := 0)]
   rcases Bool.eq_false_or_eq_true (decide (m = 0)) with hc9 | hc9
   ·
    rw [hc9]
    refine ops_rule (C := []) [] [] 4 [] 0 (fun φ10 => [(24, .bool true), (23, undef), (22, undef), (21, undef)]) (fun φ10 => []) (fun φ10 => []) s trivial (fun φ10 => by kernel_rfl) ?_
    intro φ10 w10 s
    refine ops_done (by kernel_rfl) ?_
    refine cond_true_rule (b := true) (by kernel_rfl) rfl ?_
    refine wp_seq ?_
    refine region_rule ?_
    refine ops_rule (C := []) [] [] 8 [] 1 (fun φ11 => [(5, .slice (if cap = 1 then some ⟨b, o, none⟩ else some ⟨b, o + 1, none⟩) l.length (cap - 1)), (4, .pointer (some ⟨(φ11 0), 0, none⟩)), (30, .slice (if cap = 1 then some ⟨b, o, none⟩ else some ⟨b, o + 1, none⟩) l.length (cap - 1)), (29, .pointer (some ⟨(φ11 0), 0, none⟩)), (28, .agg #[.int .i64 (IntKind.wrap .i64 (Int.tmod ((x.toNat : Nat) : Int) ((2 : Nat) : Int))), .pointer none, .pointer none]), (27, .int .i64 (IntKind.wrap .i64 (Int.tmod ((x.toNat : Nat) : Int) ((2 : Nat) : Int)))), (26, .int .u8 (Int.tmod ((x.toNat : Nat) : Int) ((2 : Nat) : Int))), (25, .int .u8 ((x.toNat : Nat) : Int))]) (fun φ11 => [((φ11 0), .cells #[.int .i64 (IntKind.wrap .i64 (Int.tmod ((x.toNat : Nat) : Int) ((2 : Nat) : Int))), .pointer none, .pointer none] 84)]) (fun φ11 => []) s trivial (fun φ11 => by kernel_rfl) ?_
    intro φ11 w11 s
    rw [nat_rem (a := x.toNat) (b := 2)] at s ⊢
    rw [nat_wrapI (a := (x.toNat % 2)) (by have hq0 := of_decide_eq_false hc3; have hq1 := of_decide_eq_true hc9; omega)] at s ⊢
    refine ops_done (by kernel_rfl) ?_
    refine wp_ret ?_
    refine ret_rule (C := []) [((φ11 0), .cells #[.int .i64 ((x.toNat % 2 : Nat) : Int), .pointer none, .pointer none] 84)] [] (.tuple #[.pointer (some ⟨(φ11 0), 0, none⟩), .slice (if cap = 1 then some ⟨b, o, none⟩ else some ⟨b, o + 1, none⟩) l.length (cap - 1)]) [] [] s trivial (by kernel_rfl) ?_
    obtain ⟨I12, le12, hk12, s⟩ := s.freezeAt 0 (φ11 0) (.cells #[.int .i64 ((x.toNat % 2 : Nat) : Int), .pointer none, .pointer none] 84) [] (by kernel_rfl) (by kernel_rfl)
    replace hrest := BSl.mono le12 hrest
    obtain ⟨t9, hn9, hd9, ht9⟩ := rt_bit hk12
    exact ⟨_, _, _, rfl, s, ⟨_, _, t9, _, rfl, ⟨hn9, by omega⟩, ht9, hrest⟩⟩
   ·
    rw [hc9]
    refine ops_rule (C := []) [] [] 4 [] 0 (fun φ13 => [(24, .bool (decide ((Int.tmod ((x.toNat : Nat) : Int) ((4 : Nat) : Int)) < ((2 : Nat) : Int)))), (23, .bool (decide ((Int.tmod ((x.toNat : Nat) : Int) ((4 : Nat) : Int)) < ((2 : Nat) : Int)))), (22, .int .u8 (Int.tmod ((x.toNat : Nat) : Int) ((4 : Nat) : Int))), (21, .int .u8 ((x.toNat : Nat) : Int))]) (fun φ13 => []) (fun φ13 => []) s trivial (fun φ13 => by kernel_rfl) ?_
    intro φ13 w13 s
    rw [nat_rem (a := x.toNat) (b := 4)]
    rw [nat_lss (a := (x.toNat % 4)) (b := 2)]
    refine ops_done (by kernel_rfl) ?_
    rcases Bool.eq_false_or_eq_true (decide ((x.toNat % 4) < 2)) with hc14 | hc14
    ·
     rw [hc14]
     refine cond_true_rule (b := true) (by kernel_rfl) rfl ?_
     refine wp_seq ?_
     refine region_rule ?_
     refine ops_rule (C := []) [] [] 8 [] 1 (fun φ15 => [(5, .slice (if cap = 1 then some ⟨b, o, none⟩ else some ⟨b, o + 1, none⟩) l.length (cap - 1)), (4, .pointer (some ⟨(φ15 0), 0, none⟩)), (30, .slice (if cap = 1 then some ⟨b, o, none⟩ else some ⟨b, o + 1, none⟩) l.length (cap - 1)), (29, .pointer (some ⟨(φ15 0), 0, none⟩)), (28, .agg #[.int .i64 (IntKind.wrap .i64 (Int.tmod ((x.toNat : Nat) : Int) ((2 : Nat) : Int))), .pointer none, .pointer none]), (27, .int .i64 (IntKind.wrap .i64 (Int.tmod ((x.toNat : Nat) : Int) ((2 : Nat) : Int)))), (26, .int .u8 (Int.tmod ((x.toNat : Nat) : Int) ((2 : Nat) : Int))), (25, .int .u8 ((x.toNat : Nat) : Int))]) (fun φ15 => [((φ15 0), .cells #[.int .i64 (IntKind.wrap .i64 (Int.tmod ((x.toNat : Nat) : Int) ((2 : Nat) : Int))), .pointer none, .pointer none] 84)]) (fun φ15 => []) s trivial (fun φ15 => by kernel_rfl) ?_
     intro φ15 w15 s
     rw [nat_rem (a := x.toNat) (b := 2)] at s ⊢
     rw [nat_wrapI (a := (x.toNat % 2)) (by have hq0 := of_decide_eq_false hc3; have hq1 := of_decide_eq_false hc9; have hq2 := of_decide_eq_true hc14; omega)] at s ⊢
     refine ops_done (by kernel_rfl) ?_
     refine wp_ret ?_
     refine ret_rule (C := []) [((φ15 0), .cells #[.int .i64 ((x.toNat % 2 : Nat) : Int), .pointer none, .pointer none] 84)] [] (.tuple #[.pointer (some ⟨(φ15 0), 0, none⟩), .slice (if cap = 1 then some ⟨b, o, none⟩ else some ⟨b, o + 1, none⟩) l.length (cap - 1)]) [] [] s trivial (by kernel_rfl) ?_
     obtain ⟨I16, le16, hk16, s⟩ := s.freezeAt 0 (φ15 0) (.cells #[.int .i64 ((x.toNat % 2 : Nat) : Int), .pointer none, .pointer none] 84) [] (by kernel_rfl) (by kernel_rfl)
     replace hrest := BSl.mono le16 hrest
     obtain ⟨t9, hn9, hd9, ht9⟩ := rt_bit hk16
     exact ⟨_, _, _, rfl, s, ⟨_, _, t9, _, rfl, ⟨hn9, by omega⟩, ht9, hrest⟩⟩
    ·
     rw [hc14]
     refine cond_false_rule (b := false) (by kernel_rfl) rfl ?_
     refine wp_skip ?_
     refine wp_seq ?_
     refine region_rule ?_
     refine ops_rule (C := []) [] [] 3 [] 0 (fun φ17 => [(34, .int .i64 (IntKind.wrap .i64 (((m : Nat) : Int) - ((1 : Nat) : Int)))), (33, .int .i64 ((m : Nat) : Int)), (32, .slice (if cap = 1 then some ⟨b, o, none⟩ else some ⟨b, o + 1, none⟩) l.length (cap - 1))]) (fun φ17 => []) (fun φ17 => []) s trivial (fun φ17 => by kernel_rfl) ?_
     intro φ17 w17 s
     rw [nat_subI (a := m) (b := 1) (by have hq0 := of_decide_eq_false hc3; have hq1 := of_decide_eq_false hc9; have hq2 := of_decide_eq_false hc14; omega) (by have hq0 := of_decide_eq_false hc3; have hq1 := of_decide_eq_false hc9; have hq2 := of_decide_eq_false hc14; omega)]
     refine call_rule (some 35) s (ih (of_decide_eq_false hc9) hrest) (by kernel_rfl) ?_
     intro v18 I18 w18 le18 h18 s
     obtain ⟨k18, v18, t18, l18, rfl, h18_0, h18_1, h18_2⟩ := h18
     refine ops_rule (C := []) [] [] 5 [] 0 (fun φ19 => [(0, v18), (7, .pointer (some ⟨k18, 0, none⟩)), (37, v18), (36, .pointer (some ⟨k18, 0, none⟩)), (31, .tuple #[.pointer (some ⟨k18, 0, none⟩), v18])]) (fun φ19 => []) (fun φ19 => []) s trivial (fun φ19 => by kernel_rfl) ?_
     intro φ19 w19 s
     refine ops_done (by kernel_rfl) ?_
     refine wp_seq ?_
     refine region_rule ?_
     refine ops_rule (C := []) [] [] 3 [] 0 (fun φ20 => [(41, .int .i64 (IntKind.wrap .i64 (((m : Nat) : Int) - ((1 : Nat) : Int)))), (40, .int .i64 ((m : Nat) : Int)), (39, v18)]) (fun φ20 => []) (fun φ20 => []) s trivial (fun φ20 => by kernel_rfl) ?_
     intro φ20 w20 s
     rw [nat_subI (a := m) (b := 1) (by have hq0 := of_decide_eq_false hc3; have hq1 := of_decide_eq_false hc9; have hq2 := of_decide_eq_false hc14; omega) (by have hq0 := of_decide_eq_false hc3; have hq1 := of_decide_eq_false hc9; have hq2 := of_decide_eq_false hc14; omega)]
     refine call_rule (some 42) s (ih (of_decide_eq_false hc9) h18_2) (by kernel_rfl) ?_
     intro v21 I21 w21 le21 h21 s
     replace h18_1 := RT.mono le21 h18_1
     obtain ⟨k21, v21, t21, l21, rfl, h21_0, h21_1, h21_2⟩ := h21
     refine ops_rule (C := []) [] [] 5 [] 0 (fun φ22 => [(0, v21), (8, .pointer (some ⟨k21, 0, none⟩)), (44, v21), (43, .pointer (some ⟨k21, 0, none⟩)), (38, .tuple #[.pointer (some ⟨k21, 0, none⟩), v21])]) (fun φ22 => []) (fun φ22 => []) s trivial (fun φ22 => by kernel_rfl) ?_
     intro φ22 w22 s
     refine ops_done (by kernel_rfl) ?_
     refine wp_seq ?_
     refine region_rule ?_
     refine ops_rule (C := []) [] [] 2 [] 0 (fun φ23 => [(46, .pointer (some ⟨k21, 0, none⟩)), (45, .pointer (some ⟨k18, 0, none⟩))]) (fun φ23 => []) (fun φ23 => []) s trivial (fun φ23 => by kernel_rfl) ?_
     intro φ23 w23 s
     refine call_rule (some 47) s (rpair_c h18_1 h21_1) (by kernel_rfl) ?_
     intro v24 I24 w24 le24 h24 s
     replace h21_2 := BSl.mono le24 h21_2
     obtain ⟨k24, rfl, h24_0⟩ := h24
     refine ops_rule (C := []) [] [] 3 [] 0 (fun φ25 => [(5, v21), (4, .pointer (some ⟨k24, 0, none⟩)), (48, v21)]) (fun φ25 => []) (fun φ25 => []) s trivial (fun φ25 => by kernel_rfl) ?_
     intro φ25 w25 s
     refine ops_done (by kernel_rfl) ?_
     refine wp_ret ?_
     refine ret_rule (C := []) [] [] (.tuple #[.pointer (some ⟨k24, 0, none⟩), v21]) [] [] s trivial (by kernel_rfl) ?_
     exact ⟨_, _, _, rfl, s, ⟨_, _, (T.mk t18 t21), _, rfl, ⟨T.nf_mk h18_0.1 h21_0.1, by have hm := of_decide_eq_false hc9; have h1 := T.mk_depth t18 t21; have h2 := h18_0.2; have h3 := h21_0.2; omega⟩, h24_0, h21_2⟩⟩

theorem make_c : ∀ (m : Nat) {I : IM} {xs : List UInt8} {v : Value}, m ≤ 100 → BSl I xs v → Fun Try.prog 33 #[v, .int .i64 ((m : Nat) : Int)] I (fun v J => ∃ k v' t l', v = .tuple #[.pointer (some ⟨k, 0, none⟩), v'] ∧ (t.nf ∧ t.depth ≤ m) ∧ RT J t k ∧ BSl J l' v')
  | 0, _, _, _, h, hv => make_step hv h (fun h => absurd rfl h)
  | m + 1, _, _, _, h, hv => make_step hv h (fun _ {J} {xs} {v} k => make_c m (by omega) k)

end Go.Proofs.Ytgmigcmhnmmdkaa.Ev

/- The document's Make of events; made. -/
set_option linter.all false
set_option maxRecDepth 100000
namespace Go.Proofs.Ytgmigcmhnmmdkaa.Ev
open Go.RowKit Go.Sep

theorem nat_quo8 {a b : Nat} (h : a < 256) : IntKind.wrap .u8 (Int.tdiv (a : Int) (b : Int)) = ((a / b : Nat) : Int) := by
  have e : Int.tdiv (a : Int) (b : Int) = ((a / b : Nat) : Int) := rfl
  have : a / b ≤ a := Nat.div_le_self a b
  rw [e]
  generalize a / b = q at this
  exact wrapU8 (by omega) (by omega)

set_option maxHeartbeats 2000000 in
theorem makeE_step {I : IM} {m : Nat} {xs : List UInt8} {v : Value} (hv : BSl I xs v) (hm9 : m ≤ 100) (ih : ¬ m = 0 → ∀ {J : IM} {xs : List UInt8} {v : Value}, BSl J xs v → Fun Try.prog 34 #[v, .int .i64 ((m - 1 : Nat) : Int)] J (fun v J => ∃ k v' t l', v = .tuple #[.pointer (some ⟨k, 0, none⟩), v'] ∧ (t.nf ∧ t.depth ≤ m - 1 ∧ t.top ≤ 7 + 3 * (m - 1)) ∧ RE J t k ∧ BSl J l' v')) : Fun Try.prog 34 #[v, .int .i64 ((m : Nat) : Int)] I (fun v J => ∃ k v' t l', v = .tuple #[.pointer (some ⟨k, 0, none⟩), v'] ∧ (t.nf ∧ t.depth ≤ m ∧ t.top ≤ 7 + 3 * m) ∧ RE J t k ∧ BSl J l' v') := by
 cases xs with
 | nil =>
  obtain ⟨a, cap, rfl, hcap, -⟩ := hv
  simp only [List.length_nil]
  refine enter_rule 53 [(0, .slice a 0 cap), (1, .int .i64 ((m : Nat) : Int))] Try.func34 rfl (by kernel_rfl) ?_
  intro w s
  refine wp_seq ?_
  refine region_rule ?_
  refine ops_rule (C := []) [] [] 2 [] 0 (fun φ1 => [(5, .slice none 0 0), (4, .pointer none)]) (fun φ1 => []) (fun φ1 => []) s trivial (fun φ1 => by kernel_rfl) ?_
  intro φ1 w1 s
  refine ops_done (by kernel_rfl) ?_
  refine wp_seq ?_
  refine wp_seq ?_
  refine region_rule ?_
  refine ops_rule (C := []) [] [] 3 [] 0 (fun φ2 => [(11, .bool true), (10, .int .i64 0), (9, .slice a 0 cap)]) (fun φ2 => []) (fun φ2 => []) s trivial (fun φ2 => by kernel_rfl) ?_
  intro φ2 w2 s
  refine ops_done (by kernel_rfl) ?_
  refine cond_true_rule (b := true) (by kernel_rfl) rfl ?_
  refine wp_seq ?_
  refine region_rule ?_
  refine call_rule (some 12) s (rleaf_c (n := 0)) (by kernel_rfl) ?_
  intro v3 I3 w3 le3 h3 s
  obtain ⟨k3, rfl, h3_0⟩ := h3
  refine ops_rule (C := []) [] [] 2 [] 0 (fun φ4 => [(5, .slice none 0 0), (4, .pointer (some ⟨k3, 0, none⟩))]) (fun φ4 => []) (fun φ4 => []) s trivial (fun φ4 => by kernel_rfl) ?_
  intro φ4 w4 s
  refine ops_done (by kernel_rfl) ?_
  refine wp_ret ?_
  refine ret_rule (C := []) [] [] (.tuple #[.pointer (some ⟨k3, 0, none⟩), .slice none 0 0]) [] [] s trivial (by kernel_rfl) ?_
  exact ⟨_, _, _, rfl, s, ⟨_, _, E.leaf 0, [], rfl, ⟨trivial, Nat.zero_le _, Nat.zero_le _⟩, h3_0, bsl_nil _⟩⟩
 | cons x l =>
  obtain ⟨b, o, cap, cs, T9, fr, rfl, hcap, hcs, hx, hrest⟩ := bsl_cons hv
  clear hv
  have hx8 : x.toNat < 256 := x.toNat_lt
  refine enter_rule 53 [(0, .slice (some ⟨b, o, none⟩) (l.length + 1) cap), (1, .int .i64 ((m : Nat) : Int))] Try.func34 rfl (by kernel_rfl) ?_
  intro w s
  refine wp_seq ?_
  refine region_rule ?_
  refine ops_rule (C := []) [] [] 2 [] 0 (fun φ1 => [(5, .slice none 0 0), (4, .pointer none)]) (fun φ1 => []) (fun φ1 => []) s trivial (fun φ1 => by kernel_rfl) ?_
  intro φ1 w1 s
  refine ops_done (by kernel_rfl) ?_
  refine wp_seq ?_
  refine wp_seq ?_
  refine region_rule ?_
  refine ops_rule (C := []) [] [] 3 [] 0 (fun φ2 => [(11, .bool ((((l.length + 1) : Nat) : Int) == ((0 : Nat) : Int))), (10, .int .i64 (((l.length + 1) : Nat) : Int)), (9, .slice (some ⟨b, o, none⟩) (l.length + 1) cap)]) (fun φ2 => []) (fun φ2 => []) s trivial (fun φ2 => by kernel_rfl) ?_
  intro φ2 w2 s
  rw [nat_eql (a := (l.length + 1)) (b := 0)]
  refine ops_done (by kernel_rfl) ?_
  rcases Bool.eq_false_or_eq_true (decide ((l.length + 1) = 0)) with hc3 | hc3
  ·
   exact absurd (of_decide_eq_true hc3) (by omega)
  ·
   rw [hc3]
   refine cond_false_rule (b := false) (by kernel_rfl) rfl ?_
   refine wp_skip ?_
   refine wp_seq ?_
   refine region_rule ?_
   refine ops_rule (C := []) [] [] 1 [] 0 (fun φ4 => [(13, .slice (some ⟨b, o, none⟩) (l.length + 1) cap)]) (fun φ4 => []) (fun φ4 => []) s trivial (fun φ4 => by kernel_rfl) ?_
   intro φ4 w4 s
   refine sem_rule (Instr.indexAt 22 (.slice (some ⟨b, o, none⟩) (l.length + 1) cap) (.int .i64 0)) (some 14) (.pointer (some ⟨b, o, none⟩)) (by kernel_rfl) (run_first) ?_
   refine sem_rule (Instr.loadAt 5 (.pointer (some ⟨b, o, none⟩))) (some 15) (.int .u8 ((x.toNat : Nat) : Int)) (by kernel_rfl) (run_loadB (s.sub _ _ hcs) hx) ?_
   refine ops_rule (C := []) [] [] 1 [] 0 (fun φ5 => [(6, .int .u8 ((x.toNat : Nat) : Int))]) (fun φ5 => []) (fun φ5 => []) s trivial (fun φ5 => by kernel_rfl) ?_
   intro φ5 w5 s
   refine ops_done (by kernel_rfl) ?_
   refine wp_seq ?_
   refine region_rule ?_
   refine ops_rule (C := []) [] [] 1 [] 0 (fun φ6 => [(16, .slice (some ⟨b, o, none⟩) (l.length + 1) cap)]) (fun φ6 => []) (fun φ6 => []) s trivial (fun φ6 => by kernel_rfl) ?_
   intro φ6 w6 s
   refine sem_rule (Instr.sliceAt 22 (.slice (some ⟨b, o, none⟩) (l.length + 1) cap) (some (.int .i64 1)) none none) (some 17) (.slice (if cap = 1 then some ⟨b, o, none⟩ else some ⟨b, o + 1, none⟩) l.length (cap - 1)) (by kernel_rfl) (run_rest hcap) ?_
   refine ops_rule (C := []) [] [] 1 [] 0 (fun φ7 => [(0, .slice (if cap = 1 then some ⟨b, o, none⟩ else some ⟨b, o + 1, none⟩) l.length (cap - 1))]) (fun φ7 => []) (fun φ7 => []) s trivial (fun φ7 => by kernel_rfl) ?_
   intro φ7 w7 s
   refine ops_done (by kernel_rfl) ?_
   refine wp_seq ?_
   refine wp_seq ?_
   refine region_rule ?_
   refine ops_rule (C := []) [] [] 3 [] 0 (fun φ8 => [(20, .bool (((m : Nat) : Int) == ((0 : Nat) : Int))), (19, .bool (((m : Nat) : Int) == ((0 : Nat) : Int))), (18, .int .i64 ((m : Nat) : Int))]) (fun φ8 => []) (fun φ8 => []) s trivial (fun φ8 => by kernel_rfl) ?_
   intro φ8 w8 s
   rw [nat_eql (a := m) (b := 0)]
   rcases Bool.eq_false_or_eq_true (decide (m = 0)) with hc9 | hc9
   ·
    rw [hc9]
    refine ops_rule (C := []) [] [] 4 [] 0 (fun φ10 => [(24, .bool true), (23, undef), (22, undef), (21, undef)]) (fun φ10 => []) (fun φ10 => []) s trivial (fun φ10 => by kernel_rfl) ?_
    intro φ10 w10 s
    refine ops_done (by kernel_rfl) ?_
    refine cond_true_rule (b := true) (by kernel_rfl) rfl ?_
    refine wp_seq ?_
    refine region_rule ?_
    refine ops_rule (C := []) [] [] 4 [] 0 (fun φ11 => [(28, .int .u64 (IntKind.wrap .u64 (Int.tmod (IntKind.wrap .u8 (Int.tdiv ((x.toNat : Nat) : Int) ((4 : Nat) : Int))) ((8 : Nat) : Int)))), (27, .int .u8 (Int.tmod (IntKind.wrap .u8 (Int.tdiv ((x.toNat : Nat) : Int) ((4 : Nat) : Int))) ((8 : Nat) : Int))), (26, .int .u8 (IntKind.wrap .u8 (Int.tdiv ((x.toNat : Nat) : Int) ((4 : Nat) : Int)))), (25, .int .u8 ((x.toNat : Nat) : Int))]) (fun φ11 => []) (fun φ11 => []) s trivial (fun φ11 => by kernel_rfl) ?_
    intro φ11 w11 s
    rw [nat_quo8 (a := x.toNat) (b := 4) (by have hq0 := of_decide_eq_false hc3; have hq1 := of_decide_eq_true hc9; omega)]
    rw [nat_rem (a := (x.toNat / 4)) (b := 8)]
    rw [nat_wrapU (a := ((x.toNat / 4) % 8)) (by have hq0 := of_decide_eq_false hc3; have hq1 := of_decide_eq_true hc9; omega)]
    refine call_rule (some 29) s (rleaf_c (n := ((x.toNat / 4) % 8))) (by kernel_rfl) ?_
    intro v12 I12 w12 le12 h12 s
    replace hrest := BSl.mono le12 hrest
    obtain ⟨k12, rfl, h12_0⟩ := h12
    refine ops_rule (C := []) [] [] 3 [] 0 (fun φ13 => [(5, .slice (if cap = 1 then some ⟨b, o, none⟩ else some ⟨b, o + 1, none⟩) l.length (cap - 1)), (4, .pointer (some ⟨k12, 0, none⟩)), (30, .slice (if cap = 1 then some ⟨b, o, none⟩ else some ⟨b, o + 1, none⟩) l.length (cap - 1))]) (fun φ13 => []) (fun φ13 => []) s trivial (fun φ13 => by kernel_rfl) ?_
    intro φ13 w13 s
    refine ops_done (by kernel_rfl) ?_
    refine wp_ret ?_
    refine ret_rule (C := []) [] [] (.tuple #[.pointer (some ⟨k12, 0, none⟩), .slice (if cap = 1 then some ⟨b, o, none⟩ else some ⟨b, o + 1, none⟩) l.length (cap - 1)]) [] [] s trivial (by kernel_rfl) ?_
    exact ⟨_, _, _, rfl, s, ⟨_, _, (E.leaf ((x.toNat / 4) % 8)), _, rfl, ⟨trivial, Nat.zero_le _, show ((x.toNat / 4) % 8) ≤ 7 + 3 * m by omega⟩, h12_0, hrest⟩⟩
   ·
    rw [hc9]
    refine ops_rule (C := []) [] [] 4 [] 0 (fun φ14 => [(24, .bool (decide ((Int.tmod ((x.toNat : Nat) : Int) ((4 : Nat) : Int)) < ((2 : Nat) : Int)))), (23, .bool (decide ((Int.tmod ((x.toNat : Nat) : Int) ((4 : Nat) : Int)) < ((2 : Nat) : Int)))), (22, .int .u8 (Int.tmod ((x.toNat : Nat) : Int) ((4 : Nat) : Int))), (21, .int .u8 ((x.toNat : Nat) : Int))]) (fun φ14 => []) (fun φ14 => []) s trivial (fun φ14 => by kernel_rfl) ?_
    intro φ14 w14 s
    rw [nat_rem (a := x.toNat) (b := 4)]
    rw [nat_lss (a := (x.toNat % 4)) (b := 2)]
    refine ops_done (by kernel_rfl) ?_
    rcases Bool.eq_false_or_eq_true (decide ((x.toNat % 4) < 2)) with hc15 | hc15
    ·
     rw [hc15]
     refine cond_true_rule (b := true) (by kernel_rfl) rfl ?_
     refine wp_seq ?_
     refine region_rule ?_
     refine ops_rule (C := []) [] [] 4 [] 0 (fun φ16 => [(28, .int .u64 (IntKind.wrap .u64 (Int.tmod (IntKind.wrap .u8 (Int.tdiv ((x.toNat : Nat) : Int) ((4 : Nat) : Int))) ((8 : Nat) : Int)))), (27, .int .u8 (Int.tmod (IntKind.wrap .u8 (Int.tdiv ((x.toNat : Nat) : Int) ((4 : Nat) : Int))) ((8 : Nat) : Int))), (26, .int .u8 (IntKind.wrap .u8 (Int.tdiv ((x.toNat : Nat) : Int) ((4 : Nat) : Int)))), (25, .int .u8 ((x.toNat : Nat) : Int))]) (fun φ16 => []) (fun φ16 => []) s trivial (fun φ16 => by kernel_rfl) ?_
     intro φ16 w16 s
     rw [nat_quo8 (a := x.toNat) (b := 4) (by have hq0 := of_decide_eq_false hc3; have hq1 := of_decide_eq_false hc9; have hq2 := of_decide_eq_true hc15; omega)]
     rw [nat_rem (a := (x.toNat / 4)) (b := 8)]
     rw [nat_wrapU (a := ((x.toNat / 4) % 8)) (by have hq0 := of_decide_eq_false hc3; have hq1 := of_decide_eq_false hc9; have hq2 := of_decide_eq_true hc15; omega)]
     refine call_rule (some 29) s (rleaf_c (n := ((x.toNat / 4) % 8))) (by kernel_rfl) ?_
     intro v17 I17 w17 le17 h17 s
     replace hrest := BSl.mono le17 hrest
     obtain ⟨k17, rfl, h17_0⟩ := h17
     refine ops_rule (C := []) [] [] 3 [] 0 (fun φ18 => [(5, .slice (if cap = 1 then some ⟨b, o, none⟩ else some ⟨b, o + 1, none⟩) l.length (cap - 1)), (4, .pointer (some ⟨k17, 0, none⟩)), (30, .slice (if cap = 1 then some ⟨b, o, none⟩ else some ⟨b, o + 1, none⟩) l.length (cap - 1))]) (fun φ18 => []) (fun φ18 => []) s trivial (fun φ18 => by kernel_rfl) ?_
     intro φ18 w18 s
     refine ops_done (by kernel_rfl) ?_
     refine wp_ret ?_
     refine ret_rule (C := []) [] [] (.tuple #[.pointer (some ⟨k17, 0, none⟩), .slice (if cap = 1 then some ⟨b, o, none⟩ else some ⟨b, o + 1, none⟩) l.length (cap - 1)]) [] [] s trivial (by kernel_rfl) ?_
     exact ⟨_, _, _, rfl, s, ⟨_, _, (E.leaf ((x.toNat / 4) % 8)), _, rfl, ⟨trivial, Nat.zero_le _, show ((x.toNat / 4) % 8) ≤ 7 + 3 * m by omega⟩, h17_0, hrest⟩⟩
    ·
     rw [hc15]
     refine cond_false_rule (b := false) (by kernel_rfl) rfl ?_
     refine wp_skip ?_
     refine wp_seq ?_
     refine region_rule ?_
     refine ops_rule (C := []) [] [] 3 [] 0 (fun φ19 => [(34, .int .i64 (IntKind.wrap .i64 (((m : Nat) : Int) - ((1 : Nat) : Int)))), (33, .int .i64 ((m : Nat) : Int)), (32, .slice (if cap = 1 then some ⟨b, o, none⟩ else some ⟨b, o + 1, none⟩) l.length (cap - 1))]) (fun φ19 => []) (fun φ19 => []) s trivial (fun φ19 => by kernel_rfl) ?_
     intro φ19 w19 s
     rw [nat_subI (a := m) (b := 1) (by have hq0 := of_decide_eq_false hc3; have hq1 := of_decide_eq_false hc9; have hq2 := of_decide_eq_false hc15; omega) (by have hq0 := of_decide_eq_false hc3; have hq1 := of_decide_eq_false hc9; have hq2 := of_decide_eq_false hc15; omega)]
     refine call_rule (some 35) s (ih (of_decide_eq_false hc9) hrest) (by kernel_rfl) ?_
     intro v20 I20 w20 le20 h20 s
     obtain ⟨k20, v20, t20, l20, rfl, h20_0, h20_1, h20_2⟩ := h20
     refine ops_rule (C := []) [] [] 5 [] 0 (fun φ21 => [(0, v20), (7, .pointer (some ⟨k20, 0, none⟩)), (37, v20), (36, .pointer (some ⟨k20, 0, none⟩)), (31, .tuple #[.pointer (some ⟨k20, 0, none⟩), v20])]) (fun φ21 => []) (fun φ21 => []) s trivial (fun φ21 => by kernel_rfl) ?_
     intro φ21 w21 s
     refine ops_done (by kernel_rfl) ?_
     refine wp_seq ?_
     refine region_rule ?_
     refine ops_rule (C := []) [] [] 3 [] 0 (fun φ22 => [(41, .int .i64 (IntKind.wrap .i64 (((m : Nat) : Int) - ((1 : Nat) : Int)))), (40, .int .i64 ((m : Nat) : Int)), (39, v20)]) (fun φ22 => []) (fun φ22 => []) s trivial (fun φ22 => by kernel_rfl) ?_
     intro φ22 w22 s
     rw [nat_subI (a := m) (b := 1) (by have hq0 := of_decide_eq_false hc3; have hq1 := of_decide_eq_false hc9; have hq2 := of_decide_eq_false hc15; omega) (by have hq0 := of_decide_eq_false hc3; have hq1 := of_decide_eq_false hc9; have hq2 := of_decide_eq_false hc15; omega)]
     refine call_rule (some 42) s (ih (of_decide_eq_false hc9) h20_2) (by kernel_rfl) ?_
     intro v23 I23 w23 le23 h23 s
     replace h20_1 := RE.mono le23 h20_1
     obtain ⟨k23, v23, t23, l23, rfl, h23_0, h23_1, h23_2⟩ := h23
     refine ops_rule (C := []) [] [] 5 [] 0 (fun φ24 => [(0, v23), (8, .pointer (some ⟨k23, 0, none⟩)), (44, v23), (43, .pointer (some ⟨k23, 0, none⟩)), (38, .tuple #[.pointer (some ⟨k23, 0, none⟩), v23])]) (fun φ24 => []) (fun φ24 => []) s trivial (fun φ24 => by kernel_rfl) ?_
     intro φ24 w24 s
     refine ops_done (by kernel_rfl) ?_
     refine wp_seq ?_
     refine region_rule ?_
     refine ops_rule (C := []) [] [] 6 [] 0 (fun φ25 => [(50, .pointer (some ⟨k23, 0, none⟩)), (49, .pointer (some ⟨k20, 0, none⟩)), (48, .int .u64 (IntKind.wrap .u64 (Int.tmod (IntKind.wrap .u8 (Int.tdiv ((x.toNat : Nat) : Int) ((4 : Nat) : Int))) ((4 : Nat) : Int)))), (47, .int .u8 (Int.tmod (IntKind.wrap .u8 (Int.tdiv ((x.toNat : Nat) : Int) ((4 : Nat) : Int))) ((4 : Nat) : Int))), (46, .int .u8 (IntKind.wrap .u8 (Int.tdiv ((x.toNat : Nat) : Int) ((4 : Nat) : Int)))), (45, .int .u8 ((x.toNat : Nat) : Int))]) (fun φ25 => []) (fun φ25 => []) s trivial (fun φ25 => by kernel_rfl) ?_
     intro φ25 w25 s
     rw [nat_quo8 (a := x.toNat) (b := 4) (by have hq0 := of_decide_eq_false hc3; have hq1 := of_decide_eq_false hc9; have hq2 := of_decide_eq_false hc15; omega)]
     rw [nat_rem (a := (x.toNat / 4)) (b := 4)]
     rw [nat_wrapU (a := ((x.toNat / 4) % 4)) (by have hq0 := of_decide_eq_false hc3; have hq1 := of_decide_eq_false hc9; have hq2 := of_decide_eq_false hc15; omega)]
     refine call_rule (some 51) s (rnode_c (n := ((x.toNat / 4) % 4)) h20_1 h23_1 h20_0.1 h23_0.1 (by have h8 := h20_0.2.2; have h9 := h23_0.2.2; omega)) (by kernel_rfl) ?_
     intro v26 I26 w26 le26 h26 s
     replace h23_2 := BSl.mono le26 h23_2
     obtain ⟨k26, rfl, h26_0⟩ := h26
     refine ops_rule (C := []) [] [] 3 [] 0 (fun φ27 => [(5, v23), (4, .pointer (some ⟨k26, 0, none⟩)), (52, v23)]) (fun φ27 => []) (fun φ27 => []) s trivial (fun φ27 => by kernel_rfl) ?_
     intro φ27 w27 s
     refine ops_done (by kernel_rfl) ?_
     refine wp_ret ?_
     refine ret_rule (C := []) [] [] (.tuple #[.pointer (some ⟨k26, 0, none⟩), v23]) [] [] s trivial (by kernel_rfl) ?_
     exact ⟨_, _, _, rfl, s, ⟨_, _, (E.mk ((x.toNat / 4) % 4) t20 t23), _, rfl, ⟨E.nf_mk h20_0.1 h23_0.1, by have hm := of_decide_eq_false hc9; have h1 := E.mk_depth ((x.toNat / 4) % 4) t20 t23; have h2 := h20_0.2.1; have h3 := h23_0.2.1; omega, by have hm := of_decide_eq_false hc9; have h1 := E.mk_top ((x.toNat / 4) % 4) t20 t23; have h2 := h20_0.2.2; have h3 := h23_0.2.2; omega⟩, h26_0, h23_2⟩⟩

theorem makeE_c : ∀ (m : Nat) {I : IM} {xs : List UInt8} {v : Value}, m ≤ 100 → BSl I xs v → Fun Try.prog 34 #[v, .int .i64 ((m : Nat) : Int)] I (fun v J => ∃ k v' t l', v = .tuple #[.pointer (some ⟨k, 0, none⟩), v'] ∧ (t.nf ∧ t.depth ≤ m ∧ t.top ≤ 7 + 3 * m) ∧ RE J t k ∧ BSl J l' v')
  | 0, _, _, _, h, hv => makeE_step hv h (fun h => absurd rfl h)
  | m + 1, _, _, _, h, hv => makeE_step hv h (fun _ {J} {xs} {v} k => makeE_c m (by omega) k)

end Go.Proofs.Ytgmigcmhnmmdkaa.Ev

