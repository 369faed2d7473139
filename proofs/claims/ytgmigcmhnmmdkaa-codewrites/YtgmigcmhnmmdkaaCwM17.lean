/- The document's events: Node. -/
import Derived.Test.YtgmigcmhnmmdkaaCwM16
import Derived.Test.YtgmigcmhnmmdkaaCwM13
import Derived.OpenShut
set_option linter.all false
set_option maxRecDepth 100000
namespace Go.Proofs.Ytgmigcmhnmmdkaa.Ev
open Go.RowKit Go.Sep

theorem rminB_c {I : IM} {e : E} {k : Nat} (h : RE I e k) (hn : e.nf) (ht : e.top < 18446744073709551616) : Fun Try.prog 89 #[.pointer (some ⟨k, 0, none⟩)] I (fun v _ => v = .int .u64 ((e.base : Nat) : Int)) :=
  (rmin_c e h ht).mono fun v J _ hv => by rw [hv, E.min_base hn]
theorem mk_node9 {n m : Nat} {l r : E} (hc : ¬ (l.isLeaf = true ∧ r.isLeaf = true ∧ l.base = r.base)) (hm : min l.base r.base = m) : E.mk n l r = .node (n + m) (E.dn m l) (E.dn m r) := by
  unfold E.mk; rw [if_neg hc, hm]
theorem mk_leaf9 {n a b : Nat} (h : a = b) : E.mk n (.leaf a) (.leaf b) = .leaf (n + a) := by
  unfold E.mk; rw [if_pos ⟨rfl, rfl, h⟩]; rfl

set_option maxHeartbeats 4000000 in
theorem rnode_c {I : IM} {n : Nat} {l r : E} {ka kb : Nat} (hl : RE I l ka) (hr : RE I r kb) (hnl : l.nf) (hnr : r.nf) (hb : n + max l.top r.top < 18446744073709551616) : Fun Try.prog 70 #[.int .u64 ((n : Nat) : Int), .pointer (some ⟨ka, 0, none⟩), .pointer (some ⟨kb, 0, none⟩)] I (fun v J => ∃ k, v = .pointer (some ⟨k, 0, none⟩) ∧ RE J (E.mk n l r) k) := by
 have htl : l.top < 18446744073709551616 := by omega
 have htr : r.top < 18446744073709551616 := by omega
 have hbl := E.base_le l
 have hbr := E.base_le r
 cases l with
 | leaf a =>
  cases r with
  | leaf b =>
   have hna := hnl
   have hta := htl
   have hl0 : RE _ (E.leaf a) ka := hl
   have hab : a ≤ (E.leaf a).top := hbl
   have hnb := hnr
   have htb := htr
   have hr0 : RE _ (E.leaf b) kb := hr
   have hbb : b ≤ (E.leaf b).top := hbr
   refine enter_rule 83 [(0, .int .u64 n), (1, pB ka), (2, pB kb)] Try.func70 rfl (by kernel_rfl) ?_
   intro w s
   refine seqR ?_
   refine ops_rule (C := []) [] [] 1 [] 0 (fun φ1 => [(6, .pointer none)]) (fun φ1 => []) (fun φ1 => []) s trivial (fun φ1 => by kernel_rfl) ?_
   intro φ1 w1 s
   refine ops_done (by kernel_rfl) ?_
   refine wp_seq ?_
   refine wp_seq ?_
   refine draw_rule (C := [(ka, .cells #[.int .u64 a, .pointer none, .pointer none] 87), (kb, .cells #[.int .u64 b, .pointer none, .pointer none] 87)]) ⟨(fun φ2 xs2 => [.look 0 [] [], .look 0 [] [], .look 0 [] [], .look 0 [.c 0] [ka], .look 0 [] [], .look 0 [] [], .look 0 [] [], .look 0 [] [], .look 0 [] [], .look 0 [.c 1] [kb], .look 0 [] [], .look 0 [] [], .look 0 [] [], .look 0 [] [], .look 0 [] [], .look 0 [] [], .look 0 [.c 0] [ka], .look 0 [] [], .look 0 [] [], .look 0 [] [], .look 0 [.c 1] [kb], .sub 0 [] [] (.bool (((a : Nat) : Int) == ((b : Nat) : Int))), .look 0 [] []]), (fun φ2 xs2 => [pB ka, pB ka, .pointer (some ⟨ka, 1, none⟩), .pointer none, .bool true, .bool true, pB kb, pB kb, .pointer (some ⟨kb, 1, none⟩), .pointer none, .bool true, .bool true, .bool true, pB ka, pB ka, pB ka, .int .u64 a, pB kb, pB kb, pB kb, .int .u64 b, .bool (decide (a = b)), .bool (decide (a = b))]), (fun φ2 xs2 => [[]]), (fun φ2 xs2 => [[default, default, default, default, default, default, default, default, default, default, default, default, default, default, default, default, default, default, default, default, default, default, default]]), [], [1, 1, 1, 1, 1, 1, 1, 1, 1, 1, 1, 1, 1, 1, 1, 1, 1, 1, 1, 1, 1, 5, 1]⟩ (fun j => ([MP.any] : List MP).getD j MP.any) [] [21] [] (fun φ2 xs2 => []) (fun φ2 xs2 => [(8, pB ka), (9, pB ka), (10, .pointer (some ⟨ka, 1, none⟩)), (11, .pointer none), (12, .bool true), (13, .bool true), (14, pB kb), (15, pB kb), (16, .pointer (some ⟨kb, 1, none⟩)), (17, .pointer none), (18, .bool true), (19, .bool true), (20, .bool true), (21, pB ka), (22, pB ka), (23, pB ka), (24, .int .u64 a), (25, pB kb), (26, pB kb), (27, pB kb), (28, .int .u64 b), (29, .bool (decide (a = b))), (30, .bool (decide (a = b)))]) (fun φ2 xs2 => []) s ⟨hl, ⟨hr, trivial⟩⟩ (by kernel_rfl) (by kernel_rfl) (fun _ _ => by kernel_rfl) (fun _ _ => by kernel_rfl) ⟨fun _ _ => by kernel_rfl, fun _ _ => by kernel_rfl, fun _ _ => by kernel_rfl, fun _ _ => by kernel_rfl⟩ (fun _ _ _ => by kernel_rfl) (fun _ _ => by kernel_rfl) (fun _ _ => by kernel_rfl) (fun _ _ => by kernel_rfl) (fun _ _ => by kernel_rfl) (fun _ _ => by kernel_rfl) ⟨kcast (A := ∀ (φ2 : Nat → Nat) (xs2 : Xs), (.bool (((a : Nat) : Int) == ((b : Nat) : Int)) : Value) = .bool (decide (a = b))) (by kernel_rfl) (fun φ2 xs2 => congrArg Value.bool ((nat_eql (a := a) (b := b)))), trivial⟩ trivial (by kernel_rfl) trivial ?k2
   case k2 =>
    rintro φ2 xs2 I2 w2 le2 s 
    replace hl0 := RE.mono le2 hl0
    replace hr0 := RE.mono le2 hr0
    replace hl := le2 _ _ hl
    replace hr := le2 _ _ hr
    rcases Bool.eq_false_or_eq_true (decide (a = b)) with hc3 | hc3
    ·
     rw [hc3]
     refine cond_true_rule (b := true) (by kernel_rfl) rfl ?_
     refine seqR ?_
     refine ops_rule (C := [(ka, .cells #[.int .u64 a, .pointer none, .pointer none] 87)]) [] [] 6 [.c 0] 0 (fun φ4 => [(36, .int .u64 (IntKind.wrap .u64 (((n : Nat) : Int) + ((a : Nat) : Int)))), (35, .int .u64 a), (34, pB ka), (33, pB ka), (32, pB ka), (31, .int .u64 n)]) (fun φ4 => []) (fun φ4 => [ka]) s ⟨hl, trivial⟩ (fun φ4 => by kernel_rfl) ?_
     intro φ4 w4 s
     rw [nat_addU (a := n) (b := a) (by have hq0 := of_decide_eq_true hc3; omega)]
     refine call_rule (some 37) s (rleaf_c (n := (n + a))) (by kernel_rfl) ?_
     intro v5 I5 w5 le5 h5 s
     replace hl0 := RE.mono le5 hl0
     replace hr0 := RE.mono le5 hr0
     replace hl := le5 _ _ hl
     replace hr := le5 _ _ hr
     obtain ⟨k5, rfl, h5_0⟩ := h5
     refine ops_rule (C := []) [] [] 1 [] 0 (fun φ6 => [(6, pB k5)]) (fun φ6 => []) (fun φ6 => []) s trivial (fun φ6 => by kernel_rfl) ?_
     intro φ6 w6 s
     refine ops_done (by kernel_rfl) ?_
     refine wp_ret ?_
     refine ret_rule (C := []) [] [] (pB k5) [] [] s trivial (by kernel_rfl) ?_
     exact ⟨_, _, _, rfl, s, ⟨_, rfl, by rw [mk_leaf9 (of_decide_eq_true hc3)]; exact h5_0⟩⟩
    ·
     rw [hc3]
     refine cond_false_rule (b := false) (by kernel_rfl) rfl ?_
     refine wp_skip ?_
     refine seqR ?_
     refine ops_rule (C := []) [] [] 1 [] 0 (fun φ7 => [(38, pB ka)]) (fun φ7 => []) (fun φ7 => []) s trivial (fun φ7 => by kernel_rfl) ?_
     intro φ7 w7 s
     refine call_rule (some 39) s (rminB_c hl0 hna hta) (by kernel_rfl) ?_
     intro v8 I8 w8 le8 h8 s
     replace hl0 := RE.mono le8 hl0
     replace hr0 := RE.mono le8 hr0
     replace hl := le8 _ _ hl
     replace hr := le8 _ _ hr
     obtain rfl := h8
     refine ops_rule (C := []) [] [] 1 [] 0 (fun φ9 => [(7, .int .u64 a)]) (fun φ9 => []) (fun φ9 => []) s trivial (fun φ9 => by kernel_rfl) ?_
     intro φ9 w9 s
     refine ops_done (by kernel_rfl) ?_
     refine wp_seq ?_
     refine seqR ?_
     refine ops_rule (C := []) [] [] 1 [] 0 (fun φ10 => [(40, pB kb)]) (fun φ10 => []) (fun φ10 => []) s trivial (fun φ10 => by kernel_rfl) ?_
     intro φ10 w10 s
     refine call_rule (some 41) s (rminB_c hr0 hnb htb) (by kernel_rfl) ?_
     intro v11 I11 w11 le11 h11 s
     replace hl0 := RE.mono le11 hl0
     replace hr0 := RE.mono le11 hr0
     replace hl := le11 _ _ hl
     replace hr := le11 _ _ hr
     obtain rfl := h11
     refine ops_rule (C := []) [] [] 2 [] 0 (fun φ12 => [(43, .bool (decide (((b : Nat) : Int) < ((a : Nat) : Int)))), (42, .int .u64 a)]) (fun φ12 => []) (fun φ12 => []) s trivial (fun φ12 => by kernel_rfl) ?_
     intro φ12 w12 s
     rw [nat_lss (a := b) (b := a)]
     refine ops_done (by kernel_rfl) ?_
     rcases Bool.eq_false_or_eq_true (decide (b < a)) with hc13 | hc13
     ·
      rw [hc13]
      refine cond_true_rule (b := true) (by kernel_rfl) rfl ?_
      refine region_rule ?_
      refine ops_rule (C := []) [] [] 1 [] 0 (fun φ14 => [(44, pB kb)]) (fun φ14 => []) (fun φ14 => []) s trivial (fun φ14 => by kernel_rfl) ?_
      intro φ14 w14 s
      refine call_rule (some 45) s (rminB_c hr0 hnb htb) (by kernel_rfl) ?_
      intro v15 I15 w15 le15 h15 s
      replace hl0 := RE.mono le15 hl0
      replace hr0 := RE.mono le15 hr0
      replace hl := le15 _ _ hl
      replace hr := le15 _ _ hr
      obtain rfl := h15
      refine ops_rule (C := []) [] [] 1 [] 0 (fun φ16 => [(7, .int .u64 b)]) (fun φ16 => []) (fun φ16 => []) s trivial (fun φ16 => by kernel_rfl) ?_
      intro φ16 w16 s
      refine ops_done (by kernel_rfl) ?_
      refine wp_seq ?_
      refine draw_rule (C := [(ka, .cells #[.int .u64 a, .pointer none, .pointer none] 87), (kb, .cells #[.int .u64 b, .pointer none, .pointer none] 87)]) ⟨(fun φ17 xs17 => [.look 0 [] [], .look 0 [] [], .sub 0 [] [] (.int .u64 (IntKind.wrap .u64 (((n : Nat) : Int) + ((b : Nat) : Int)))), .look 0 [] [], .look 0 [] [], .look 0 [] [], .look 0 [.c 0] [ka], .look 0 [] [], .sub 0 [] [] (.int .u64 (IntKind.wrap .u64 (((a : Nat) : Int) - ((b : Nat) : Int)))), .look 0 [] [], .look 0 [] [], .look 0 [] [], .look 0 [.c 0] [ka], .look 0 [] [], .look 0 [] [], .look 0 [] [], .look 0 [.c 0] [ka], .look 0 [] [], .new, .look 0 [] [], .look 0 [] [], .look 0 [] [], .look 0 [.c 1] [kb], .look 0 [] [], .sub 0 [] [] (.int .u64 (IntKind.wrap .u64 (((b : Nat) : Int) - ((b : Nat) : Int)))), .look 0 [] [], .look 0 [] [], .look 0 [] [], .look 0 [.c 1] [kb], .look 0 [] [], .look 0 [] [], .look 0 [] [], .look 0 [.c 1] [kb], .look 0 [] [], .new, .look 0 [] [], .new, .look 0 [] []]), (fun φ17 xs17 => [.int .u64 n, .int .u64 b, .int .u64 ((n + b : Nat) : Int), pB ka, pB ka, pB ka, .int .u64 a, .int .u64 b, .int .u64 ((a - b : Nat) : Int), pB ka, pB ka, .pointer (some ⟨ka, 1, none⟩), .pointer none, pB ka, pB ka, .pointer (some ⟨ka, 2, none⟩), .pointer none, .agg #[.int .u64 ((a - b : Nat) : Int), .pointer none, .pointer none], pB (φ17 18), pB kb, pB kb, pB kb, .int .u64 b, .int .u64 b, .int .u64 ((b - b : Nat) : Int), pB kb, pB kb, .pointer (some ⟨kb, 1, none⟩), .pointer none, pB kb, pB kb, .pointer (some ⟨kb, 2, none⟩), .pointer none, .agg #[.int .u64 ((b - b : Nat) : Int), .pointer none, .pointer none], pB (φ17 34), .agg #[.int .u64 ((n + b : Nat) : Int), pB (φ17 18), pB (φ17 34)], pB (φ17 36), pB (φ17 36)]), (fun φ17 xs17 => [[]]), (fun φ17 xs17 => [[default, default, default, default, default, default, default, default, default, default, default, default, default, default, default, default, default, default, .cells #[.int .u64 ((a - b : Nat) : Int), .pointer none, .pointer none] 87, default, default, default, default, default, default, default, default, default, default, default, default, default, default, default, .cells #[.int .u64 ((b - b : Nat) : Int), .pointer none, .pointer none] 87, default, .cells #[.int .u64 ((n + b : Nat) : Int), pB (φ17 18), pB (φ17 34)] 87, default]]), [], [1, 1, 5, 1, 1, 1, 1, 1, 5, 1, 1, 1, 1, 1, 1, 1, 1, 1, 2, 1, 1, 1, 1, 1, 5, 1, 1, 1, 1, 1, 1, 1, 1, 1, 2, 1, 2, 1]⟩ (fun j => ([MP.any] : List MP).getD j MP.any) [] [2, 8, 24] [] (fun φ17 xs17 => []) (fun φ17 xs17 => [(46, .int .u64 n), (47, .int .u64 b), (48, .int .u64 ((n + b : Nat) : Int)), (49, pB ka), (50, pB ka), (51, pB ka), (52, .int .u64 a), (53, .int .u64 b), (54, .int .u64 ((a - b : Nat) : Int)), (55, pB ka), (56, pB ka), (57, .pointer (some ⟨ka, 1, none⟩)), (58, .pointer none), (59, pB ka), (60, pB ka), (61, .pointer (some ⟨ka, 2, none⟩)), (62, .pointer none), (63, .agg #[.int .u64 ((a - b : Nat) : Int), .pointer none, .pointer none]), (64, pB (φ17 18)), (65, pB kb), (66, pB kb), (67, pB kb), (68, .int .u64 b), (69, .int .u64 b), (70, .int .u64 ((b - b : Nat) : Int)), (71, pB kb), (72, pB kb), (73, .pointer (some ⟨kb, 1, none⟩)), (74, .pointer none), (75, pB kb), (76, pB kb), (77, .pointer (some ⟨kb, 2, none⟩)), (78, .pointer none), (79, .agg #[.int .u64 ((b - b : Nat) : Int), .pointer none, .pointer none]), (80, pB (φ17 34)), (81, .agg #[.int .u64 ((n + b : Nat) : Int), pB (φ17 18), pB (φ17 34)]), (82, pB (φ17 36)), (6, pB (φ17 36))]) (fun φ17 xs17 => [(φ17 18, .cells #[.int .u64 ((a - b : Nat) : Int), .pointer none, .pointer none] 87), (φ17 34, .cells #[.int .u64 ((b - b : Nat) : Int), .pointer none, .pointer none] 87), (φ17 36, .cells #[.int .u64 ((n + b : Nat) : Int), pB (φ17 18), pB (φ17 34)] 87)]) s ⟨hl, ⟨hr, trivial⟩⟩ (by kernel_rfl) (by kernel_rfl) (fun _ _ => by kernel_rfl) (fun _ _ => by kernel_rfl) ⟨fun _ _ => by kernel_rfl, fun _ _ => by kernel_rfl, fun _ _ => by kernel_rfl, fun _ _ => by kernel_rfl⟩ (fun _ _ _ => by kernel_rfl) (fun _ _ => by kernel_rfl) (fun _ _ => by kernel_rfl) (fun _ _ => by kernel_rfl) (fun _ _ => by kernel_rfl) (fun _ _ => by kernel_rfl) ⟨kcast (A := ∀ (φ17 : Nat → Nat) (xs17 : Xs), (.int .u64 (IntKind.wrap .u64 (((n : Nat) : Int) + ((b : Nat) : Int))) : Value) = .int .u64 ((n + b : Nat) : Int)) (by kernel_rfl) (fun φ17 xs17 => congrArg (Value.int .u64) ((nat_addU (a := n) (b := b) (by have hq0 := of_decide_eq_false hc3; have hq1 := of_decide_eq_true hc13; omega)))), ⟨kcast (A := ∀ (φ17 : Nat → Nat) (xs17 : Xs), (.int .u64 (IntKind.wrap .u64 (((a : Nat) : Int) - ((b : Nat) : Int))) : Value) = .int .u64 ((a - b : Nat) : Int)) (by kernel_rfl) (fun φ17 xs17 => congrArg (Value.int .u64) ((nat_subU (a := a) (b := b) (by have hq0 := of_decide_eq_false hc3; have hq1 := of_decide_eq_true hc13; omega) (by have hq0 := of_decide_eq_false hc3; have hq1 := of_decide_eq_true hc13; omega)))), ⟨kcast (A := ∀ (φ17 : Nat → Nat) (xs17 : Xs), (.int .u64 (IntKind.wrap .u64 (((b : Nat) : Int) - ((b : Nat) : Int))) : Value) = .int .u64 ((b - b : Nat) : Int)) (by kernel_rfl) (fun φ17 xs17 => congrArg (Value.int .u64) ((nat_subU (a := b) (b := b) (by have hq0 := of_decide_eq_false hc3; have hq1 := of_decide_eq_true hc13; omega) (by have hq0 := of_decide_eq_false hc3; have hq1 := of_decide_eq_true hc13; omega)))), trivial⟩⟩⟩ trivial (by kernel_rfl) trivial ?k17
      case k17 =>
       rintro φ17 xs17 I17 w17 le17 s 
       replace hl0 := RE.mono le17 hl0
       replace hr0 := RE.mono le17 hr0
       replace hl := le17 _ _ hl
       replace hr := le17 _ _ hr
       refine wp_ret ?_
       refine ret_rule (C := []) [(φ17 18, .cells #[.int .u64 ((a - b : Nat) : Int), .pointer none, .pointer none] 87), (φ17 34, .cells #[.int .u64 ((b - b : Nat) : Int), .pointer none, .pointer none] 87), (φ17 36, .cells #[.int .u64 ((n + b : Nat) : Int), pB (φ17 18), pB (φ17 34)] 87)] [] (pB (φ17 36)) [] [] s trivial (by kernel_rfl) ?_
       obtain ⟨I18, le18, hk18, s⟩ := s.freezeAt 0 (φ17 18) (.cells #[.int .u64 ((a - b : Nat) : Int), .pointer none, .pointer none] 87) [((φ17 34), .cells #[.int .u64 ((b - b : Nat) : Int), .pointer none, .pointer none] 87), ((φ17 36), .cells #[.int .u64 ((n + b : Nat) : Int), .pointer (some ⟨(φ17 18), 0, none⟩), .pointer (some ⟨(φ17 34), 0, none⟩)] 87)] (by kernel_rfl) (by kernel_rfl)
       replace hl0 := RE.mono le18 hl0
       replace hr0 := RE.mono le18 hr0
       replace hl := le18 _ _ hl
       replace hr := le18 _ _ hr
       obtain ⟨I19, le19, hk19, s⟩ := s.freezeAt 0 (φ17 34) (.cells #[.int .u64 ((b - b : Nat) : Int), .pointer none, .pointer none] 87) [((φ17 36), .cells #[.int .u64 ((n + b : Nat) : Int), .pointer (some ⟨(φ17 18), 0, none⟩), .pointer (some ⟨(φ17 34), 0, none⟩)] 87)] (by kernel_rfl) (by kernel_rfl)
       replace hl0 := RE.mono le19 hl0
       replace hr0 := RE.mono le19 hr0
       replace hl := le19 _ _ hl
       replace hr := le19 _ _ hr
       replace hk18 := le19 _ _ hk18
       obtain ⟨I20, le20, hk20, s⟩ := s.freezeAt 0 (φ17 36) (.cells #[.int .u64 ((n + b : Nat) : Int), .pointer (some ⟨(φ17 18), 0, none⟩), .pointer (some ⟨(φ17 34), 0, none⟩)] 87) [] (by kernel_rfl) (by kernel_rfl)
       replace hl0 := RE.mono le20 hl0
       replace hr0 := RE.mono le20 hr0
       replace hl := le20 _ _ hl
       replace hr := le20 _ _ hr
       replace hk18 := le20 _ _ hk18
       replace hk19 := le20 _ _ hk19
       have hcm := of_decide_eq_true hc13
       exact ⟨_, _, _, rfl, s, ⟨_, rfl, by rw [mk_node9 (l := E.leaf a) (r := E.leaf b) (m := b) (fun q => (of_decide_eq_false hc3) q.2.2) (show min a b = b by omega)]; exact ⟨_, _, hk20, hk18, hk19⟩⟩⟩
     ·
      rw [hc13]
      refine cond_false_rule (b := false) (by kernel_rfl) rfl ?_
      refine wp_skip ?_
      refine wp_seq ?_
      refine draw_rule (C := [(ka, .cells #[.int .u64 a, .pointer none, .pointer none] 87), (kb, .cells #[.int .u64 b, .pointer none, .pointer none] 87)]) ⟨(fun φ21 xs21 => [.look 0 [] [], .look 0 [] [], .sub 0 [] [] (.int .u64 (IntKind.wrap .u64 (((n : Nat) : Int) + ((a : Nat) : Int)))), .look 0 [] [], .look 0 [] [], .look 0 [] [], .look 0 [.c 0] [ka], .look 0 [] [], .sub 0 [] [] (.int .u64 (IntKind.wrap .u64 (((a : Nat) : Int) - ((a : Nat) : Int)))), .look 0 [] [], .look 0 [] [], .look 0 [] [], .look 0 [.c 0] [ka], .look 0 [] [], .look 0 [] [], .look 0 [] [], .look 0 [.c 0] [ka], .look 0 [] [], .new, .look 0 [] [], .look 0 [] [], .look 0 [] [], .look 0 [.c 1] [kb], .look 0 [] [], .sub 0 [] [] (.int .u64 (IntKind.wrap .u64 (((b : Nat) : Int) - ((a : Nat) : Int)))), .look 0 [] [], .look 0 [] [], .look 0 [] [], .look 0 [.c 1] [kb], .look 0 [] [], .look 0 [] [], .look 0 [] [], .look 0 [.c 1] [kb], .look 0 [] [], .new, .look 0 [] [], .new, .look 0 [] []]), (fun φ21 xs21 => [.int .u64 n, .int .u64 a, .int .u64 ((n + a : Nat) : Int), pB ka, pB ka, pB ka, .int .u64 a, .int .u64 a, .int .u64 ((a - a : Nat) : Int), pB ka, pB ka, .pointer (some ⟨ka, 1, none⟩), .pointer none, pB ka, pB ka, .pointer (some ⟨ka, 2, none⟩), .pointer none, .agg #[.int .u64 ((a - a : Nat) : Int), .pointer none, .pointer none], pB (φ21 18), pB kb, pB kb, pB kb, .int .u64 b, .int .u64 a, .int .u64 ((b - a : Nat) : Int), pB kb, pB kb, .pointer (some ⟨kb, 1, none⟩), .pointer none, pB kb, pB kb, .pointer (some ⟨kb, 2, none⟩), .pointer none, .agg #[.int .u64 ((b - a : Nat) : Int), .pointer none, .pointer none], pB (φ21 34), .agg #[.int .u64 ((n + a : Nat) : Int), pB (φ21 18), pB (φ21 34)], pB (φ21 36), pB (φ21 36)]), (fun φ21 xs21 => [[]]), (fun φ21 xs21 => [[default, default, default, default, default, default, default, default, default, default, default, default, default, default, default, default, default, default, .cells #[.int .u64 ((a - a : Nat) : Int), .pointer none, .pointer none] 87, default, default, default, default, default, default, default, default, default, default, default, default, default, default, default, .cells #[.int .u64 ((b - a : Nat) : Int), .pointer none, .pointer none] 87, default, .cells #[.int .u64 ((n + a : Nat) : Int), pB (φ21 18), pB (φ21 34)] 87, default]]), [], [1, 1, 5, 1, 1, 1, 1, 1, 5, 1, 1, 1, 1, 1, 1, 1, 1, 1, 2, 1, 1, 1, 1, 1, 5, 1, 1, 1, 1, 1, 1, 1, 1, 1, 2, 1, 2, 1]⟩ (fun j => ([MP.any] : List MP).getD j MP.any) [] [2, 8, 24] [] (fun φ21 xs21 => []) (fun φ21 xs21 => [(46, .int .u64 n), (47, .int .u64 a), (48, .int .u64 ((n + a : Nat) : Int)), (49, pB ka), (50, pB ka), (51, pB ka), (52, .int .u64 a), (53, .int .u64 a), (54, .int .u64 ((a - a : Nat) : Int)), (55, pB ka), (56, pB ka), (57, .pointer (some ⟨ka, 1, none⟩)), (58, .pointer none), (59, pB ka), (60, pB ka), (61, .pointer (some ⟨ka, 2, none⟩)), (62, .pointer none), (63, .agg #[.int .u64 ((a - a : Nat) : Int), .pointer none, .pointer none]), (64, pB (φ21 18)), (65, pB kb), (66, pB kb), (67, pB kb), (68, .int .u64 b), (69, .int .u64 a), (70, .int .u64 ((b - a : Nat) : Int)), (71, pB kb), (72, pB kb), (73, .pointer (some ⟨kb, 1, none⟩)), (74, .pointer none), (75, pB kb), (76, pB kb), (77, .pointer (some ⟨kb, 2, none⟩)), (78, .pointer none), (79, .agg #[.int .u64 ((b - a : Nat) : Int), .pointer none, .pointer none]), (80, pB (φ21 34)), (81, .agg #[.int .u64 ((n + a : Nat) : Int), pB (φ21 18), pB (φ21 34)]), (82, pB (φ21 36)), (6, pB (φ21 36))]) (fun φ21 xs21 => [(φ21 18, .cells #[.int .u64 ((a - a : Nat) : Int), .pointer none, .pointer none] 87), (φ21 34, .cells #[.int .u64 ((b - a : Nat) : Int), .pointer none, .pointer none] 87), (φ21 36, .cells #[.int .u64 ((n + a : Nat) : Int), pB (φ21 18), pB (φ21 34)] 87)]) s ⟨hl, ⟨hr, trivial⟩⟩ (by kernel_rfl) (by kernel_rfl) (fun _ _ => by kernel_rfl) (fun _ _ => by kernel_rfl) ⟨fun _ _ => by kernel_rfl, fun _ _ => by kernel_rfl, fun _ _ => by kernel_rfl, fun _ _ => by kernel_rfl⟩ (fun _ _ _ => by kernel_rfl) (fun _ _ => by kernel_rfl) (fun _ _ => by kernel_rfl) (fun _ _ => by kernel_rfl) (fun _ _ => by kernel_rfl) (fun _ _ => by kernel_rfl) ⟨kcast (A := ∀ (φ21 : Nat → Nat) (xs21 : Xs), (.int .u64 (IntKind.wrap .u64 (((n : Nat) : Int) + ((a : Nat) : Int))) : Value) = .int .u64 ((n + a : Nat) : Int)) (by kernel_rfl) (fun φ21 xs21 => congrArg (Value.int .u64) ((nat_addU (a := n) (b := a) (by have hq0 := of_decide_eq_false hc3; have hq1 := of_decide_eq_false hc13; omega)))), ⟨kcast (A := ∀ (φ21 : Nat → Nat) (xs21 : Xs), (.int .u64 (IntKind.wrap .u64 (((a : Nat) : Int) - ((a : Nat) : Int))) : Value) = .int .u64 ((a - a : Nat) : Int)) (by kernel_rfl) (fun φ21 xs21 => congrArg (Value.int .u64) ((nat_subU (a := a) (b := a) (by have hq0 := of_decide_eq_false hc3; have hq1 := of_decide_eq_false hc13; omega) (by have hq0 := of_decide_eq_false hc3; have hq1 := of_decide_eq_false hc13; omega)))), ⟨kcast (A := ∀ (φ21 : Nat → Nat) (xs21 : Xs), (.int .u64 (IntKind.wrap .u64 (((b : Nat) : Int) - ((a : Nat) : Int))) : Value) = .int .u64 ((b - a : Nat) : Int)) (by kernel_rfl) (fun φ21 xs21 => congrArg (Value.int .u64) ((nat_subU (a := b) (b := a) (by have hq0 := of_decide_eq_false hc3; have hq1 := of_decide_eq_false hc13; omega) (by have hq0 := of_decide_eq_false hc3; have hq1 := of_decide_eq_false hc13; omega)))), trivial⟩⟩⟩ trivial (by kernel_rfl) trivial ?k21
      case k21 =>
       rintro φ21 xs21 I21 w21 le21 s 
       replace hl0 := RE.mono le21 hl0
       replace hr0 := RE.mono le21 hr0
       replace hl := le21 _ _ hl
       replace hr := le21 _ _ hr
       refine wp_ret ?_
       refine ret_rule (C := []) [(φ21 18, .cells #[.int .u64 ((a - a : Nat) : Int), .pointer none, .pointer none] 87), (φ21 34, .cells #[.int .u64 ((b - a : Nat) : Int), .pointer none, .pointer none] 87), (φ21 36, .cells #[.int .u64 ((n + a : Nat) : Int), pB (φ21 18), pB (φ21 34)] 87)] [] (pB (φ21 36)) [] [] s trivial (by kernel_rfl) ?_
       obtain ⟨I22, le22, hk22, s⟩ := s.freezeAt 0 (φ21 18) (.cells #[.int .u64 ((a - a : Nat) : Int), .pointer none, .pointer none] 87) [((φ21 34), .cells #[.int .u64 ((b - a : Nat) : Int), .pointer none, .pointer none] 87), ((φ21 36), .cells #[.int .u64 ((n + a : Nat) : Int), .pointer (some ⟨(φ21 18), 0, none⟩), .pointer (some ⟨(φ21 34), 0, none⟩)] 87)] (by kernel_rfl) (by kernel_rfl)
       replace hl0 := RE.mono le22 hl0
       replace hr0 := RE.mono le22 hr0
       replace hl := le22 _ _ hl
       replace hr := le22 _ _ hr
       obtain ⟨I23, le23, hk23, s⟩ := s.freezeAt 0 (φ21 34) (.cells #[.int .u64 ((b - a : Nat) : Int), .pointer none, .pointer none] 87) [((φ21 36), .cells #[.int .u64 ((n + a : Nat) : Int), .pointer (some ⟨(φ21 18), 0, none⟩), .pointer (some ⟨(φ21 34), 0, none⟩)] 87)] (by kernel_rfl) (by kernel_rfl)
       replace hl0 := RE.mono le23 hl0
       replace hr0 := RE.mono le23 hr0
       replace hl := le23 _ _ hl
       replace hr := le23 _ _ hr
       replace hk22 := le23 _ _ hk22
       obtain ⟨I24, le24, hk24, s⟩ := s.freezeAt 0 (φ21 36) (.cells #[.int .u64 ((n + a : Nat) : Int), .pointer (some ⟨(φ21 18), 0, none⟩), .pointer (some ⟨(φ21 34), 0, none⟩)] 87) [] (by kernel_rfl) (by kernel_rfl)
       replace hl0 := RE.mono le24 hl0
       replace hr0 := RE.mono le24 hr0
       replace hl := le24 _ _ hl
       replace hr := le24 _ _ hr
       replace hk22 := le24 _ _ hk22
       replace hk23 := le24 _ _ hk23
       have hcm := of_decide_eq_false hc13
       exact ⟨_, _, _, rfl, s, ⟨_, rfl, by rw [mk_node9 (l := E.leaf a) (r := E.leaf b) (m := a) (fun q => (of_decide_eq_false hc3) q.2.2) (show min a b = a by omega)]; exact ⟨_, _, hk24, hk22, hk23⟩⟩⟩
  | node b b1 b2 =>
   have hna := hnl
   have hta := htl
   have hl0 : RE _ (E.leaf a) ka := hl
   have hab : a ≤ (E.leaf a).top := hbl
   have hnb := hnr
   have htb := htr
   have hr0 : RE _ (E.node b b1 b2) kb := hr
   have hbb : b ≤ (E.node b b1 b2).top := hbr
   obtain ⟨kb1, kb2, hrk, hb1, hb2⟩ := hr
   refine enter_rule 83 [(0, .int .u64 n), (1, pB ka), (2, pB kb)] Try.func70 rfl (by kernel_rfl) ?_
   intro w s
   refine seqR ?_
   refine ops_rule (C := []) [] [] 1 [] 0 (fun φ1 => [(6, .pointer none)]) (fun φ1 => []) (fun φ1 => []) s trivial (fun φ1 => by kernel_rfl) ?_
   intro φ1 w1 s
   refine ops_done (by kernel_rfl) ?_
   refine wp_seq ?_
   refine wp_seq ?_
   refine draw_rule (C := [(ka, .cells #[.int .u64 a, .pointer none, .pointer none] 87), (kb, .cells #[.int .u64 b, pB kb1, pB kb2] 87)]) ⟨(fun φ2 xs2 => [.look 0 [] [], .look 0 [] [], .look 0 [] [], .look 0 [.c 0] [ka], .look 0 [] [], .look 0 [] [], .look 0 [] [], .look 0 [] [], .look 0 [] [], .look 0 [.c 1] [kb], .look 0 [] [], .look 0 [] [], .look 0 [] [], .skip, .skip, .skip, .skip, .skip, .skip, .skip, .skip, .skip, .look 0 [] []]), (fun φ2 xs2 => [pB ka, pB ka, .pointer (some ⟨ka, 1, none⟩), .pointer none, .bool true, .bool true, pB kb, pB kb, .pointer (some ⟨kb, 1, none⟩), pB kb1, .bool false, .bool false, .bool false, undef, undef, undef, undef, undef, undef, undef, undef, undef, .bool false]), (fun φ2 xs2 => [[]]), (fun φ2 xs2 => [[default, default, default, default, default, default, default, default, default, default, default, default, default, default, default, default, default, default, default, default, default, default, default]]), [], [1, 1, 1, 1, 1, 1, 1, 1, 1, 1, 1, 1, 1, 0, 0, 0, 0, 0, 0, 0, 0, 0, 1]⟩ (fun j => ([MP.any] : List MP).getD j MP.any) [] [] [] (fun φ2 xs2 => []) (fun φ2 xs2 => [(8, pB ka), (9, pB ka), (10, .pointer (some ⟨ka, 1, none⟩)), (11, .pointer none), (12, .bool true), (13, .bool true), (14, pB kb), (15, pB kb), (16, .pointer (some ⟨kb, 1, none⟩)), (17, pB kb1), (18, .bool false), (19, .bool false), (20, .bool false), (21, undef), (22, undef), (23, undef), (24, undef), (25, undef), (26, undef), (27, undef), (28, undef), (29, undef), (30, .bool false)]) (fun φ2 xs2 => []) s ⟨hl, ⟨hrk, trivial⟩⟩ (by kernel_rfl) (by kernel_rfl) (fun _ _ => by kernel_rfl) (fun _ _ => by kernel_rfl) ⟨fun _ _ => by kernel_rfl, fun _ _ => by kernel_rfl, fun _ _ => by kernel_rfl, fun _ _ => by kernel_rfl⟩ (fun _ _ _ => by kernel_rfl) (fun _ _ => by kernel_rfl) (fun _ _ => by kernel_rfl) (fun _ _ => by kernel_rfl) (fun _ _ => by kernel_rfl) (fun _ _ => by kernel_rfl) trivial trivial (by kernel_rfl) trivial ?k2
   case k2 =>
    rintro φ2 xs2 I2 w2 le2 s 
    replace hl0 := RE.mono le2 hl0
    replace hb1 := RE.mono le2 hb1
    replace hb2 := RE.mono le2 hb2
    replace hr0 := RE.mono le2 hr0
    replace hl := le2 _ _ hl
    replace hrk := le2 _ _ hrk
    refine cond_false_rule (b := false) (by kernel_rfl) rfl ?_
    refine wp_skip ?_
    refine seqR ?_
    refine ops_rule (C := []) [] [] 1 [] 0 (fun φ3 => [(38, pB ka)]) (fun φ3 => []) (fun φ3 => []) s trivial (fun φ3 => by kernel_rfl) ?_
    intro φ3 w3 s
    refine call_rule (some 39) s (rminB_c hl0 hna hta) (by kernel_rfl) ?_
    intro v4 I4 w4 le4 h4 s
    replace hl0 := RE.mono le4 hl0
    replace hb1 := RE.mono le4 hb1
    replace hb2 := RE.mono le4 hb2
    replace hr0 := RE.mono le4 hr0
    replace hl := le4 _ _ hl
    replace hrk := le4 _ _ hrk
    obtain rfl := h4
    refine ops_rule (C := []) [] [] 1 [] 0 (fun φ5 => [(7, .int .u64 a)]) (fun φ5 => []) (fun φ5 => []) s trivial (fun φ5 => by kernel_rfl) ?_
    intro φ5 w5 s
    refine ops_done (by kernel_rfl) ?_
    refine wp_seq ?_
    refine seqR ?_
    refine ops_rule (C := []) [] [] 1 [] 0 (fun φ6 => [(40, pB kb)]) (fun φ6 => []) (fun φ6 => []) s trivial (fun φ6 => by kernel_rfl) ?_
    intro φ6 w6 s
    refine call_rule (some 41) s (rminB_c hr0 hnb htb) (by kernel_rfl) ?_
    intro v7 I7 w7 le7 h7 s
    replace hl0 := RE.mono le7 hl0
    replace hb1 := RE.mono le7 hb1
    replace hb2 := RE.mono le7 hb2
    replace hr0 := RE.mono le7 hr0
    replace hl := le7 _ _ hl
    replace hrk := le7 _ _ hrk
    obtain rfl := h7
    refine ops_rule (C := []) [] [] 2 [] 0 (fun φ8 => [(43, .bool (decide (((b : Nat) : Int) < ((a : Nat) : Int)))), (42, .int .u64 a)]) (fun φ8 => []) (fun φ8 => []) s trivial (fun φ8 => by kernel_rfl) ?_
    intro φ8 w8 s
    rw [nat_lss (a := b) (b := a)]
    refine ops_done (by kernel_rfl) ?_
    rcases Bool.eq_false_or_eq_true (decide (b < a)) with hc9 | hc9
    ·
     rw [hc9]
     refine cond_true_rule (b := true) (by kernel_rfl) rfl ?_
     refine region_rule ?_
     refine ops_rule (C := []) [] [] 1 [] 0 (fun φ10 => [(44, pB kb)]) (fun φ10 => []) (fun φ10 => []) s trivial (fun φ10 => by kernel_rfl) ?_
     intro φ10 w10 s
     refine call_rule (some 45) s (rminB_c hr0 hnb htb) (by kernel_rfl) ?_
     intro v11 I11 w11 le11 h11 s
     replace hl0 := RE.mono le11 hl0
     replace hb1 := RE.mono le11 hb1
     replace hb2 := RE.mono le11 hb2
     replace hr0 := RE.mono le11 hr0
     replace hl := le11 _ _ hl
     replace hrk := le11 _ _ hrk
     obtain rfl := h11
     refine ops_rule (C := []) [] [] 1 [] 0 (fun φ12 => [(7, .int .u64 b)]) (fun φ12 => []) (fun φ12 => []) s trivial (fun φ12 => by kernel_rfl) ?_
     intro φ12 w12 s
     refine ops_done (by kernel_rfl) ?_
     refine wp_seq ?_
     refine draw_rule (C := [(ka, .cells #[.int .u64 a, .pointer none, .pointer none] 87), (kb, .cells #[.int .u64 b, pB kb1, pB kb2] 87)]) ⟨(fun φ13 xs13 => [.look 0 [] [], .look 0 [] [], .sub 0 [] [] (.int .u64 (IntKind.wrap .u64 (((n : Nat) : Int) + ((b : Nat) : Int)))), .look 0 [] [], .look 0 [] [], .look 0 [] [], .look 0 [.c 0] [ka], .look 0 [] [], .sub 0 [] [] (.int .u64 (IntKind.wrap .u64 (((a : Nat) : Int) - ((b : Nat) : Int)))), .look 0 [] [], .look 0 [] [], .look 0 [] [], .look 0 [.c 0] [ka], .look 0 [] [], .look 0 [] [], .look 0 [] [], .look 0 [.c 0] [ka], .look 0 [] [], .new, .look 0 [] [], .look 0 [] [], .look 0 [] [], .look 0 [.c 1] [kb], .look 0 [] [], .sub 0 [] [] (.int .u64 (IntKind.wrap .u64 (((b : Nat) : Int) - ((b : Nat) : Int)))), .look 0 [] [], .look 0 [] [], .look 0 [] [], .look 0 [.c 1] [kb], .look 0 [] [], .look 0 [] [], .look 0 [] [], .look 0 [.c 1] [kb], .look 0 [] [], .new, .look 0 [] [], .new, .look 0 [] []]), (fun φ13 xs13 => [.int .u64 n, .int .u64 b, .int .u64 ((n + b : Nat) : Int), pB ka, pB ka, pB ka, .int .u64 a, .int .u64 b, .int .u64 ((a - b : Nat) : Int), pB ka, pB ka, .pointer (some ⟨ka, 1, none⟩), .pointer none, pB ka, pB ka, .pointer (some ⟨ka, 2, none⟩), .pointer none, .agg #[.int .u64 ((a - b : Nat) : Int), .pointer none, .pointer none], pB (φ13 18), pB kb, pB kb, pB kb, .int .u64 b, .int .u64 b, .int .u64 ((b - b : Nat) : Int), pB kb, pB kb, .pointer (some ⟨kb, 1, none⟩), pB kb1, pB kb, pB kb, .pointer (some ⟨kb, 2, none⟩), pB kb2, .agg #[.int .u64 ((b - b : Nat) : Int), pB kb1, pB kb2], pB (φ13 34), .agg #[.int .u64 ((n + b : Nat) : Int), pB (φ13 18), pB (φ13 34)], pB (φ13 36), pB (φ13 36)]), (fun φ13 xs13 => [[]]), (fun φ13 xs13 => [[default, default, default, default, default, default, default, default, default, default, default, default, default, default, default, default, default, default, .cells #[.int .u64 ((a - b : Nat) : Int), .pointer none, .pointer none] 87, default, default, default, default, default, default, default, default, default, default, default, default, default, default, default, .cells #[.int .u64 ((b - b : Nat) : Int), pB kb1, pB kb2] 87, default, .cells #[.int .u64 ((n + b : Nat) : Int), pB (φ13 18), pB (φ13 34)] 87, default]]), [], [1, 1, 5, 1, 1, 1, 1, 1, 5, 1, 1, 1, 1, 1, 1, 1, 1, 1, 2, 1, 1, 1, 1, 1, 5, 1, 1, 1, 1, 1, 1, 1, 1, 1, 2, 1, 2, 1]⟩ (fun j => ([MP.any] : List MP).getD j MP.any) [] [2, 8, 24] [] (fun φ13 xs13 => []) (fun φ13 xs13 => [(46, .int .u64 n), (47, .int .u64 b), (48, .int .u64 ((n + b : Nat) : Int)), (49, pB ka), (50, pB ka), (51, pB ka), (52, .int .u64 a), (53, .int .u64 b), (54, .int .u64 ((a - b : Nat) : Int)), (55, pB ka), (56, pB ka), (57, .pointer (some ⟨ka, 1, none⟩)), (58, .pointer none), (59, pB ka), (60, pB ka), (61, .pointer (some ⟨ka, 2, none⟩)), (62, .pointer none), (63, .agg #[.int .u64 ((a - b : Nat) : Int), .pointer none, .pointer none]), (64, pB (φ13 18)), (65, pB kb), (66, pB kb), (67, pB kb), (68, .int .u64 b), (69, .int .u64 b), (70, .int .u64 ((b - b : Nat) : Int)), (71, pB kb), (72, pB kb), (73, .pointer (some ⟨kb, 1, none⟩)), (74, pB kb1), (75, pB kb), (76, pB kb), (77, .pointer (some ⟨kb, 2, none⟩)), (78, pB kb2), (79, .agg #[.int .u64 ((b - b : Nat) : Int), pB kb1, pB kb2]), (80, pB (φ13 34)), (81, .agg #[.int .u64 ((n + b : Nat) : Int), pB (φ13 18), pB (φ13 34)]), (82, pB (φ13 36)), (6, pB (φ13 36))]) (fun φ13 xs13 => [(φ13 18, .cells #[.int .u64 ((a - b : Nat) : Int), .pointer none, .pointer none] 87), (φ13 34, .cells #[.int .u64 ((b - b : Nat) : Int), pB kb1, pB kb2] 87), (φ13 36, .cells #[.int .u64 ((n + b : Nat) : Int), pB (φ13 18), pB (φ13 34)] 87)]) s ⟨hl, ⟨hrk, trivial⟩⟩ (by kernel_rfl) (by kernel_rfl) (fun _ _ => by kernel_rfl) (fun _ _ => by kernel_rfl) ⟨fun _ _ => by kernel_rfl, fun _ _ => by kernel_rfl, fun _ _ => by kernel_rfl, fun _ _ => by kernel_rfl⟩ (fun _ _ _ => by kernel_rfl) (fun _ _ => by kernel_rfl) (fun _ _ => by kernel_rfl) (fun _ _ => by kernel_rfl) (fun _ _ => by kernel_rfl) (fun _ _ => by kernel_rfl) ⟨kcast (A := ∀ (φ13 : Nat → Nat) (xs13 : Xs), (.int .u64 (IntKind.wrap .u64 (((n : Nat) : Int) + ((b : Nat) : Int))) : Value) = .int .u64 ((n + b : Nat) : Int)) (by kernel_rfl) (fun φ13 xs13 => congrArg (Value.int .u64) ((nat_addU (a := n) (b := b) (by have hq0 := of_decide_eq_true hc9; omega)))), ⟨kcast (A := ∀ (φ13 : Nat → Nat) (xs13 : Xs), (.int .u64 (IntKind.wrap .u64 (((a : Nat) : Int) - ((b : Nat) : Int))) : Value) = .int .u64 ((a - b : Nat) : Int)) (by kernel_rfl) (fun φ13 xs13 => congrArg (Value.int .u64) ((nat_subU (a := a) (b := b) (by have hq0 := of_decide_eq_true hc9; omega) (by have hq0 := of_decide_eq_true hc9; omega)))), ⟨kcast (A := ∀ (φ13 : Nat → Nat) (xs13 : Xs), (.int .u64 (IntKind.wrap .u64 (((b : Nat) : Int) - ((b : Nat) : Int))) : Value) = .int .u64 ((b - b : Nat) : Int)) (by kernel_rfl) (fun φ13 xs13 => congrArg (Value.int .u64) ((nat_subU (a := b) (b := b) (by have hq0 := of_decide_eq_true hc9; omega) (by have hq0 := of_decide_eq_true hc9; omega)))), trivial⟩⟩⟩ trivial (by kernel_rfl) trivial ?k13
     case k13 =>
      rintro φ13 xs13 I13 w13 le13 s 
      replace hl0 := RE.mono le13 hl0
      replace hb1 := RE.mono le13 hb1
      replace hb2 := RE.mono le13 hb2
      replace hr0 := RE.mono le13 hr0
      replace hl := le13 _ _ hl
      replace hrk := le13 _ _ hrk
      refine wp_ret ?_
      refine ret_rule (C := []) [(φ13 18, .cells #[.int .u64 ((a - b : Nat) : Int), .pointer none, .pointer none] 87), (φ13 34, .cells #[.int .u64 ((b - b : Nat) : Int), pB kb1, pB kb2] 87), (φ13 36, .cells #[.int .u64 ((n + b : Nat) : Int), pB (φ13 18), pB (φ13 34)] 87)] [] (pB (φ13 36)) [] [] s trivial (by kernel_rfl) ?_
      obtain ⟨I14, le14, hk14, s⟩ := s.freezeAt 0 (φ13 18) (.cells #[.int .u64 ((a - b : Nat) : Int), .pointer none, .pointer none] 87) [((φ13 34), .cells #[.int .u64 ((b - b : Nat) : Int), .pointer (some ⟨kb1, 0, none⟩), .pointer (some ⟨kb2, 0, none⟩)] 87), ((φ13 36), .cells #[.int .u64 ((n + b : Nat) : Int), .pointer (some ⟨(φ13 18), 0, none⟩), .pointer (some ⟨(φ13 34), 0, none⟩)] 87)] (by kernel_rfl) (by kernel_rfl)
      replace hl0 := RE.mono le14 hl0
      replace hb1 := RE.mono le14 hb1
      replace hb2 := RE.mono le14 hb2
      replace hr0 := RE.mono le14 hr0
      replace hl := le14 _ _ hl
      replace hrk := le14 _ _ hrk
      obtain ⟨I15, le15, hk15, s⟩ := s.freezeAt 0 (φ13 34) (.cells #[.int .u64 ((b - b : Nat) : Int), .pointer (some ⟨kb1, 0, none⟩), .pointer (some ⟨kb2, 0, none⟩)] 87) [((φ13 36), .cells #[.int .u64 ((n + b : Nat) : Int), .pointer (some ⟨(φ13 18), 0, none⟩), .pointer (some ⟨(φ13 34), 0, none⟩)] 87)] (by kernel_rfl) (by kernel_rfl)
      replace hl0 := RE.mono le15 hl0
      replace hb1 := RE.mono le15 hb1
      replace hb2 := RE.mono le15 hb2
      replace hr0 := RE.mono le15 hr0
      replace hl := le15 _ _ hl
      replace hrk := le15 _ _ hrk
      replace hk14 := le15 _ _ hk14
      obtain ⟨I16, le16, hk16, s⟩ := s.freezeAt 0 (φ13 36) (.cells #[.int .u64 ((n + b : Nat) : Int), .pointer (some ⟨(φ13 18), 0, none⟩), .pointer (some ⟨(φ13 34), 0, none⟩)] 87) [] (by kernel_rfl) (by kernel_rfl)
      replace hl0 := RE.mono le16 hl0
      replace hb1 := RE.mono le16 hb1
      replace hb2 := RE.mono le16 hb2
      replace hr0 := RE.mono le16 hr0
      replace hl := le16 _ _ hl
      replace hrk := le16 _ _ hrk
      replace hk14 := le16 _ _ hk14
      replace hk15 := le16 _ _ hk15
      have hcm := of_decide_eq_true hc9
      exact ⟨_, _, _, rfl, s, ⟨_, rfl, by rw [mk_node9 (l := E.leaf a) (r := E.node b b1 b2) (m := b) (fun q => by cases q.2.1) (show min a b = b by omega)]; exact ⟨_, _, hk16, hk14, ⟨_, _, hk15, hb1, hb2⟩⟩⟩⟩
    ·
     rw [hc9]
     refine cond_false_rule (b := false) (by kernel_rfl) rfl ?_
     refine wp_skip ?_
     refine wp_seq ?_
     refine draw_rule (C := [(ka, .cells #[.int .u64 a, .pointer none, .pointer none] 87), (kb, .cells #[.int .u64 b, pB kb1, pB kb2] 87)]) ⟨(fun φ17 xs17 => [.look 0 [] [], .look 0 [] [], .sub 0 [] [] (.int .u64 (IntKind.wrap .u64 (((n : Nat) : Int) + ((a : Nat) : Int)))), .look 0 [] [], .look 0 [] [], .look 0 [] [], .look 0 [.c 0] [ka], .look 0 [] [], .sub 0 [] [] (.int .u64 (IntKind.wrap .u64 (((a : Nat) : Int) - ((a : Nat) : Int)))), .look 0 [] [], .look 0 [] [], .look 0 [] [], .look 0 [.c 0] [ka], .look 0 [] [], .look 0 [] [], .look 0 [] [], .look 0 [.c 0] [ka], .look 0 [] [], .new, .look 0 [] [], .look 0 [] [], .look 0 [] [], .look 0 [.c 1] [kb], .look 0 [] [], .sub 0 [] [] (.int .u64 (IntKind.wrap .u64 (((b : Nat) : Int) - ((a : Nat) : Int)))), .look 0 [] [], .look 0 [] [], .look 0 [] [], .look 0 [.c 1] [kb], .look 0 [] [], .look 0 [] [], .look 0 [] [], .look 0 [.c 1] [kb], .look 0 [] [], .new, .look 0 [] [], .new, .look 0 [] []]), (fun φ17 xs17 => [.int .u64 n, .int .u64 a, .int .u64 ((n + a : Nat) : Int), pB ka, pB ka, pB ka, .int .u64 a, .int .u64 a, .int .u64 ((a - a : Nat) : Int), pB ka, pB ka, .pointer (some ⟨ka, 1, none⟩), .pointer none, pB ka, pB ka, .pointer (some ⟨ka, 2, none⟩), .pointer none, .agg #[.int .u64 ((a - a : Nat) : Int), .pointer none, .pointer none], pB (φ17 18), pB kb, pB kb, pB kb, .int .u64 b, .int .u64 a, .int .u64 ((b - a : Nat) : Int), pB kb, pB kb, .pointer (some ⟨kb, 1, none⟩), pB kb1, pB kb, pB kb, .pointer (some ⟨kb, 2, none⟩), pB kb2, .agg #[.int .u64 ((b - a : Nat) : Int), pB kb1, pB kb2], pB (φ17 34), .agg #[.int .u64 ((n + a : Nat) : Int), pB (φ17 18), pB (φ17 34)], pB (φ17 36), pB (φ17 36)]), (fun φ17 xs17 => [[]]), (fun φ17 xs17 => [[default, default, default, default, default, default, default, default, default, default, default, default, default, default, default, default, default, default, .cells #[.int .u64 ((a - a : Nat) : Int), .pointer none, .pointer none] 87, default, default, default, default, default, default, default, default, default, default, default, default, default, default, default, .cells #[.int .u64 ((b - a : Nat) : Int), pB kb1, pB kb2] 87, default, .cells #[.int .u64 ((n + a : Nat) : Int), pB (φ17 18), pB (φ17 34)] 87, default]]), [], [1, 1, 5, 1, 1, 1, 1, 1, 5, 1, 1, 1, 1, 1, 1, 1, 1, 1, 2, 1, 1, 1, 1, 1, 5, 1, 1, 1, 1, 1, 1, 1, 1, 1, 2, 1, 2, 1]⟩ (fun j => ([MP.any] : List MP).getD j MP.any) [] [2, 8, 24] [] (fun φ17 xs17 => []) (fun φ17 xs17 => [(46, .int .u64 n), (47, .int .u64 a), (48, .int .u64 ((n + a : Nat) : Int)), (49, pB ka), (50, pB ka), (51, pB ka), (52, .int .u64 a), (53, .int .u64 a), (54, .int .u64 ((a - a : Nat) : Int)), (55, pB ka), (56, pB ka), (57, .pointer (some ⟨ka, 1, none⟩)), (58, .pointer none), (59, pB ka), (60, pB ka), (61, .pointer (some ⟨ka, 2, none⟩)), (62, .pointer none), (63, .agg #[.int .u64 ((a - a : Nat) : Int), .pointer none, .pointer none]), (64, pB (φ17 18)), (65, pB kb), (66, pB kb), (67, pB kb), (68, .int .u64 b), (69, .int .u64 a), (70, .int .u64 ((b - a : Nat) : Int)), (71, pB kb), (72, pB kb), (73, .pointer (some ⟨kb, 1, none⟩)), (74, pB kb1), (75, pB kb), (76, pB kb), (77, .pointer (some ⟨kb, 2, none⟩)), (78, pB kb2), (79, .agg #[.int .u64 ((b - a : Nat) : Int), pB kb1, pB kb2]), (80, pB (φ17 34)), (81, .agg #[.int .u64 ((n + a : Nat) : Int), pB (φ17 18), pB (φ17 34)]), (82, pB (φ17 36)), (6, pB (φ17 36))]) (fun φ17 xs17 => [(φ17 18, .cells #[.int .u64 ((a - a : Nat) : Int), .pointer none, .pointer none] 87), (φ17 34, .cells #[.int .u64 ((b - a : Nat) : Int), pB kb1, pB kb2] 87), (φ17 36, .cells #[.int .u64 ((n + a : Nat) : Int), pB (φ17 18), pB (φ17 34)] 87)]) s ⟨hl, ⟨hrk, trivial⟩⟩ (by kernel_rfl) (by kernel_rfl) (fun _ _ => by kernel_rfl) (fun _ _ => by kernel_rfl) ⟨fun _ _ => by kernel_rfl, fun _ _ => by kernel_rfl, fun _ _ => by kernel_rfl, fun _ _ => by kernel_rfl⟩ (fun _ _ _ => by kernel_rfl) (fun _ _ => by kernel_rfl) (fun _ _ => by kernel_rfl) (fun _ _ => by kernel_rfl) (fun _ _ => by kernel_rfl) (fun _ _ => by kernel_rfl) ⟨kcast (A := ∀ (φ17 : Nat → Nat) (xs17 : Xs), (.int .u64 (IntKind.wrap .u64 (((n : Nat) : Int) + ((a : Nat) : Int))) : Value) = .int .u64 ((n + a : Nat) : Int)) (by kernel_rfl) (fun φ17 xs17 => congrArg (Value.int .u64) ((nat_addU (a := n) (b := a) (by have hq0 := of_decide_eq_false hc9; omega)))), ⟨kcast (A := ∀ (φ17 : Nat → Nat) (xs17 : Xs), (.int .u64 (IntKind.wrap .u64 (((a : Nat) : Int) - ((a : Nat) : Int))) : Value) = .int .u64 ((a - a : Nat) : Int)) (by kernel_rfl) (fun φ17 xs17 => congrArg (Value.int .u64) ((nat_subU (a := a) (b := a) (by have hq0 := of_decide_eq_false hc9; omega) (by have hq0 := of_decide_eq_false hc9; omega)))), ⟨kcast (A := ∀ (φ17 : Nat → Nat) (xs17 : Xs), (.int .u64 (IntKind.wrap .u64 (((b : Nat) : Int) - ((a : Nat) : Int))) : Value) = .int .u64 ((b - a : Nat) : Int)) (by kernel_rfl) (fun φ17 xs17 => congrArg (Value.int .u64) ((nat_subU (a := b) (b := a) (by have hq0 := of_decide_eq_false hc9; omega) (by have hq0 := of_decide_eq_false hc9; omega)))), trivial⟩⟩⟩ trivial (by kernel_rfl) trivial ?k17
     case k17 =>
      rintro φ17 xs17 I17 w17 le17 s 
      replace hl0 := RE.mono le17 hl0
      replace hb1 := RE.mono le17 hb1
      replace hb2 := RE.mono le17 hb2
      replace hr0 := RE.mono le17 hr0
      replace hl := le17 _ _ hl
      replace hrk := le17 _ _ hrk
      refine wp_ret ?_
      refine ret_rule (C := []) [(φ17 18, .cells #[.int .u64 ((a - a : Nat) : Int), .pointer none, .pointer none] 87), (φ17 34, .cells #[.int .u64 ((b - a : Nat) : Int), pB kb1, pB kb2] 87), (φ17 36, .cells #[.int .u64 ((n + a : Nat) : Int), pB (φ17 18), pB (φ17 34)] 87)] [] (pB (φ17 36)) [] [] s trivial (by kernel_rfl) ?_
      obtain ⟨I18, le18, hk18, s⟩ := s.freezeAt 0 (φ17 18) (.cells #[.int .u64 ((a - a : Nat) : Int), .pointer none, .pointer none] 87) [((φ17 34), .cells #[.int .u64 ((b - a : Nat) : Int), .pointer (some ⟨kb1, 0, none⟩), .pointer (some ⟨kb2, 0, none⟩)] 87), ((φ17 36), .cells #[.int .u64 ((n + a : Nat) : Int), .pointer (some ⟨(φ17 18), 0, none⟩), .pointer (some ⟨(φ17 34), 0, none⟩)] 87)] (by kernel_rfl) (by kernel_rfl)
      replace hl0 := RE.mono le18 hl0
      replace hb1 := RE.mono le18 hb1
      replace hb2 := RE.mono le18 hb2
      replace hr0 := RE.mono le18 hr0
      replace hl := le18 _ _ hl
      replace hrk := le18 _ _ hrk
      obtain ⟨I19, le19, hk19, s⟩ := s.freezeAt 0 (φ17 34) (.cells #[.int .u64 ((b - a : Nat) : Int), .pointer (some ⟨kb1, 0, none⟩), .pointer (some ⟨kb2, 0, none⟩)] 87) [((φ17 36), .cells #[.int .u64 ((n + a : Nat) : Int), .pointer (some ⟨(φ17 18), 0, none⟩), .pointer (some ⟨(φ17 34), 0, none⟩)] 87)] (by kernel_rfl) (by kernel_rfl)
      replace hl0 := RE.mono le19 hl0
      replace hb1 := RE.mono le19 hb1
      replace hb2 := RE.mono le19 hb2
      replace hr0 := RE.mono le19 hr0
      replace hl := le19 _ _ hl
      replace hrk := le19 _ _ hrk
      replace hk18 := le19 _ _ hk18
      obtain ⟨I20, le20, hk20, s⟩ := s.freezeAt 0 (φ17 36) (.cells #[.int .u64 ((n + a : Nat) : Int), .pointer (some ⟨(φ17 18), 0, none⟩), .pointer (some ⟨(φ17 34), 0, none⟩)] 87) [] (by kernel_rfl) (by kernel_rfl)
      replace hl0 := RE.mono le20 hl0
      replace hb1 := RE.mono le20 hb1
      replace hb2 := RE.mono le20 hb2
      replace hr0 := RE.mono le20 hr0
      replace hl := le20 _ _ hl
      replace hrk := le20 _ _ hrk
      replace hk18 := le20 _ _ hk18
      replace hk19 := le20 _ _ hk19
      have hcm := of_decide_eq_false hc9
      exact ⟨_, _, _, rfl, s, ⟨_, rfl, by rw [mk_node9 (l := E.leaf a) (r := E.node b b1 b2) (m := a) (fun q => by cases q.2.1) (show min a b = a by omega)]; exact ⟨_, _, hk20, hk18, ⟨_, _, hk19, hb1, hb2⟩⟩⟩⟩
 | node a a1 a2 =>
  cases r with
  | leaf b =>
   have hna := hnl
   have hta := htl
   have hl0 : RE _ (E.node a a1 a2) ka := hl
   have hab : a ≤ (E.node a a1 a2).top := hbl
   obtain ⟨ka1, ka2, hlk, ha1, ha2⟩ := hl
   have hnb := hnr
   have htb := htr
   have hr0 : RE _ (E.leaf b) kb := hr
   have hbb : b ≤ (E.leaf b).top := hbr
   refine enter_rule 83 [(0, .int .u64 n), (1, pB ka), (2, pB kb)] Try.func70 rfl (by kernel_rfl) ?_
   intro w s
   refine seqR ?_
   refine ops_rule (C := []) [] [] 1 [] 0 (fun φ1 => [(6, .pointer none)]) (fun φ1 => []) (fun φ1 => []) s trivial (fun φ1 => by kernel_rfl) ?_
   intro φ1 w1 s
   refine ops_done (by kernel_rfl) ?_
   refine wp_seq ?_
   refine wp_seq ?_
   refine draw_rule (C := [(ka, .cells #[.int .u64 a, pB ka1, pB ka2] 87)]) ⟨(fun φ2 xs2 => [.look 0 [] [], .look 0 [] [], .look 0 [] [], .look 0 [.c 0] [ka], .look 0 [] [], .look 0 [] [], .skip, .skip, .skip, .skip, .skip, .look 0 [] [], .look 0 [] [], .skip, .skip, .skip, .skip, .skip, .skip, .skip, .skip, .skip, .look 0 [] []]), (fun φ2 xs2 => [pB ka, pB ka, .pointer (some ⟨ka, 1, none⟩), pB ka1, .bool false, .bool false, undef, undef, undef, undef, undef, .bool false, .bool false, undef, undef, undef, undef, undef, undef, undef, undef, undef, .bool false]), (fun φ2 xs2 => [[]]), (fun φ2 xs2 => [[default, default, default, default, default, default, default, default, default, default, default, default, default, default, default, default, default, default, default, default, default, default, default]]), [], [1, 1, 1, 1, 1, 1, 0, 0, 0, 0, 0, 1, 1, 0, 0, 0, 0, 0, 0, 0, 0, 0, 1]⟩ (fun j => ([MP.any] : List MP).getD j MP.any) [] [] [] (fun φ2 xs2 => []) (fun φ2 xs2 => [(8, pB ka), (9, pB ka), (10, .pointer (some ⟨ka, 1, none⟩)), (11, pB ka1), (12, .bool false), (13, .bool false), (14, undef), (15, undef), (16, undef), (17, undef), (18, undef), (19, .bool false), (20, .bool false), (21, undef), (22, undef), (23, undef), (24, undef), (25, undef), (26, undef), (27, undef), (28, undef), (29, undef), (30, .bool false)]) (fun φ2 xs2 => []) s ⟨hlk, trivial⟩ (by kernel_rfl) (by kernel_rfl) (fun _ _ => by kernel_rfl) (fun _ _ => by kernel_rfl) ⟨fun _ _ => by kernel_rfl, fun _ _ => by kernel_rfl, fun _ _ => by kernel_rfl, fun _ _ => by kernel_rfl⟩ (fun _ _ _ => by kernel_rfl) (fun _ _ => by kernel_rfl) (fun _ _ => by kernel_rfl) (fun _ _ => by kernel_rfl) (fun _ _ => by kernel_rfl) (fun _ _ => by kernel_rfl) trivial trivial (by kernel_rfl) trivial ?k2
   case k2 =>
    rintro φ2 xs2 I2 w2 le2 s 
    replace ha1 := RE.mono le2 ha1
    replace ha2 := RE.mono le2 ha2
    replace hl0 := RE.mono le2 hl0
    replace hr0 := RE.mono le2 hr0
    replace hlk := le2 _ _ hlk
    replace hr := le2 _ _ hr
    refine cond_false_rule (b := false) (by kernel_rfl) rfl ?_
    refine wp_skip ?_
    refine seqR ?_
    refine ops_rule (C := []) [] [] 1 [] 0 (fun φ3 => [(38, pB ka)]) (fun φ3 => []) (fun φ3 => []) s trivial (fun φ3 => by kernel_rfl) ?_
    intro φ3 w3 s
    refine call_rule (some 39) s (rminB_c hl0 hna hta) (by kernel_rfl) ?_
    intro v4 I4 w4 le4 h4 s
    replace ha1 := RE.mono le4 ha1
    replace ha2 := RE.mono le4 ha2
    replace hl0 := RE.mono le4 hl0
    replace hr0 := RE.mono le4 hr0
    replace hlk := le4 _ _ hlk
    replace hr := le4 _ _ hr
    obtain rfl := h4
    refine ops_rule (C := []) [] [] 1 [] 0 (fun φ5 => [(7, .int .u64 a)]) (fun φ5 => []) (fun φ5 => []) s trivial (fun φ5 => by kernel_rfl) ?_
    intro φ5 w5 s
    refine ops_done (by kernel_rfl) ?_
    refine wp_seq ?_
    refine seqR ?_
    refine ops_rule (C := []) [] [] 1 [] 0 (fun φ6 => [(40, pB kb)]) (fun φ6 => []) (fun φ6 => []) s trivial (fun φ6 => by kernel_rfl) ?_
    intro φ6 w6 s
    refine call_rule (some 41) s (rminB_c hr0 hnb htb) (by kernel_rfl) ?_
    intro v7 I7 w7 le7 h7 s
    replace ha1 := RE.mono le7 ha1
    replace ha2 := RE.mono le7 ha2
    replace hl0 := RE.mono le7 hl0
    replace hr0 := RE.mono le7 hr0
    replace hlk := le7 _ _ hlk
    replace hr := le7 _ _ hr
    obtain rfl := h7
    refine ops_rule (C := []) [] [] 2 [] 0 (fun φ8 => [(43, .bool (decide (((b : Nat) : Int) < ((a : Nat) : Int)))), (42, .int .u64 a)]) (fun φ8 => []) (fun φ8 => []) s trivial (fun φ8 => by kernel_rfl) ?_
    intro φ8 w8 s
    rw [nat_lss (a := b) (b := a)]
    refine ops_done (by kernel_rfl) ?_
    rcases Bool.eq_false_or_eq_true (decide (b < a)) with hc9 | hc9
    ·
     rw [hc9]
     refine cond_true_rule (b := true) (by kernel_rfl) rfl ?_
     refine region_rule ?_
     refine ops_rule (C := []) [] [] 1 [] 0 (fun φ10 => [(44, pB kb)]) (fun φ10 => []) (fun φ10 => []) s trivial (fun φ10 => by kernel_rfl) ?_
     intro φ10 w10 s
     refine call_rule (some 45) s (rminB_c hr0 hnb htb) (by kernel_rfl) ?_
     intro v11 I11 w11 le11 h11 s
     replace ha1 := RE.mono le11 ha1
     replace ha2 := RE.mono le11 ha2
     replace hl0 := RE.mono le11 hl0
     replace hr0 := RE.mono le11 hr0
     replace hlk := le11 _ _ hlk
     replace hr := le11 _ _ hr
     obtain rfl := h11
     refine ops_rule (C := []) [] [] 1 [] 0 (fun φ12 => [(7, .int .u64 b)]) (fun φ12 => []) (fun φ12 => []) s trivial (fun φ12 => by kernel_rfl) ?_
     intro φ12 w12 s
     refine ops_done (by kernel_rfl) ?_
     refine wp_seq ?_
     refine draw_rule (C := [(ka, .cells #[.int .u64 a, pB ka1, pB ka2] 87), (kb, .cells #[.int .u64 b, .pointer none, .pointer none] 87)]) ⟨(fun φ13 xs13 => [.look 0 [] [], .look 0 [] [], .sub 0 [] [] (.int .u64 (IntKind.wrap .u64 (((n : Nat) : Int) + ((b : Nat) : Int)))), .look 0 [] [], .look 0 [] [], .look 0 [] [], .look 0 [.c 0] [ka], .look 0 [] [], .sub 0 [] [] (.int .u64 (IntKind.wrap .u64 (((a : Nat) : Int) - ((b : Nat) : Int)))), .look 0 [] [], .look 0 [] [], .look 0 [] [], .look 0 [.c 0] [ka], .look 0 [] [], .look 0 [] [], .look 0 [] [], .look 0 [.c 0] [ka], .look 0 [] [], .new, .look 0 [] [], .look 0 [] [], .look 0 [] [], .look 0 [.c 1] [kb], .look 0 [] [], .sub 0 [] [] (.int .u64 (IntKind.wrap .u64 (((b : Nat) : Int) - ((b : Nat) : Int)))), .look 0 [] [], .look 0 [] [], .look 0 [] [], .look 0 [.c 1] [kb], .look 0 [] [], .look 0 [] [], .look 0 [] [], .look 0 [.c 1] [kb], .look 0 [] [], .new, .look 0 [] [], .new, .look 0 [] []]), (fun φ13 xs13 => [.int .u64 n, .int .u64 b, .int .u64 ((n + b : Nat) : Int), pB ka, pB ka, pB ka, .int .u64 a, .int .u64 b, .int .u64 ((a - b : Nat) : Int), pB ka, pB ka, .pointer (some ⟨ka, 1, none⟩), pB ka1, pB ka, pB ka, .pointer (some ⟨ka, 2, none⟩), pB ka2, .agg #[.int .u64 ((a - b : Nat) : Int), pB ka1, pB ka2], pB (φ13 18), pB kb, pB kb, pB kb, .int .u64 b, .int .u64 b, .int .u64 ((b - b : Nat) : Int), pB kb, pB kb, .pointer (some ⟨kb, 1, none⟩), .pointer none, pB kb, pB kb, .pointer (some ⟨kb, 2, none⟩), .pointer none, .agg #[.int .u64 ((b - b : Nat) : Int), .pointer none, .pointer none], pB (φ13 34), .agg #[.int .u64 ((n + b : Nat) : Int), pB (φ13 18), pB (φ13 34)], pB (φ13 36), pB (φ13 36)]), (fun φ13 xs13 => [[]]), (fun φ13 xs13 => [[default, default, default, default, default, default, default, default, default, default, default, default, default, default, default, default, default, default, .cells #[.int .u64 ((a - b : Nat) : Int), pB ka1, pB ka2] 87, default, default, default, default, default, default, default, default, default, default, default, default, default, default, default, .cells #[.int .u64 ((b - b : Nat) : Int), .pointer none, .pointer none] 87, default, .cells #[.int .u64 ((n + b : Nat) : Int), pB (φ13 18), pB (φ13 34)] 87, default]]), [], [1, 1, 5, 1, 1, 1, 1, 1, 5, 1, 1, 1, 1, 1, 1, 1, 1, 1, 2, 1, 1, 1, 1, 1, 5, 1, 1, 1, 1, 1, 1, 1, 1, 1, 2, 1, 2, 1]⟩ (fun j => ([MP.any] : List MP).getD j MP.any) [] [2, 8, 24] [] (fun φ13 xs13 => []) (fun φ13 xs13 => [(46, .int .u64 n), (47, .int .u64 b), (48, .int .u64 ((n + b : Nat) : Int)), (49, pB ka), (50, pB ka), (51, pB ka), (52, .int .u64 a), (53, .int .u64 b), (54, .int .u64 ((a - b : Nat) : Int)), (55, pB ka), (56, pB ka), (57, .pointer (some ⟨ka, 1, none⟩)), (58, pB ka1), (59, pB ka), (60, pB ka), (61, .pointer (some ⟨ka, 2, none⟩)), (62, pB ka2), (63, .agg #[.int .u64 ((a - b : Nat) : Int), pB ka1, pB ka2]), (64, pB (φ13 18)), (65, pB kb), (66, pB kb), (67, pB kb), (68, .int .u64 b), (69, .int .u64 b), (70, .int .u64 ((b - b : Nat) : Int)), (71, pB kb), (72, pB kb), (73, .pointer (some ⟨kb, 1, none⟩)), (74, .pointer none), (75, pB kb), (76, pB kb), (77, .pointer (some ⟨kb, 2, none⟩)), (78, .pointer none), (79, .agg #[.int .u64 ((b - b : Nat) : Int), .pointer none, .pointer none]), (80, pB (φ13 34)), (81, .agg #[.int .u64 ((n + b : Nat) : Int), pB (φ13 18), pB (φ13 34)]), (82, pB (φ13 36)), (6, pB (φ13 36))]) (fun φ13 xs13 => [(φ13 18, .cells #[.int .u64 ((a - b : Nat) : Int), pB ka1, pB ka2] 87), (φ13 34, .cells #[.int .u64 ((b - b : Nat) : Int), .pointer none, .pointer none] 87), (φ13 36, .cells #[.int .u64 ((n + b : Nat) : Int), pB (φ13 18), pB (φ13 34)] 87)]) s ⟨hlk, ⟨hr, trivial⟩⟩ (by kernel_rfl) (by kernel_rfl) (fun _ _ => by kernel_rfl) (fun _ _ => by kernel_rfl) ⟨fun _ _ => by kernel_rfl, fun _ _ => by kernel_rfl, fun _ _ => by kernel_rfl, fun _ _ => by kernel_rfl⟩ (fun _ _ _ => by kernel_rfl) (fun _ _ => by kernel_rfl) (fun _ _ => by kernel_rfl) (fun _ _ => by kernel_rfl) (fun _ _ => by kernel_rfl) (fun _ _ => by kernel_rfl) ⟨kcast (A := ∀ (φ13 : Nat → Nat) (xs13 : Xs), (.int .u64 (IntKind.wrap .u64 (((n : Nat) : Int) + ((b : Nat) : Int))) : Value) = .int .u64 ((n + b : Nat) : Int)) (by kernel_rfl) (fun φ13 xs13 => congrArg (Value.int .u64) ((nat_addU (a := n) (b := b) (by have hq0 := of_decide_eq_true hc9; omega)))), ⟨kcast (A := ∀ (φ13 : Nat → Nat) (xs13 : Xs), (.int .u64 (IntKind.wrap .u64 (((a : Nat) : Int) - ((b : Nat) : Int))) : Value) = .int .u64 ((a - b : Nat) : Int)) (by kernel_rfl) (fun φ13 xs13 => congrArg (Value.int .u64) ((nat_subU (a := a) (b := b) (by have hq0 := of_decide_eq_true hc9; omega) (by have hq0 := of_decide_eq_true hc9; omega)))), ⟨kcast (A := ∀ (φ13 : Nat → Nat) (xs13 : Xs), (.int .u64 (IntKind.wrap .u64 (((b : Nat) : Int) - ((b : Nat) : Int))) : Value) = .int .u64 ((b - b : Nat) : Int)) (by kernel_rfl) (fun φ13 xs13 => congrArg (Value.int .u64) ((nat_subU (a := b) (b := b) (by have hq0 := of_decide_eq_true hc9; omega) (by have hq0 := of_decide_eq_true hc9; omega)))), trivial⟩⟩⟩ trivial (by kernel_rfl) trivial ?k13
     case k13 =>
      rintro φ13 xs13 I13 w13 le13 s 
      replace ha1 := RE.mono le13 ha1
      replace ha2 := RE.mono le13 ha2
      replace hl0 := RE.mono le13 hl0
      replace hr0 := RE.mono le13 hr0
      replace hlk := le13 _ _ hlk
      replace hr := le13 _ _ hr
      refine wp_ret ?_
      refine ret_rule (C := []) [(φ13 18, .cells #[.int .u64 ((a - b : Nat) : Int), pB ka1, pB ka2] 87), (φ13 34, .cells #[.int .u64 ((b - b : Nat) : Int), .pointer none, .pointer none] 87), (φ13 36, .cells #[.int .u64 ((n + b : Nat) : Int), pB (φ13 18), pB (φ13 34)] 87)] [] (pB (φ13 36)) [] [] s trivial (by kernel_rfl) ?_
      obtain ⟨I14, le14, hk14, s⟩ := s.freezeAt 0 (φ13 18) (.cells #[.int .u64 ((a - b : Nat) : Int), .pointer (some ⟨ka1, 0, none⟩), .pointer (some ⟨ka2, 0, none⟩)] 87) [((φ13 34), .cells #[.int .u64 ((b - b : Nat) : Int), .pointer none, .pointer none] 87), ((φ13 36), .cells #[.int .u64 ((n + b : Nat) : Int), .pointer (some ⟨(φ13 18), 0, none⟩), .pointer (some ⟨(φ13 34), 0, none⟩)] 87)] (by kernel_rfl) (by kernel_rfl)
      replace ha1 := RE.mono le14 ha1
      replace ha2 := RE.mono le14 ha2
      replace hl0 := RE.mono le14 hl0
      replace hr0 := RE.mono le14 hr0
      replace hlk := le14 _ _ hlk
      replace hr := le14 _ _ hr
      obtain ⟨I15, le15, hk15, s⟩ := s.freezeAt 0 (φ13 34) (.cells #[.int .u64 ((b - b : Nat) : Int), .pointer none, .pointer none] 87) [((φ13 36), .cells #[.int .u64 ((n + b : Nat) : Int), .pointer (some ⟨(φ13 18), 0, none⟩), .pointer (some ⟨(φ13 34), 0, none⟩)] 87)] (by kernel_rfl) (by kernel_rfl)
      replace ha1 := RE.mono le15 ha1
      replace ha2 := RE.mono le15 ha2
      replace hl0 := RE.mono le15 hl0
      replace hr0 := RE.mono le15 hr0
      replace hlk := le15 _ _ hlk
      replace hr := le15 _ _ hr
      replace hk14 := le15 _ _ hk14
      obtain ⟨I16, le16, hk16, s⟩ := s.freezeAt 0 (φ13 36) (.cells #[.int .u64 ((n + b : Nat) : Int), .pointer (some ⟨(φ13 18), 0, none⟩), .pointer (some ⟨(φ13 34), 0, none⟩)] 87) [] (by kernel_rfl) (by kernel_rfl)
      replace ha1 := RE.mono le16 ha1
      replace ha2 := RE.mono le16 ha2
      replace hl0 := RE.mono le16 hl0
      replace hr0 := RE.mono le16 hr0
      replace hlk := le16 _ _ hlk
      replace hr := le16 _ _ hr
      replace hk14 := le16 _ _ hk14
      replace hk15 := le16 _ _ hk15
      have hcm := of_decide_eq_true hc9
      exact ⟨_, _, _, rfl, s, ⟨_, rfl, by rw [mk_node9 (l := E.node a a1 a2) (r := E.leaf b) (m := b) (fun q => by cases q.1) (show min a b = b by omega)]; exact ⟨_, _, hk16, ⟨_, _, hk14, ha1, ha2⟩, hk15⟩⟩⟩
    ·
     rw [hc9]
     refine cond_false_rule (b := false) (by kernel_rfl) rfl ?_
     refine wp_skip ?_
     refine wp_seq ?_
     refine draw_rule (C := [(ka, .cells #[.int .u64 a, pB ka1, pB ka2] 87), (kb, .cells #[.int .u64 b, .pointer none, .pointer none] 87)]) ⟨(fun φ17 xs17 => [.look 0 [] [], .look 0 [] [], .sub 0 [] [] (.int .u64 (IntKind.wrap .u64 (((n : Nat) : Int) + ((a : Nat) : Int)))), .look 0 [] [], .look 0 [] [], .look 0 [] [], .look 0 [.c 0] [ka], .look 0 [] [], .sub 0 [] [] (.int .u64 (IntKind.wrap .u64 (((a : Nat) : Int) - ((a : Nat) : Int)))), .look 0 [] [], .look 0 [] [], .look 0 [] [], .look 0 [.c 0] [ka], .look 0 [] [], .look 0 [] [], .look 0 [] [], .look 0 [.c 0] [ka], .look 0 [] [], .new, .look 0 [] [], .look 0 [] [], .look 0 [] [], .look 0 [.c 1] [kb], .look 0 [] [], .sub 0 [] [] (.int .u64 (IntKind.wrap .u64 (((b : Nat) : Int) - ((a : Nat) : Int)))), .look 0 [] [], .look 0 [] [], .look 0 [] [], .look 0 [.c 1] [kb], .look 0 [] [], .look 0 [] [], .look 0 [] [], .look 0 [.c 1] [kb], .look 0 [] [], .new, .look 0 [] [], .new, .look 0 [] []]), (fun φ17 xs17 => [.int .u64 n, .int .u64 a, .int .u64 ((n + a : Nat) : Int), pB ka, pB ka, pB ka, .int .u64 a, .int .u64 a, .int .u64 ((a - a : Nat) : Int), pB ka, pB ka, .pointer (some ⟨ka, 1, none⟩), pB ka1, pB ka, pB ka, .pointer (some ⟨ka, 2, none⟩), pB ka2, .agg #[.int .u64 ((a - a : Nat) : Int), pB ka1, pB ka2], pB (φ17 18), pB kb, pB kb, pB kb, .int .u64 b, .int .u64 a, .int .u64 ((b - a : Nat) : Int), pB kb, pB kb, .pointer (some ⟨kb, 1, none⟩), .pointer none, pB kb, pB kb, .pointer (some ⟨kb, 2, none⟩), .pointer none, .agg #[.int .u64 ((b - a : Nat) : Int), .pointer none, .pointer none], pB (φ17 34), .agg #[.int .u64 ((n + a : Nat) : Int), pB (φ17 18), pB (φ17 34)], pB (φ17 36), pB (φ17 36)]), (fun φ17 xs17 => [[]]), (fun φ17 xs17 => [[default, default, default, default, default, default, default, default, default, default, default, default, default, default, default, default, default, default, .cells #[.int .u64 ((a - a : Nat) : Int), pB ka1, pB ka2] 87, default, default, default, default, default, default, default, default, default, default, default, default, default, default, default, .cells #[.int .u64 ((b - a : Nat) : Int), .pointer none, .pointer none] 87, default, .cells #[.int .u64 ((n + a : Nat) : Int), pB (φ17 18), pB (φ17 34)] 87, default]]), [], [1, 1, 5, 1, 1, 1, 1, 1, 5, 1, 1, 1, 1, 1, 1, 1, 1, 1, 2, 1, 1, 1, 1, 1, 5, 1, 1, 1, 1, 1, 1, 1, 1, 1, 2, 1, 2, 1]⟩ (fun j => ([MP.any] : List MP).getD j MP.any) [] [2, 8, 24] [] (fun φ17 xs17 => []) (fun φ17 xs17 => [(46, .int .u64 n), (47, .int .u64 a), (48, .int .u64 ((n + a : Nat) : Int)), (49, pB ka), (50, pB ka), (51, pB ka), (52, .int .u64 a), (53, .int .u64 a), (54, .int .u64 ((a - a : Nat) : Int)), (55, pB ka), (56, pB ka), (57, .pointer (some ⟨ka, 1, none⟩)), (58, pB ka1), (59, pB ka), (60, pB ka), (61, .pointer (some ⟨ka, 2, none⟩)), (62, pB ka2), (63, .agg #[.int .u64 ((a - a : Nat) : Int), pB ka1, pB ka2]), (64, pB (φ17 18)), (65, pB kb), (66, pB kb), (67, pB kb), (68, .int .u64 b), (69, .int .u64 a), (70, .int .u64 ((b - a : Nat) : Int)), (71, pB kb), (72, pB kb), (73, .pointer (some ⟨kb, 1, none⟩)), (74, .pointer none), (75, pB kb), (76, pB kb), (77, .pointer (some ⟨kb, 2, none⟩)), (78, .pointer none), (79, .agg #[.int .u64 ((b - a : Nat) : Int), .pointer none, .pointer none]), (80, pB (φ17 34)), (81, .agg #[.int .u64 ((n + a : Nat) : Int), pB (φ17 18), pB (φ17 34)]), (82, pB (φ17 36)), (6, pB (φ17 36))]) (fun φ17 xs17 => [(φ17 18, .cells #[.int .u64 ((a - a : Nat) : Int), pB ka1, pB ka2] 87), (φ17 34, .cells #[.int .u64 ((b - a : Nat) : Int), .pointer none, .pointer none] 87), (φ17 36, .cells #[.int .u64 ((n + a : Nat) : Int), pB (φ17 18), pB (φ17 34)] 87)]) s ⟨hlk, ⟨hr, trivial⟩⟩ (by kernel_rfl) (by kernel_rfl) (fun _ _ => by kernel_rfl) (fun _ _ => by kernel_rfl) ⟨fun _ _ => by kernel_rfl, fun _ _ => by kernel_rfl, fun _ _ => by kernel_rfl, fun _ _ => by kernel_rfl⟩ (fun _ _ _ => by kernel_rfl) (fun _ _ => by kernel_rfl) (fun _ _ => by kernel_rfl) (fun _ _ => by kernel_rfl) (fun _ _ => by kernel_rfl) (fun _ _ => by kernel_rfl) ⟨kcast (A := ∀ (φ17 : Nat → Nat) (xs17 : Xs), (.int .u64 (IntKind.wrap .u64 (((n : Nat) : Int) + ((a : Nat) : Int))) : Value) = .int .u64 ((n + a : Nat) : Int)) (by kernel_rfl) (fun φ17 xs17 => congrArg (Value.int .u64) ((nat_addU (a := n) (b := a) (by have hq0 := of_decide_eq_false hc9; omega)))), ⟨kcast (A := ∀ (φ17 : Nat → Nat) (xs17 : Xs), (.int .u64 (IntKind.wrap .u64 (((a : Nat) : Int) - ((a : Nat) : Int))) : Value) = .int .u64 ((a - a : Nat) : Int)) (by kernel_rfl) (fun φ17 xs17 => congrArg (Value.int .u64) ((nat_subU (a := a) (b := a) (by have hq0 := of_decide_eq_false hc9; omega) (by have hq0 := of_decide_eq_false hc9; omega)))), ⟨kcast (A := ∀ (φ17 : Nat → Nat) (xs17 : Xs), (.int .u64 (IntKind.wrap .u64 (((b : Nat) : Int) - ((a : Nat) : Int))) : Value) = .int .u64 ((b - a : Nat) : Int)) (by kernel_rfl) (fun φ17 xs17 => congrArg (Value.int .u64) ((nat_subU (a := b) (b := a) (by have hq0 := of_decide_eq_false hc9; omega) (by have hq0 := of_decide_eq_false hc9; omega)))), trivial⟩⟩⟩ trivial (by kernel_rfl) trivial ?k17
     case k17 =>
      rintro φ17 xs17 I17 w17 le17 s 
      replace ha1 := RE.mono le17 ha1
      replace ha2 := RE.mono le17 ha2
      replace hl0 := RE.mono le17 hl0
      replace hr0 := RE.mono le17 hr0
      replace hlk := le17 _ _ hlk
      replace hr := le17 _ _ hr
      refine wp_ret ?_
      refine ret_rule (C := []) [(φ17 18, .cells #[.int .u64 ((a - a : Nat) : Int), pB ka1, pB ka2] 87), (φ17 34, .cells #[.int .u64 ((b - a : Nat) : Int), .pointer none, .pointer none] 87), (φ17 36, .cells #[.int .u64 ((n + a : Nat) : Int), pB (φ17 18), pB (φ17 34)] 87)] [] (pB (φ17 36)) [] [] s trivial (by kernel_rfl) ?_
      obtain ⟨I18, le18, hk18, s⟩ := s.freezeAt 0 (φ17 18) (.cells #[.int .u64 ((a - a : Nat) : Int), .pointer (some ⟨ka1, 0, none⟩), .pointer (some ⟨ka2, 0, none⟩)] 87) [((φ17 34), .cells #[.int .u64 ((b - a : Nat) : Int), .pointer none, .pointer none] 87), ((φ17 36), .cells #[.int .u64 ((n + a : Nat) : Int), .pointer (some ⟨(φ17 18), 0, none⟩), .pointer (some ⟨(φ17 34), 0, none⟩)] 87)] (by kernel_rfl) (by kernel_rfl)
      replace ha1 := RE.mono le18 ha1
      replace ha2 := RE.mono le18 ha2
      replace hl0 := RE.mono le18 hl0
      replace hr0 := RE.mono le18 hr0
      replace hlk := le18 _ _ hlk
      replace hr := le18 _ _ hr
      obtain ⟨I19, le19, hk19, s⟩ := s.freezeAt 0 (φ17 34) (.cells #[.int .u64 ((b - a : Nat) : Int), .pointer none, .pointer none] 87) [((φ17 36), .cells #[.int .u64 ((n + a : Nat) : Int), .pointer (some ⟨(φ17 18), 0, none⟩), .pointer (some ⟨(φ17 34), 0, none⟩)] 87)] (by kernel_rfl) (by kernel_rfl)
      replace ha1 := RE.mono le19 ha1
      replace ha2 := RE.mono le19 ha2
      replace hl0 := RE.mono le19 hl0
      replace hr0 := RE.mono le19 hr0
      replace hlk := le19 _ _ hlk
      replace hr := le19 _ _ hr
      replace hk18 := le19 _ _ hk18
      obtain ⟨I20, le20, hk20, s⟩ := s.freezeAt 0 (φ17 36) (.cells #[.int .u64 ((n + a : Nat) : Int), .pointer (some ⟨(φ17 18), 0, none⟩), .pointer (some ⟨(φ17 34), 0, none⟩)] 87) [] (by kernel_rfl) (by kernel_rfl)
      replace ha1 := RE.mono le20 ha1
      replace ha2 := RE.mono le20 ha2
      replace hl0 := RE.mono le20 hl0
      replace hr0 := RE.mono le20 hr0
      replace hlk := le20 _ _ hlk
      replace hr := le20 _ _ hr
      replace hk18 := le20 _ _ hk18
      replace hk19 := le20 _ _ hk19
      have hcm := of_decide_eq_false hc9
      exact ⟨_, _, _, rfl, s, ⟨_, rfl, by rw [mk_node9 (l := E.node a a1 a2) (r := E.leaf b) (m := a) (fun q => by cases q.1) (show min a b = a by omega)]; exact ⟨_, _, hk20, ⟨_, _, hk18, ha1, ha2⟩, hk19⟩⟩⟩
  | node b b1 b2 =>
   have hna := hnl
   have hta := htl
   have hl0 : RE _ (E.node a a1 a2) ka := hl
   have hab : a ≤ (E.node a a1 a2).top := hbl
   obtain ⟨ka1, ka2, hlk, ha1, ha2⟩ := hl
   have hnb := hnr
   have htb := htr
   have hr0 : RE _ (E.node b b1 b2) kb := hr
   have hbb : b ≤ (E.node b b1 b2).top := hbr
   obtain ⟨kb1, kb2, hrk, hb1, hb2⟩ := hr
   refine enter_rule 83 [(0, .int .u64 n), (1, pB ka), (2, pB kb)] Try.func70 rfl (by kernel_rfl) ?_
   intro w s
   refine seqR ?_
   refine ops_rule (C := []) [] [] 1 [] 0 (fun φ1 => [(6, .pointer none)]) (fun φ1 => []) (fun φ1 => []) s trivial (fun φ1 => by kernel_rfl) ?_
   intro φ1 w1 s
   refine ops_done (by kernel_rfl) ?_
   refine wp_seq ?_
   refine wp_seq ?_
   refine draw_rule (C := [(ka, .cells #[.int .u64 a, pB ka1, pB ka2] 87)]) ⟨(fun φ2 xs2 => [.look 0 [] [], .look 0 [] [], .look 0 [] [], .look 0 [.c 0] [ka], .look 0 [] [], .look 0 [] [], .skip, .skip, .skip, .skip, .skip, .look 0 [] [], .look 0 [] [], .skip, .skip, .skip, .skip, .skip, .skip, .skip, .skip, .skip, .look 0 [] []]), (fun φ2 xs2 => [pB ka, pB ka, .pointer (some ⟨ka, 1, none⟩), pB ka1, .bool false, .bool false, undef, undef, undef, undef, undef, .bool false, .bool false, undef, undef, undef, undef, undef, undef, undef, undef, undef, .bool false]), (fun φ2 xs2 => [[]]), (fun φ2 xs2 => [[default, default, default, default, default, default, default, default, default, default, default, default, default, default, default, default, default, default, default, default, default, default, default]]), [], [1, 1, 1, 1, 1, 1, 0, 0, 0, 0, 0, 1, 1, 0, 0, 0, 0, 0, 0, 0, 0, 0, 1]⟩ (fun j => ([MP.any] : List MP).getD j MP.any) [] [] [] (fun φ2 xs2 => []) (fun φ2 xs2 => [(8, pB ka), (9, pB ka), (10, .pointer (some ⟨ka, 1, none⟩)), (11, pB ka1), (12, .bool false), (13, .bool false), (14, undef), (15, undef), (16, undef), (17, undef), (18, undef), (19, .bool false), (20, .bool false), (21, undef), (22, undef), (23, undef), (24, undef), (25, undef), (26, undef), (27, undef), (28, undef), (29, undef), (30, .bool false)]) (fun φ2 xs2 => []) s ⟨hlk, trivial⟩ (by kernel_rfl) (by kernel_rfl) (fun _ _ => by kernel_rfl) (fun _ _ => by kernel_rfl) ⟨fun _ _ => by kernel_rfl, fun _ _ => by kernel_rfl, fun _ _ => by kernel_rfl, fun _ _ => by kernel_rfl⟩ (fun _ _ _ => by kernel_rfl) (fun _ _ => by kernel_rfl) (fun _ _ => by kernel_rfl) (fun _ _ => by kernel_rfl) (fun _ _ => by kernel_rfl) (fun _ _ => by kernel_rfl) trivial trivial (by kernel_rfl) trivial ?k2
   case k2 =>
    rintro φ2 xs2 I2 w2 le2 s 
    replace ha1 := RE.mono le2 ha1
    replace ha2 := RE.mono le2 ha2
    replace hl0 := RE.mono le2 hl0
    replace hb1 := RE.mono le2 hb1
    replace hb2 := RE.mono le2 hb2
    replace hr0 := RE.mono le2 hr0
    replace hlk := le2 _ _ hlk
    replace hrk := le2 _ _ hrk
    refine cond_false_rule (b := false) (by kernel_rfl) rfl ?_
    refine wp_skip ?_
    refine seqR ?_
    refine ops_rule (C := []) [] [] 1 [] 0 (fun φ3 => [(38, pB ka)]) (fun φ3 => []) (fun φ3 => []) s trivial (fun φ3 => by kernel_rfl) ?_
    intro φ3 w3 s
    refine call_rule (some 39) s (rminB_c hl0 hna hta) (by kernel_rfl) ?_
    intro v4 I4 w4 le4 h4 s
    replace ha1 := RE.mono le4 ha1
    replace ha2 := RE.mono le4 ha2
    replace hb1 := RE.mono le4 hb1
    replace hb2 := RE.mono le4 hb2
    replace hr0 := RE.mono le4 hr0
    replace hlk := le4 _ _ hlk
    replace hrk := le4 _ _ hrk
    obtain rfl := h4
    refine ops_rule (C := []) [] [] 1 [] 0 (fun φ5 => [(7, .int .u64 a)]) (fun φ5 => []) (fun φ5 => []) s trivial (fun φ5 => by kernel_rfl) ?_
    intro φ5 w5 s
    refine ops_done (by kernel_rfl) ?_
    refine wp_seq ?_
    refine seqR ?_
    refine ops_rule (C := []) [] [] 1 [] 0 (fun φ6 => [(40, pB kb)]) (fun φ6 => []) (fun φ6 => []) s trivial (fun φ6 => by kernel_rfl) ?_
    intro φ6 w6 s
    refine call_rule (some 41) s (rminB_c hr0 hnb htb) (by kernel_rfl) ?_
    intro v7 I7 w7 le7 h7 s
    replace ha1 := RE.mono le7 ha1
    replace ha2 := RE.mono le7 ha2
    replace hb1 := RE.mono le7 hb1
    replace hb2 := RE.mono le7 hb2
    replace hr0 := RE.mono le7 hr0
    replace hlk := le7 _ _ hlk
    replace hrk := le7 _ _ hrk
    obtain rfl := h7
    refine ops_rule (C := []) [] [] 2 [] 0 (fun φ8 => [(43, .bool (decide (((b : Nat) : Int) < ((a : Nat) : Int)))), (42, .int .u64 a)]) (fun φ8 => []) (fun φ8 => []) s trivial (fun φ8 => by kernel_rfl) ?_
    intro φ8 w8 s
    rw [nat_lss (a := b) (b := a)]
    refine ops_done (by kernel_rfl) ?_
    rcases Bool.eq_false_or_eq_true (decide (b < a)) with hc9 | hc9
    ·
     rw [hc9]
     refine cond_true_rule (b := true) (by kernel_rfl) rfl ?_
     refine region_rule ?_
     refine ops_rule (C := []) [] [] 1 [] 0 (fun φ10 => [(44, pB kb)]) (fun φ10 => []) (fun φ10 => []) s trivial (fun φ10 => by kernel_rfl) ?_
     intro φ10 w10 s
     refine call_rule (some 45) s (rminB_c hr0 hnb htb) (by kernel_rfl) ?_
     intro v11 I11 w11 le11 h11 s
     replace ha1 := RE.mono le11 ha1
     replace ha2 := RE.mono le11 ha2
     replace hb1 := RE.mono le11 hb1
     replace hb2 := RE.mono le11 hb2
     replace hlk := le11 _ _ hlk
     replace hrk := le11 _ _ hrk
     obtain rfl := h11
     refine ops_rule (C := []) [] [] 1 [] 0 (fun φ12 => [(7, .int .u64 b)]) (fun φ12 => []) (fun φ12 => []) s trivial (fun φ12 => by kernel_rfl) ?_
     intro φ12 w12 s
     refine ops_done (by kernel_rfl) ?_
     refine wp_seq ?_
     refine draw_rule (C := [(ka, .cells #[.int .u64 a, pB ka1, pB ka2] 87), (kb, .cells #[.int .u64 b, pB kb1, pB kb2] 87)]) ⟨(fun φ13 xs13 => [.look 0 [] [], .look 0 [] [], .sub 0 [] [] (.int .u64 (IntKind.wrap .u64 (((n : Nat) : Int) + ((b : Nat) : Int)))), .look 0 [] [], .look 0 [] [], .look 0 [] [], .look 0 [.c 0] [ka], .look 0 [] [], .sub 0 [] [] (.int .u64 (IntKind.wrap .u64 (((a : Nat) : Int) - ((b : Nat) : Int)))), .look 0 [] [], .look 0 [] [], .look 0 [] [], .look 0 [.c 0] [ka], .look 0 [] [], .look 0 [] [], .look 0 [] [], .look 0 [.c 0] [ka], .look 0 [] [], .new, .look 0 [] [], .look 0 [] [], .look 0 [] [], .look 0 [.c 1] [kb], .look 0 [] [], .sub 0 [] [] (.int .u64 (IntKind.wrap .u64 (((b : Nat) : Int) - ((b : Nat) : Int)))), .look 0 [] [], .look 0 [] [], .look 0 [] [], .look 0 [.c 1] [kb], .look 0 [] [], .look 0 [] [], .look 0 [] [], .look 0 [.c 1] [kb], .look 0 [] [], .new, .look 0 [] [], .new, .look 0 [] []]), (fun φ13 xs13 => [.int .u64 n, .int .u64 b, .int .u64 ((n + b : Nat) : Int), pB ka, pB ka, pB ka, .int .u64 a, .int .u64 b, .int .u64 ((a - b : Nat) : Int), pB ka, pB ka, .pointer (some ⟨ka, 1, none⟩), pB ka1, pB ka, pB ka, .pointer (some ⟨ka, 2, none⟩), pB ka2, .agg #[.int .u64 ((a - b : Nat) : Int), pB ka1, pB ka2], pB (φ13 18), pB kb, pB kb, pB kb, .int .u64 b, .int .u64 b, .int .u64 ((b - b : Nat) : Int), pB kb, pB kb, .pointer (some ⟨kb, 1, none⟩), pB kb1, pB kb, pB kb, .pointer (some ⟨kb, 2, none⟩), pB kb2, .agg #[.int .u64 ((b - b : Nat) : Int), pB kb1, pB kb2], pB (φ13 34), .agg #[.int .u64 ((n + b : Nat) : Int), pB (φ13 18), pB (φ13 34)], pB (φ13 36), pB (φ13 36)]), (fun φ13 xs13 => [[]]), (fun φ13 xs13 => [[default, default, default, default, default, default, default, default, default, default, default, default, default, default, default, default, default, default, .cells #[.int .u64 ((a - b : Nat) : Int), pB ka1, pB ka2] 87, default, default, default, default, default, default, default, default, default, default, default, default, default, default, default, .cells #[.int .u64 ((b - b : Nat) : Int), pB kb1, pB kb2] 87, default, .cells #[.int .u64 ((n + b : Nat) : Int), pB (φ13 18), pB (φ13 34)] 87, default]]), [], [1, 1, 5, 1, 1, 1, 1, 1, 5, 1, 1, 1, 1, 1, 1, 1, 1, 1, 2, 1, 1, 1, 1, 1, 5, 1, 1, 1, 1, 1, 1, 1, 1, 1, 2, 1, 2, 1]⟩ (fun j => ([MP.any] : List MP).getD j MP.any) [] [2, 8, 24] [] (fun φ13 xs13 => []) (fun φ13 xs13 => [(46, .int .u64 n), (47, .int .u64 b), (48, .int .u64 ((n + b : Nat) : Int)), (49, pB ka), (50, pB ka), (51, pB ka), (52, .int .u64 a), (53, .int .u64 b), (54, .int .u64 ((a - b : Nat) : Int)), (55, pB ka), (56, pB ka), (57, .pointer (some ⟨ka, 1, none⟩)), (58, pB ka1), (59, pB ka), (60, pB ka), (61, .pointer (some ⟨ka, 2, none⟩)), (62, pB ka2), (63, .agg #[.int .u64 ((a - b : Nat) : Int), pB ka1, pB ka2]), (64, pB (φ13 18)), (65, pB kb), (66, pB kb), (67, pB kb), (68, .int .u64 b), (69, .int .u64 b), (70, .int .u64 ((b - b : Nat) : Int)), (71, pB kb), (72, pB kb), (73, .pointer (some ⟨kb, 1, none⟩)), (74, pB kb1), (75, pB kb), (76, pB kb), (77, .pointer (some ⟨kb, 2, none⟩)), (78, pB kb2), (79, .agg #[.int .u64 ((b - b : Nat) : Int), pB kb1, pB kb2]), (80, pB (φ13 34)), (81, .agg #[.int .u64 ((n + b : Nat) : Int), pB (φ13 18), pB (φ13 34)]), (82, pB (φ13 36)), (6, pB (φ13 36))]) (fun φ13 xs13 => [(φ13 18, .cells #[.int .u64 ((a - b : Nat) : Int), pB ka1, pB ka2] 87), (φ13 34, .cells #[.int .u64 ((b - b : Nat) : Int), pB kb1, pB kb2] 87), (φ13 36, .cells #[.int .u64 ((n + b : Nat) : Int), pB (φ13 18), pB (φ13 34)] 87)]) s ⟨hlk, ⟨hrk, trivial⟩⟩ (by kernel_rfl) (by kernel_rfl) (fun _ _ => by kernel_rfl) (fun _ _ => by kernel_rfl) ⟨fun _ _ => by kernel_rfl, fun _ _ => by kernel_rfl, fun _ _ => by kernel_rfl, fun _ _ => by kernel_rfl⟩ (fun _ _ _ => by kernel_rfl) (fun _ _ => by kernel_rfl) (fun _ _ => by kernel_rfl) (fun _ _ => by kernel_rfl) (fun _ _ => by kernel_rfl) (fun _ _ => by kernel_rfl) ⟨kcast (A := ∀ (φ13 : Nat → Nat) (xs13 : Xs), (.int .u64 (IntKind.wrap .u64 (((n : Nat) : Int) + ((b : Nat) : Int))) : Value) = .int .u64 ((n + b : Nat) : Int)) (by kernel_rfl) (fun φ13 xs13 => congrArg (Value.int .u64) ((nat_addU (a := n) (b := b) (by have hq0 := of_decide_eq_true hc9; omega)))), ⟨kcast (A := ∀ (φ13 : Nat → Nat) (xs13 : Xs), (.int .u64 (IntKind.wrap .u64 (((a : Nat) : Int) - ((b : Nat) : Int))) : Value) = .int .u64 ((a - b : Nat) : Int)) (by kernel_rfl) (fun φ13 xs13 => congrArg (Value.int .u64) ((nat_subU (a := a) (b := b) (by have hq0 := of_decide_eq_true hc9; omega) (by have hq0 := of_decide_eq_true hc9; omega)))), ⟨kcast (A := ∀ (φ13 : Nat → Nat) (xs13 : Xs), (.int .u64 (IntKind.wrap .u64 (((b : Nat) : Int) - ((b : Nat) : Int))) : Value) = .int .u64 ((b - b : Nat) : Int)) (by kernel_rfl) (fun φ13 xs13 => congrArg (Value.int .u64) ((nat_subU (a := b) (b := b) (by have hq0 := of_decide_eq_true hc9; omega) (by have hq0 := of_decide_eq_true hc9; omega)))), trivial⟩⟩⟩ trivial (by kernel_rfl) trivial ?k13
     case k13 =>
      rintro φ13 xs13 I13 w13 le13 s 
      replace ha1 := RE.mono le13 ha1
      replace ha2 := RE.mono le13 ha2
      replace hb1 := RE.mono le13 hb1
      replace hb2 := RE.mono le13 hb2
      replace hlk := le13 _ _ hlk
      replace hrk := le13 _ _ hrk
      refine wp_ret ?_
      refine ret_rule (C := []) [(φ13 18, .cells #[.int .u64 ((a - b : Nat) : Int), pB ka1, pB ka2] 87), (φ13 34, .cells #[.int .u64 ((b - b : Nat) : Int), pB kb1, pB kb2] 87), (φ13 36, .cells #[.int .u64 ((n + b : Nat) : Int), pB (φ13 18), pB (φ13 34)] 87)] [] (pB (φ13 36)) [] [] s trivial (by kernel_rfl) ?_
      obtain ⟨I14, le14, hk14, s⟩ := s.freezeAt 0 (φ13 18) (.cells #[.int .u64 ((a - b : Nat) : Int), .pointer (some ⟨ka1, 0, none⟩), .pointer (some ⟨ka2, 0, none⟩)] 87) [((φ13 34), .cells #[.int .u64 ((b - b : Nat) : Int), .pointer (some ⟨kb1, 0, none⟩), .pointer (some ⟨kb2, 0, none⟩)] 87), ((φ13 36), .cells #[.int .u64 ((n + b : Nat) : Int), .pointer (some ⟨(φ13 18), 0, none⟩), .pointer (some ⟨(φ13 34), 0, none⟩)] 87)] (by kernel_rfl) (by kernel_rfl)
      replace ha1 := RE.mono le14 ha1
      replace ha2 := RE.mono le14 ha2
      replace hb1 := RE.mono le14 hb1
      replace hb2 := RE.mono le14 hb2
      replace hlk := le14 _ _ hlk
      replace hrk := le14 _ _ hrk
      obtain ⟨I15, le15, hk15, s⟩ := s.freezeAt 0 (φ13 34) (.cells #[.int .u64 ((b - b : Nat) : Int), .pointer (some ⟨kb1, 0, none⟩), .pointer (some ⟨kb2, 0, none⟩)] 87) [((φ13 36), .cells #[.int .u64 ((n + b : Nat) : Int), .pointer (some ⟨(φ13 18), 0, none⟩), .pointer (some ⟨(φ13 34), 0, none⟩)] 87)] (by kernel_rfl) (by kernel_rfl)
      replace ha1 := RE.mono le15 ha1
      replace ha2 := RE.mono le15 ha2
      replace hb1 := RE.mono le15 hb1
      replace hb2 := RE.mono le15 hb2
      replace hlk := le15 _ _ hlk
      replace hrk := le15 _ _ hrk
      replace hk14 := le15 _ _ hk14
      obtain ⟨I16, le16, hk16, s⟩ := s.freezeAt 0 (φ13 36) (.cells #[.int .u64 ((n + b : Nat) : Int), .pointer (some ⟨(φ13 18), 0, none⟩), .pointer (some ⟨(φ13 34), 0, none⟩)] 87) [] (by kernel_rfl) (by kernel_rfl)
      replace ha1 := RE.mono le16 ha1
      replace ha2 := RE.mono le16 ha2
      replace hb1 := RE.mono le16 hb1
      replace hb2 := RE.mono le16 hb2
      replace hlk := le16 _ _ hlk
      replace hrk := le16 _ _ hrk
      replace hk14 := le16 _ _ hk14
      replace hk15 := le16 _ _ hk15
      have hcm := of_decide_eq_true hc9
      exact ⟨_, _, _, rfl, s, ⟨_, rfl, by rw [mk_node9 (l := E.node a a1 a2) (r := E.node b b1 b2) (m := b) (fun q => by cases q.1) (show min a b = b by omega)]; exact ⟨_, _, hk16, ⟨_, _, hk14, ha1, ha2⟩, ⟨_, _, hk15, hb1, hb2⟩⟩⟩⟩
    ·
     rw [hc9]
     refine cond_false_rule (b := false) (by kernel_rfl) rfl ?_
     refine wp_skip ?_
     refine wp_seq ?_
     refine draw_rule (C := [(ka, .cells #[.int .u64 a, pB ka1, pB ka2] 87), (kb, .cells #[.int .u64 b, pB kb1, pB kb2] 87)]) ⟨(fun φ17 xs17 => [.look 0 [] [], .look 0 [] [], .sub 0 [] [] (.int .u64 (IntKind.wrap .u64 (((n : Nat) : Int) + ((a : Nat) : Int)))), .look 0 [] [], .look 0 [] [], .look 0 [] [], .look 0 [.c 0] [ka], .look 0 [] [], .sub 0 [] [] (.int .u64 (IntKind.wrap .u64 (((a : Nat) : Int) - ((a : Nat) : Int)))), .look 0 [] [], .look 0 [] [], .look 0 [] [], .look 0 [.c 0] [ka], .look 0 [] [], .look 0 [] [], .look 0 [] [], .look 0 [.c 0] [ka], .look 0 [] [], .new, .look 0 [] [], .look 0 [] [], .look 0 [] [], .look 0 [.c 1] [kb], .look 0 [] [], .sub 0 [] [] (.int .u64 (IntKind.wrap .u64 (((b : Nat) : Int) - ((a : Nat) : Int)))), .look 0 [] [], .look 0 [] [], .look 0 [] [], .look 0 [.c 1] [kb], .look 0 [] [], .look 0 [] [], .look 0 [] [], .look 0 [.c 1] [kb], .look 0 [] [], .new, .look 0 [] [], .new, .look 0 [] []]), (fun φ17 xs17 => [.int .u64 n, .int .u64 a, .int .u64 ((n + a : Nat) : Int), pB ka, pB ka, pB ka, .int .u64 a, .int .u64 a, .int .u64 ((a - a : Nat) : Int), pB ka, pB ka, .pointer (some ⟨ka, 1, none⟩), pB ka1, pB ka, pB ka, .pointer (some ⟨ka, 2, none⟩), pB ka2, .agg #[.int .u64 ((a - a : Nat) : Int), pB ka1, pB ka2], pB (φ17 18), pB kb, pB kb, pB kb, .int .u64 b, .int .u64 a, .int .u64 ((b - a : Nat) : Int), pB kb, pB kb, .pointer (some ⟨kb, 1, none⟩), pB kb1, pB kb, pB kb, .pointer (some ⟨kb, 2, none⟩), pB kb2, .agg #[.int .u64 ((b - a : Nat) : Int), pB kb1, pB kb2], pB (φ17 34), .agg #[.int .u64 ((n + a : Nat) : Int), pB (φ17 18), pB (φ17 34)], pB (φ17 36), pB (φ17 36)]), (fun φ17 xs17 => [[]]), (fun φ17 xs17 => [[default, default, default, default, default, default, default, default, default, default, default, default, default, default, default, default, default, default, .cells #[.int .u64 ((a - a : Nat) : Int), pB ka1, pB ka2] 87, default, default, default, default, default, default, default, default, default, default, default, default, default, default, default, .cells #[.int .u64 ((b - a : Nat) : Int), pB kb1, pB kb2] 87, default, .cells #[.int .u64 ((n + a : Nat) : Int), pB (φ17 18), pB (φ17 34)] 87, default]]), [], [1, 1, 5, 1, 1, 1, 1, 1, 5, 1, 1, 1, 1, 1, 1, 1, 1, 1, 2, 1, 1, 1, 1, 1, 5, 1, 1, 1, 1, 1, 1, 1, 1, 1, 2, 1, 2, 1]⟩ (fun j => ([MP.any] : List MP).getD j MP.any) [] [2, 8, 24] [] (fun φ17 xs17 => []) (fun φ17 xs17 => [(46, .int .u64 n), (47, .int .u64 a), (48, .int .u64 ((n + a : Nat) : Int)), (49, pB ka), (50, pB ka), (51, pB ka), (52, .int .u64 a), (53, .int .u64 a), (54, .int .u64 ((a - a : Nat) : Int)), (55, pB ka), (56, pB ka), (57, .pointer (some ⟨ka, 1, none⟩)), (58, pB ka1), (59, pB ka), (60, pB ka), (61, .pointer (some ⟨ka, 2, none⟩)), (62, pB ka2), (63, .agg #[.int .u64 ((a - a : Nat) : Int), pB ka1, pB ka2]), (64, pB (φ17 18)), (65, pB kb), (66, pB kb), (67, pB kb), (68, .int .u64 b), (69, .int .u64 a), (70, .int .u64 ((b - a : Nat) : Int)), (71, pB kb), (72, pB kb), (73, .pointer (some ⟨kb, 1, none⟩)), (74, pB kb1), (75, pB kb), (76, pB kb), (77, .pointer (some ⟨kb, 2, none⟩)), (78, pB kb2), (79, .agg #[.int .u64 ((b - a : Nat) : Int), pB kb1, pB kb2]), (80, pB (φ17 34)), (81, .agg #[.int .u64 ((n + a : Nat) : Int), pB (φ17 18), pB (φ17 34)]), (82, pB (φ17 36)), (6, pB (φ17 36))]) (fun φ17 xs17 => [(φ17 18, .cells #[.int .u64 ((a - a : Nat) : Int), pB ka1, pB ka2] 87), (φ17 34, .cells #[.int .u64 ((b - a : Nat) : Int), pB kb1, pB kb2] 87), (φ17 36, .cells #[.int .u64 ((n + a : Nat) : Int), pB (φ17 18), pB (φ17 34)] 87)]) s ⟨hlk, ⟨hrk, trivial⟩⟩ (by kernel_rfl) (by kernel_rfl) (fun _ _ => by kernel_rfl) (fun _ _ => by kernel_rfl) ⟨fun _ _ => by kernel_rfl, fun _ _ => by kernel_rfl, fun _ _ => by kernel_rfl, fun _ _ => by kernel_rfl⟩ (fun _ _ _ => by kernel_rfl) (fun _ _ => by kernel_rfl) (fun _ _ => by kernel_rfl) (fun _ _ => by kernel_rfl) (fun _ _ => by kernel_rfl) (fun _ _ => by kernel_rfl) ⟨kcast (A := ∀ (φ17 : Nat → Nat) (xs17 : Xs), (.int .u64 (IntKind.wrap .u64 (((n : Nat) : Int) + ((a : Nat) : Int))) : Value) = .int .u64 ((n + a : Nat) : Int)) (by kernel_rfl) (fun φ17 xs17 => congrArg (Value.int .u64) ((nat_addU (a := n) (b := a) (by have hq0 := of_decide_eq_false hc9; omega)))), ⟨kcast (A := ∀ (φ17 : Nat → Nat) (xs17 : Xs), (.int .u64 (IntKind.wrap .u64 (((a : Nat) : Int) - ((a : Nat) : Int))) : Value) = .int .u64 ((a - a : Nat) : Int)) (by kernel_rfl) (fun φ17 xs17 => congrArg (Value.int .u64) ((nat_subU (a := a) (b := a) (by have hq0 := of_decide_eq_false hc9; omega) (by have hq0 := of_decide_eq_false hc9; omega)))), ⟨kcast (A := ∀ (φ17 : Nat → Nat) (xs17 : Xs), (.int .u64 (IntKind.wrap .u64 (((b : Nat) : Int) - ((a : Nat) : Int))) : Value) = .int .u64 ((b - a : Nat) : Int)) (by kernel_rfl) (fun φ17 xs17 => congrArg (Value.int .u64) ((nat_subU (a := b) (b := a) (by have hq0 := of_decide_eq_false hc9; omega) (by have hq0 := of_decide_eq_false hc9; omega)))), trivial⟩⟩⟩ trivial (by kernel_rfl) trivial ?k17
     case k17 =>
      rintro φ17 xs17 I17 w17 le17 s 
      replace ha1 := RE.mono le17 ha1
      replace ha2 := RE.mono le17 ha2
      replace hb1 := RE.mono le17 hb1
      replace hb2 := RE.mono le17 hb2
      refine wp_ret ?_
      refine ret_rule (C := []) [(φ17 18, .cells #[.int .u64 ((a - a : Nat) : Int), pB ka1, pB ka2] 87), (φ17 34, .cells #[.int .u64 ((b - a : Nat) : Int), pB kb1, pB kb2] 87), (φ17 36, .cells #[.int .u64 ((n + a : Nat) : Int), pB (φ17 18), pB (φ17 34)] 87)] [] (pB (φ17 36)) [] [] s trivial (by kernel_rfl) ?_
      obtain ⟨I18, le18, hk18, s⟩ := s.freezeAt 0 (φ17 18) (.cells #[.int .u64 ((a - a : Nat) : Int), .pointer (some ⟨ka1, 0, none⟩), .pointer (some ⟨ka2, 0, none⟩)] 87) [((φ17 34), .cells #[.int .u64 ((b - a : Nat) : Int), .pointer (some ⟨kb1, 0, none⟩), .pointer (some ⟨kb2, 0, none⟩)] 87), ((φ17 36), .cells #[.int .u64 ((n + a : Nat) : Int), .pointer (some ⟨(φ17 18), 0, none⟩), .pointer (some ⟨(φ17 34), 0, none⟩)] 87)] (by kernel_rfl) (by kernel_rfl)
      replace ha1 := RE.mono le18 ha1
      replace ha2 := RE.mono le18 ha2
      replace hb1 := RE.mono le18 hb1
      replace hb2 := RE.mono le18 hb2
      obtain ⟨I19, le19, hk19, s⟩ := s.freezeAt 0 (φ17 34) (.cells #[.int .u64 ((b - a : Nat) : Int), .pointer (some ⟨kb1, 0, none⟩), .pointer (some ⟨kb2, 0, none⟩)] 87) [((φ17 36), .cells #[.int .u64 ((n + a : Nat) : Int), .pointer (some ⟨(φ17 18), 0, none⟩), .pointer (some ⟨(φ17 34), 0, none⟩)] 87)] (by kernel_rfl) (by kernel_rfl)
      replace ha1 := RE.mono le19 ha1
      replace ha2 := RE.mono le19 ha2
      replace hb1 := RE.mono le19 hb1
      replace hb2 := RE.mono le19 hb2
      replace hk18 := le19 _ _ hk18
      obtain ⟨I20, le20, hk20, s⟩ := s.freezeAt 0 (φ17 36) (.cells #[.int .u64 ((n + a : Nat) : Int), .pointer (some ⟨(φ17 18), 0, none⟩), .pointer (some ⟨(φ17 34), 0, none⟩)] 87) [] (by kernel_rfl) (by kernel_rfl)
      replace ha1 := RE.mono le20 ha1
      replace ha2 := RE.mono le20 ha2
      replace hb1 := RE.mono le20 hb1
      replace hb2 := RE.mono le20 hb2
      replace hk18 := le20 _ _ hk18
      replace hk19 := le20 _ _ hk19
      have hcm := of_decide_eq_false hc9
      exact ⟨_, _, _, rfl, s, ⟨_, rfl, by rw [mk_node9 (l := E.node a a1 a2) (r := E.node b b1 b2) (m := a) (fun q => by cases q.1) (show min a b = a by omega)]; exact ⟨_, _, hk20, ⟨_, _, hk18, ha1, ha2⟩, ⟨_, _, hk19, hb1, hb2⟩⟩⟩⟩

end Go.Proofs.Ytgmigcmhnmmdkaa.Ev

/- The document's Make of ids. -/
set_option linter.all false
set_option maxRecDepth 100000
namespace Go.Proofs.Ytgmigcmhnmmdkaa.Ev
open Go.RowKit Go.Sep

def BSl (I : IM) (l : List UInt8) (v : Value) : Prop := ∃ a cap, v = .slice a l.length cap ∧ l.length ≤ cap ∧ ∀ j x, l[j]? = some x → ∃ b o cs T fr, a = some ⟨b, o, none⟩ ∧ I b = some (.cells cs T fr) ∧ cs[o + j]? = some (.int .u8 ((x.toNat : Nat) : Int))
theorem BSl.mono {I J : IM} (le : I.Le J) {l : List UInt8} {v : Value} (h : BSl I l v) : BSl J l v := by
  obtain ⟨a, cap, hv, hc, hr⟩ := h
  refine ⟨a, cap, hv, hc, fun j x hj => ?_⟩
  obtain ⟨b, o, cs, T, fr, h1, h2, h3⟩ := hr j x hj
  exact ⟨b, o, cs, T, fr, h1, le _ _ h2, h3⟩
theorem bsl_nil (I : IM) : BSl I [] (.slice none 0 0) := ⟨none, 0, rfl, Nat.le_refl _, fun j x h => by simp at h⟩
theorem bsl_cons {I : IM} {x : UInt8} {l : List UInt8} {v : Value} (h : BSl I (x :: l) v) : ∃ b o cap cs T fr, v = .slice (some ⟨b, o, none⟩) (l.length + 1) cap ∧ l.length + 1 ≤ cap ∧ I b = some (.cells cs T fr) ∧ cs[o]? = some (.int .u8 ((x.toNat : Nat) : Int)) ∧
    BSl I l (.slice (if cap = 1 then some ⟨b, o, none⟩ else some ⟨b, o + 1, none⟩) l.length (cap - 1)) := by
  obtain ⟨a, cap, hv, hc, hr⟩ := h
  obtain ⟨b, o, cs, T, fr, h1, h2, h3⟩ := hr 0 x rfl
  subst h1
  refine ⟨b, o, cap, cs, T, fr, hv, hc, h2, h3, _, _, rfl, ?_, fun j y hj => ?_⟩
  · simp only [List.length_cons] at hc; omega
  · obtain ⟨b', o', cs', T', fr', e1, e2, e3⟩ := hr (j + 1) y (by simpa using hj)
    cases e1
    have hcap : ¬ cap = 1 := by
      have := (List.getElem?_eq_some_iff.1 hj).1
      simp only [List.length_cons] at hc; omega
    rw [if_neg hcap]
    exact ⟨b, o + 1, cs', T', fr', rfl, e2, by rw [show o + 1 + j = o + (j + 1) by omega]; exact e3⟩
theorem size5 (w : World) : (sizeOf 5).run Try.prog w = .ok 1 w := by kernel_rfl
theorem under22 : Try.prog.underlying 22 = some (.slice 5) := by kernel_rfl
theorem run_first {w : World} {b o n cap : Nat} : (Instr.indexAt 22 (.slice (some ⟨b, o, none⟩) (n + 1) cap) (.int .i64 0)).run Try.prog w = .ok (.pointer (some ⟨b, o, none⟩)) w := by
  have h : (0 : Int) < (n : Int) + 1 := by omega
  simp [Instr.indexAt, asIntOf, run_underlying under22, size5, h]
  rfl
theorem run_rest {w : World} {b o n cap : Nat} (hc : n + 1 ≤ cap) : (Instr.sliceAt 22 (.slice (some ⟨b, o, none⟩) (n + 1) cap) (some (.int .i64 1)) none none).run Try.prog w = .ok (.slice (if cap = 1 then some ⟨b, o, none⟩ else some ⟨b, o + 1, none⟩) n (cap - 1)) w := by
  have hb : (Instr.sliceBound (.int .i64 1) (n + 1) .sliceB).run Try.prog w = .ok 1 w := run_bound (k := 1) (by omega)
  simp [Instr.sliceAt, Instr.slice, run_underlying under22, Instr.sliceBounds, hb, size5]
  rfl
theorem run_loadB {w : World} {b o : Nat} {cs : Array Value} {T : TypeId} {fr : Nat × Nat} {v : Value} (h : w.heap[b]? = some (.cells cs T fr)) (hv : cs[o]? = some v) : (Instr.loadAt 5 (.pointer (some ⟨b, o, none⟩))).run Try.prog w = .ok v w := by
  have e : (Instr.loadAt 5 (.pointer (some ⟨b, o, none⟩))).run Try.prog w = (load ⟨b, o, none⟩).run Try.prog w := by kernel_rfl
  have hc := run_cell (a := ⟨b, o, none⟩) h rfl rfl
  rw [hv] at hc
  rw [e]; simp only [load, Sem.run, hc]
theorem rt_bit {J : IM} {k x : Nat} (h : J k = some (.cells #[.int .i64 ((x % 2 : Nat) : Int), .pointer none, .pointer none] 84)) : ∃ t : T, t.nf ∧ t.depth = 0 ∧ RT J t k := by
  have : x % 2 = 0 ∨ x % 2 = 1 := by omega
  rcases this with e | e
  · rw [e] at h; exact ⟨.zero, trivial, rfl, h⟩
  · rw [e] at h; exact ⟨.one, trivial, rfl, h⟩

set_option maxHeartbeats 2000000 in
theorem make_step {I : IM} {m : Nat} {xs : List UInt8} {v : Value} (hv : BSl I xs v) (hm9 : m ≤ 100) (ih : ¬ m = 0 → ∀ {J : IM} {xs : List UInt8} {v : Value}, BSl J xs v → Fun Try.prog 33 #[v, .int .i64 ((m - 1 : Nat) : Int)] J (fun v J => ∃ k v' t l', v = .tuple #[.pointer (some ⟨k, 0, none⟩), v'] ∧ (t.nf ∧ t.depth ≤ m - 1) ∧ RT J t k ∧ BSl J l' v')) : Fun Try.prog 33 #[v, .int .i64 ((m : Nat) : Int)] I (fun v J => ∃ k v' t l', v = .tuple #[.pointer (some ⟨k, 0, none⟩), v'] ∧ (t.nf ∧ t.depth ≤ m) ∧ RT J t k ∧ BSl J l' v') := by
 cases xs with
 | nil =>
  obtain ⟨a, cap, rfl, hcap, -⟩ := hv
  simp only [List.length_nil]
  refine enter_rule 49 [(0, .slice a 0 cap), (1, .int .i64 m)] Try.func33 rfl (by kernel_rfl) ?_
  intro w s
  refine seqR ?_
  refine ops_rule (C := []) [] [] 2 [] 0 (fun φ1 => [(5, .slice none 0 0), (4, .pointer none)]) (fun φ1 => []) (fun φ1 => []) s trivial (fun φ1 => by kernel_rfl) ?_
  intro φ1 w1 s
  refine ops_done (by kernel_rfl) ?_
  refine wp_seq ?_
  refine seqR ?_
  refine ops_rule (C := []) [] [] 3 [] 0 (fun φ2 => [(11, .bool true), (10, .int .i64 0), (9, .slice a 0 cap)]) (fun φ2 => []) (fun φ2 => []) s trivial (fun φ2 => by kernel_rfl) ?_
  intro φ2 w2 s
  refine ops_done (by kernel_rfl) ?_
  refine cond_true_rule (b := true) (by kernel_rfl) rfl ?_
  refine seqR ?_
  refine call_rule (some 12) s (rzero_c) (by kernel_rfl) ?_
  intro v3 I3 w3 le3 h3 s
  obtain ⟨k3, rfl, h3_0⟩ := h3
  refine ops_rule (C := []) [] [] 2 [] 0 (fun φ4 => [(5, .slice none 0 0), (4, pB k3)]) (fun φ4 => []) (fun φ4 => []) s trivial (fun φ4 => by kernel_rfl) ?_
  intro φ4 w4 s
  refine ops_done (by kernel_rfl) ?_
  refine wp_ret ?_
  refine ret_rule (C := []) [] [] (.tuple #[pB k3, .slice none 0 0]) [] [] s trivial (by kernel_rfl) ?_
  exact ⟨_, _, _, rfl, s, ⟨_, _, T.zero, [], rfl, ⟨trivial, Nat.zero_le _⟩, h3_0, bsl_nil _⟩⟩
 | cons x l =>
  obtain ⟨b, o, cap, cs, T9, fr, rfl, hcap, hcs, hx, hrest⟩ := bsl_cons hv
  clear hv
  have hx8 : x.toNat < 256 := x.toNat_lt
  refine enter_rule 49 [(0, .slice (some ⟨b, o, none⟩) (l.length + 1) cap), (1, .int .i64 m)] Try.func33 rfl (by kernel_rfl) ?_
  intro w s
  refine seqR ?_
  refine ops_rule (C := []) [] [] 2 [] 0 (fun φ1 => [(5, .slice none 0 0), (4, .pointer none)]) (fun φ1 => []) (fun φ1 => []) s trivial (fun φ1 => by kernel_rfl) ?_
  intro φ1 w1 s
  refine ops_done (by kernel_rfl) ?_
  refine wp_seq ?_
  refine seqR ?_
  refine ops_rule (C := []) [] [] 3 [] 0 (fun φ2 => [(11, .bool ((((l.length + 1) : Nat) : Int) == ((0 : Nat) : Int))), (10, .int .i64 (((l.length + 1) : Nat) : Int)), (9, .slice (some ⟨b, o, none⟩) (l.length + 1) cap)]) (fun φ2 => []) (fun φ2 => []) s trivial (fun φ2 => by kernel_rfl) ?_
  intro φ2 w2 s
  rw [nat_eql (a := (l.length + 1)) (b := 0)]
  refine ops_done (by kernel_rfl) ?_
  rcases Bool.eq_false_or_eq_true (decide ((l.length + 1) = 0)) with hc3 | hc3
  ·
   exact absurd (of_decide_eq_true hc3) (by omega)
  ·
   rw [hc3]
   refine cond_false_rule (b := false) (by kernel_rfl) rfl ?_
   refine wp_skip ?_
   refine seqR ?_
   refine ops_rule (C := []) [] [] 1 [] 0 (fun φ4 => [(13, .slice (some ⟨b, o, none⟩) (l.length + 1) cap)]) (fun φ4 => []) (fun φ4 => []) s trivial (fun φ4 => by kernel_rfl) ?_
   intro φ4 w4 s
   refine sem_rule (Instr.indexAt 22 (.slice (some ⟨b, o, none⟩) (l.length + 1) cap) (.int .i64 0)) (some 14) (.pointer (some ⟨b, o, none⟩)) (by kernel_rfl) (run_first) ?_
   refine sem_rule (Instr.loadAt 5 (.pointer (some ⟨b, o, none⟩))) (some 15) (.int .u8 x.toNat) (by kernel_rfl) (run_loadB (s.sub _ _ hcs) hx) ?_
   refine ops_rule (C := []) [] [] 1 [] 0 (fun φ5 => [(6, .int .u8 x.toNat)]) (fun φ5 => []) (fun φ5 => []) s trivial (fun φ5 => by kernel_rfl) ?_
   intro φ5 w5 s
   refine ops_done (by kernel_rfl) ?_
   refine seqR ?_
   refine ops_rule (C := []) [] [] 1 [] 0 (fun φ6 => [(16, .slice (some ⟨b, o, none⟩) (l.length + 1) cap)]) (fun φ6 => []) (fun φ6 => []) s trivial (fun φ6 => by kernel_rfl) ?_
   intro φ6 w6 s
   refine sem_rule (Instr.sliceAt 22 (.slice (some ⟨b, o, none⟩) (l.length + 1) cap) (some (.int .i64 1)) none none) (some 17) (.slice (if cap = 1 then some ⟨b, o, none⟩ else some ⟨b, o + 1, none⟩) l.length (cap - 1)) (by kernel_rfl) (run_rest hcap) ?_
   refine ops_rule (C := []) [] [] 1 [] 0 (fun φ7 => [(0, .slice (if cap = 1 then some ⟨b, o, none⟩ else some ⟨b, o + 1, none⟩) l.length (cap - 1))]) (fun φ7 => []) (fun φ7 => []) s trivial (fun φ7 => by kernel_rfl) ?_
   intro φ7 w7 s
   refine ops_done (by kernel_rfl) ?_
   refine wp_seq ?_
   refine seqR ?_
   refine ops_rule (C := []) [] [] 3 [] 0 (fun φ8 => [(20, .bool (((m : Nat) : Int) == ((0 : Nat) : Int))), (19, .bool (((m : Nat) : Int) == ((0 : Nat) : Int))), (18, .int .i64 m)]) (fun φ8 => []) (fun φ8 => []) s trivial (fun φ8 => by kernel_rfl) ?_
   intro φ8 w8 s
   rw [nat_eql (a := m) (b := 0)]
   rcases Bool.eq_false_or_eq_true (decide (m = 0)) with hc9 | hc9
   ·
    rw [hc9]
    refine ops_rule (C := []) [] [] 4 [] 0 (fun φ10 => [(24, .bool true), (23, undef), (22, undef), (21, undef)]) (fun φ10 => []) (fun φ10 => []) s trivial (fun φ10 => by kernel_rfl) ?_
    intro φ10 w10 s
    refine ops_done (by kernel_rfl) ?_
    refine cond_true_rule (b := true) (by kernel_rfl) rfl ?_
    refine seqR ?_
    refine ops_rule (C := []) [] [] 8 [] 1 (fun φ11 => [(5, .slice (if cap = 1 then some ⟨b, o, none⟩ else some ⟨b, o + 1, none⟩) l.length (cap - 1)), (4, pB (φ11 0)), (30, .slice (if cap = 1 then some ⟨b, o, none⟩ else some ⟨b, o + 1, none⟩) l.length (cap - 1)), (29, pB (φ11 0)), (28, .agg #[.int .i64 (IntKind.wrap .i64 (Int.tmod ((x.toNat : Nat) : Int) ((2 : Nat) : Int))), .pointer none, .pointer none]), (27, .int .i64 (IntKind.wrap .i64 (Int.tmod ((x.toNat : Nat) : Int) ((2 : Nat) : Int)))), (26, .int .u8 (Int.tmod ((x.toNat : Nat) : Int) ((2 : Nat) : Int))), (25, .int .u8 x.toNat)]) (fun φ11 => [(φ11 0, .cells #[.int .i64 (IntKind.wrap .i64 (Int.tmod ((x.toNat : Nat) : Int) ((2 : Nat) : Int))), .pointer none, .pointer none] 84)]) (fun φ11 => []) s trivial (fun φ11 => by kernel_rfl) ?_
    intro φ11 w11 s
    rw [nat_rem (a := x.toNat) (b := 2)] at s ⊢
    rw [nat_wrapI (a := (x.toNat % 2)) (by have hq0 := of_decide_eq_false hc3; have hq1 := of_decide_eq_true hc9; omega)] at s ⊢
    refine ops_done (by kernel_rfl) ?_
    refine wp_ret ?_
    refine ret_rule (C := []) _ [] (.tuple #[pB (φ11 0), .slice (if cap = 1 then some ⟨b, o, none⟩ else some ⟨b, o + 1, none⟩) l.length (cap - 1)]) [] [] s trivial (by kernel_rfl) ?_
    obtain ⟨I12, le12, hk12, s⟩ := s.freezeAt 0 (φ11 0) (.cells #[.int .i64 ((x.toNat % 2 : Nat) : Int), .pointer none, .pointer none] 84) [] (by kernel_rfl) (by kernel_rfl)
    replace hrest := BSl.mono le12 hrest
    obtain ⟨t9, hn9, hd9, ht9⟩ := rt_bit hk12
    exact ⟨_, _, _, rfl, s, ⟨_, _, t9, _, rfl, ⟨hn9, by omega⟩, ht9, hrest⟩⟩
   ·
    rw [hc9]
    refine ops_rule (C := []) [] [] 4 [] 0 (fun φ13 => [(24, .bool (decide ((Int.tmod ((x.toNat : Nat) : Int) ((4 : Nat) : Int)) < ((2 : Nat) : Int)))), (23, .bool (decide ((Int.tmod ((x.toNat : Nat) : Int) ((4 : Nat) : Int)) < ((2 : Nat) : Int)))), (22, .int .u8 (Int.tmod ((x.toNat : Nat) : Int) ((4 : Nat) : Int))), (21, .int .u8 x.toNat)]) (fun φ13 => []) (fun φ13 => []) s trivial (fun φ13 => by kernel_rfl) ?_
    intro φ13 w13 s
    rw [nat_rem (a := x.toNat) (b := 4)]
    rw [nat_lss (a := (x.toNat % 4)) (b := 2)]
    refine ops_done (by kernel_rfl) ?_
    rcases Bool.eq_false_or_eq_true (decide ((x.toNat % 4) < 2)) with hc14 | hc14
    ·
     rw [hc14]
     refine cond_true_rule (b := true) (by kernel_rfl) rfl ?_
     refine seqR ?_
     refine ops_rule (C := []) [] [] 8 [] 1 (fun φ15 => [(5, .slice (if cap = 1 then some ⟨b, o, none⟩ else some ⟨b, o + 1, none⟩) l.length (cap - 1)), (4, pB (φ15 0)), (30, .slice (if cap = 1 then some ⟨b, o, none⟩ else some ⟨b, o + 1, none⟩) l.length (cap - 1)), (29, pB (φ15 0)), (28, .agg #[.int .i64 (IntKind.wrap .i64 (Int.tmod ((x.toNat : Nat) : Int) ((2 : Nat) : Int))), .pointer none, .pointer none]), (27, .int .i64 (IntKind.wrap .i64 (Int.tmod ((x.toNat : Nat) : Int) ((2 : Nat) : Int)))), (26, .int .u8 (Int.tmod ((x.toNat : Nat) : Int) ((2 : Nat) : Int))), (25, .int .u8 x.toNat)]) (fun φ15 => [(φ15 0, .cells #[.int .i64 (IntKind.wrap .i64 (Int.tmod ((x.toNat : Nat) : Int) ((2 : Nat) : Int))), .pointer none, .pointer none] 84)]) (fun φ15 => []) s trivial (fun φ15 => by kernel_rfl) ?_
     intro φ15 w15 s
     rw [nat_rem (a := x.toNat) (b := 2)] at s ⊢
     rw [nat_wrapI (a := (x.toNat % 2)) (by have hq0 := of_decide_eq_false hc3; have hq1 := of_decide_eq_false hc9; have hq2 := of_decide_eq_true hc14; omega)] at s ⊢
     refine ops_done (by kernel_rfl) ?_
     refine wp_ret ?_
     refine ret_rule (C := []) _ [] (.tuple #[pB (φ15 0), .slice (if cap = 1 then some ⟨b, o, none⟩ else some ⟨b, o + 1, none⟩) l.length (cap - 1)]) [] [] s trivial (by kernel_rfl) ?_
     obtain ⟨I16, le16, hk16, s⟩ := s.freezeAt 0 (φ15 0) (.cells #[.int .i64 ((x.toNat % 2 : Nat) : Int), .pointer none, .pointer none] 84) [] (by kernel_rfl) (by kernel_rfl)
     replace hrest := BSl.mono le16 hrest
     obtain ⟨t9, hn9, hd9, ht9⟩ := rt_bit hk16
     exact ⟨_, _, _, rfl, s, ⟨_, _, t9, _, rfl, ⟨hn9, by omega⟩, ht9, hrest⟩⟩
    ·
     rw [hc14]
     refine cond_false_rule (b := false) (by kernel_rfl) rfl ?_
     refine wp_skip ?_
     refine seqR ?_
     refine ops_rule (C := []) [] [] 3 [] 0 (fun φ17 => [(34, .int .i64 (IntKind.wrap .i64 (((m : Nat) : Int) - ((1 : Nat) : Int)))), (33, .int .i64 m), (32, .slice (if cap = 1 then some ⟨b, o, none⟩ else some ⟨b, o + 1, none⟩) l.length (cap - 1))]) (fun φ17 => []) (fun φ17 => []) s trivial (fun φ17 => by kernel_rfl) ?_
     intro φ17 w17 s
     rw [nat_subI (a := m) (b := 1) (by have hq0 := of_decide_eq_false hc3; have hq1 := of_decide_eq_false hc9; have hq2 := of_decide_eq_false hc14; omega) (by have hq0 := of_decide_eq_false hc3; have hq1 := of_decide_eq_false hc9; have hq2 := of_decide_eq_false hc14; omega)]
     refine call_rule (some 35) s (ih (of_decide_eq_false hc9) hrest) (by kernel_rfl) ?_
     intro v18 I18 w18 le18 h18 s
     obtain ⟨k18, v18, t18, l18, rfl, h18_0, h18_1, h18_2⟩ := h18
     refine ops_rule (C := []) [] [] 5 [] 0 (fun φ19 => [(0, v18), (7, pB k18), (37, v18), (36, pB k18), (31, .tuple #[pB k18, v18])]) (fun φ19 => []) (fun φ19 => []) s trivial (fun φ19 => by kernel_rfl) ?_
     intro φ19 w19 s
     refine ops_done (by kernel_rfl) ?_
     refine seqR ?_
     refine ops_rule (C := []) [] [] 3 [] 0 (fun φ20 => [(41, .int .i64 (IntKind.wrap .i64 (((m : Nat) : Int) - ((1 : Nat) : Int)))), (40, .int .i64 m), (39, v18)]) (fun φ20 => []) (fun φ20 => []) s trivial (fun φ20 => by kernel_rfl) ?_
     intro φ20 w20 s
     rw [nat_subI (a := m) (b := 1) (by have hq0 := of_decide_eq_false hc3; have hq1 := of_decide_eq_false hc9; have hq2 := of_decide_eq_false hc14; omega) (by have hq0 := of_decide_eq_false hc3; have hq1 := of_decide_eq_false hc9; have hq2 := of_decide_eq_false hc14; omega)]
     refine call_rule (some 42) s (ih (of_decide_eq_false hc9) h18_2) (by kernel_rfl) ?_
     intro v21 I21 w21 le21 h21 s
     replace h18_1 := RT.mono le21 h18_1
     obtain ⟨k21, v21, t21, l21, rfl, h21_0, h21_1, h21_2⟩ := h21
     refine ops_rule (C := []) [] [] 5 [] 0 (fun φ22 => [(0, v21), (8, pB k21), (44, v21), (43, pB k21), (38, .tuple #[pB k21, v21])]) (fun φ22 => []) (fun φ22 => []) s trivial (fun φ22 => by kernel_rfl) ?_
     intro φ22 w22 s
     refine ops_done (by kernel_rfl) ?_
     refine seqR ?_
     refine ops_rule (C := []) [] [] 2 [] 0 (fun φ23 => [(46, pB k21), (45, pB k18)]) (fun φ23 => []) (fun φ23 => []) s trivial (fun φ23 => by kernel_rfl) ?_
     intro φ23 w23 s
     refine call_rule (some 47) s (rpair_c h18_1 h21_1) (by kernel_rfl) ?_
     intro v24 I24 w24 le24 h24 s
     replace h21_2 := BSl.mono le24 h21_2
     obtain ⟨k24, rfl, h24_0⟩ := h24
     refine ops_rule (C := []) [] [] 3 [] 0 (fun φ25 => [(5, v21), (4, pB k24), (48, v21)]) (fun φ25 => []) (fun φ25 => []) s trivial (fun φ25 => by kernel_rfl) ?_
     intro φ25 w25 s
     refine ops_done (by kernel_rfl) ?_
     refine wp_ret ?_
     refine ret_rule (C := []) [] [] (.tuple #[pB k24, v21]) [] [] s trivial (by kernel_rfl) ?_
     exact ⟨_, _, _, rfl, s, ⟨_, _, (T.mk t18 t21), _, rfl, ⟨T.nf_mk h18_0.1 h21_0.1, by have hm := of_decide_eq_false hc9; have h1 := T.mk_depth t18 t21; have h2 := h18_0.2; have h3 := h21_0.2; omega⟩, h24_0, h21_2⟩⟩

theorem make_c : ∀ (m : Nat) {I : IM} {xs : List UInt8} {v : Value}, m ≤ 100 → BSl I xs v → Fun Try.prog 33 #[v, .int .i64 ((m : Nat) : Int)] I (fun v J => ∃ k v' t l', v = .tuple #[.pointer (some ⟨k, 0, none⟩), v'] ∧ (t.nf ∧ t.depth ≤ m) ∧ RT J t k ∧ BSl J l' v')
  | 0, _, _, _, h, hv => make_step hv h (fun h => absurd rfl h)
  | m + 1, _, _, _, h, hv => make_step hv h (fun _ {J} {xs} {v} k => make_c m (by omega) k)

end Go.Proofs.Ytgmigcmhnmmdkaa.Ev

/- The document's Make of events; made. -/
set_option linter.all false
set_option maxRecDepth 100000
namespace Go.Proofs.Ytgmigcmhnmmdkaa.Ev
open Go.RowKit Go.Sep

theorem nat_quo8 {a b : Nat} (h : a < 256) : IntKind.wrap .u8 (Int.tdiv (a : Int) (b : Int)) = ((a / b : Nat) : Int) := by
  have e : Int.tdiv (a : Int) (b : Int) = ((a / b : Nat) : Int) := rfl
  have : a / b ≤ a := Nat.div_le_self a b
  rw [e]
  generalize a / b = q at this
  exact wrapU8 (by omega) (by omega)

set_option maxHeartbeats 2000000 in
theorem makeE_step {I : IM} {m : Nat} {xs : List UInt8} {v : Value} (hv : BSl I xs v) (hm9 : m ≤ 100) (ih : ¬ m = 0 → ∀ {J : IM} {xs : List UInt8} {v : Value}, BSl J xs v → Fun Try.prog 34 #[v, .int .i64 ((m - 1 : Nat) : Int)] J (fun v J => ∃ k v' t l', v = .tuple #[.pointer (some ⟨k, 0, none⟩), v'] ∧ (t.nf ∧ t.depth ≤ m - 1 ∧ t.top ≤ 7 + 3 * (m - 1)) ∧ RE J t k ∧ BSl J l' v')) : Fun Try.prog 34 #[v, .int .i64 ((m : Nat) : Int)] I (fun v J => ∃ k v' t l', v = .tuple #[.pointer (some ⟨k, 0, none⟩), v'] ∧ (t.nf ∧ t.depth ≤ m ∧ t.top ≤ 7 + 3 * m) ∧ RE J t k ∧ BSl J l' v') := by
 cases xs with
 | nil =>
  obtain ⟨a, cap, rfl, hcap, -⟩ := hv
  simp only [List.length_nil]
  refine enter_rule 53 [(0, .slice a 0 cap), (1, .int .i64 m)] Try.func34 rfl (by kernel_rfl) ?_
  intro w s
  refine seqR ?_
  refine ops_rule (C := []) [] [] 2 [] 0 (fun φ1 => [(5, .slice none 0 0), (4, .pointer none)]) (fun φ1 => []) (fun φ1 => []) s trivial (fun φ1 => by kernel_rfl) ?_
  intro φ1 w1 s
  refine ops_done (by kernel_rfl) ?_
  refine wp_seq ?_
  refine seqR ?_
  refine ops_rule (C := []) [] [] 3 [] 0 (fun φ2 => [(11, .bool true), (10, .int .i64 0), (9, .slice a 0 cap)]) (fun φ2 => []) (fun φ2 => []) s trivial (fun φ2 => by kernel_rfl) ?_
  intro φ2 w2 s
  refine ops_done (by kernel_rfl) ?_
  refine cond_true_rule (b := true) (by kernel_rfl) rfl ?_
  refine seqR ?_
  refine call_rule (some 12) s (rleaf_c (n := 0)) (by kernel_rfl) ?_
  intro v3 I3 w3 le3 h3 s
  obtain ⟨k3, rfl, h3_0⟩ := h3
  refine ops_rule (C := []) [] [] 2 [] 0 (fun φ4 => [(5, .slice none 0 0), (4, pB k3)]) (fun φ4 => []) (fun φ4 => []) s trivial (fun φ4 => by kernel_rfl) ?_
  intro φ4 w4 s
  refine ops_done (by kernel_rfl) ?_
  refine wp_ret ?_
  refine ret_rule (C := []) [] [] (.tuple #[pB k3, .slice none 0 0]) [] [] s trivial (by kernel_rfl) ?_
  exact ⟨_, _, _, rfl, s, ⟨_, _, E.leaf 0, [], rfl, ⟨trivial, Nat.zero_le _, Nat.zero_le _⟩, h3_0, bsl_nil _⟩⟩
 | cons x l =>
  obtain ⟨b, o, cap, cs, T9, fr, rfl, hcap, hcs, hx, hrest⟩ := bsl_cons hv
  clear hv
  have hx8 : x.toNat < 256 := x.toNat_lt
  refine enter_rule 53 [(0, .slice (some ⟨b, o, none⟩) (l.length + 1) cap), (1, .int .i64 m)] Try.func34 rfl (by kernel_rfl) ?_
  intro w s
  refine seqR ?_
  refine ops_rule (C := []) [] [] 2 [] 0 (fun φ1 => [(5, .slice none 0 0), (4, .pointer none)]) (fun φ1 => []) (fun φ1 => []) s trivial (fun φ1 => by kernel_rfl) ?_
  intro φ1 w1 s
  refine ops_done (by kernel_rfl) ?_
  refine wp_seq ?_
  refine seqR ?_
  refine ops_rule (C := []) [] [] 3 [] 0 (fun φ2 => [(11, .bool ((((l.length + 1) : Nat) : Int) == ((0 : Nat) : Int))), (10, .int .i64 (((l.length + 1) : Nat) : Int)), (9, .slice (some ⟨b, o, none⟩) (l.length + 1) cap)]) (fun φ2 => []) (fun φ2 => []) s trivial (fun φ2 => by kernel_rfl) ?_
  intro φ2 w2 s
  rw [nat_eql (a := (l.length + 1)) (b := 0)]
  refine ops_done (by kernel_rfl) ?_
  rcases Bool.eq_false_or_eq_true (decide ((l.length + 1) = 0)) with hc3 | hc3
  ·
   exact absurd (of_decide_eq_true hc3) (by omega)
  ·
   rw [hc3]
   refine cond_false_rule (b := false) (by kernel_rfl) rfl ?_
   refine wp_skip ?_
   refine seqR ?_
   refine ops_rule (C := []) [] [] 1 [] 0 (fun φ4 => [(13, .slice (some ⟨b, o, none⟩) (l.length + 1) cap)]) (fun φ4 => []) (fun φ4 => []) s trivial (fun φ4 => by kernel_rfl) ?_
   intro φ4 w4 s
   refine sem_rule (Instr.indexAt 22 (.slice (some ⟨b, o, none⟩) (l.length + 1) cap) (.int .i64 0)) (some 14) (.pointer (some ⟨b, o, none⟩)) (by kernel_rfl) (run_first) ?_
   refine sem_rule (Instr.loadAt 5 (.pointer (some ⟨b, o, none⟩))) (some 15) (.int .u8 x.toNat) (by kernel_rfl) (run_loadB (s.sub _ _ hcs) hx) ?_
   refine ops_rule (C := []) [] [] 1 [] 0 (fun φ5 => [(6, .int .u8 x.toNat)]) (fun φ5 => []) (fun φ5 => []) s trivial (fun φ5 => by kernel_rfl) ?_
   intro φ5 w5 s
   refine ops_done (by kernel_rfl) ?_
   refine seqR ?_
   refine ops_rule (C := []) [] [] 1 [] 0 (fun φ6 => [(16, .slice (some ⟨b, o, none⟩) (l.length + 1) cap)]) (fun φ6 => []) (fun φ6 => []) s trivial (fun φ6 => by kernel_rfl) ?_
   intro φ6 w6 s
   refine sem_rule (Instr.sliceAt 22 (.slice (some ⟨b, o, none⟩) (l.length + 1) cap) (some (.int .i64 1)) none none) (some 17) (.slice (if cap = 1 then some ⟨b, o, none⟩ else some ⟨b, o + 1, none⟩) l.length (cap - 1)) (by kernel_rfl) (run_rest hcap) ?_
   refine ops_rule (C := []) [] [] 1 [] 0 (fun φ7 => [(0, .slice (if cap = 1 then some ⟨b, o, none⟩ else some ⟨b, o + 1, none⟩) l.length (cap - 1))]) (fun φ7 => []) (fun φ7 => []) s trivial (fun φ7 => by kernel_rfl) ?_
   intro φ7 w7 s
   refine ops_done (by kernel_rfl) ?_
   refine wp_seq ?_
   refine seqR ?_
   refine ops_rule (C := []) [] [] 3 [] 0 (fun φ8 => [(20, .bool (((m : Nat) : Int) == ((0 : Nat) : Int))), (19, .bool (((m : Nat) : Int) == ((0 : Nat) : Int))), (18, .int .i64 m)]) (fun φ8 => []) (fun φ8 => []) s trivial (fun φ8 => by kernel_rfl) ?_
   intro φ8 w8 s
   rw [nat_eql (a := m) (b := 0)]
   rcases Bool.eq_false_or_eq_true (decide (m = 0)) with hc9 | hc9
   ·
    rw [hc9]
    refine ops_rule (C := []) [] [] 4 [] 0 (fun φ10 => [(24, .bool true), (23, undef), (22, undef), (21, undef)]) (fun φ10 => []) (fun φ10 => []) s trivial (fun φ10 => by kernel_rfl) ?_
    intro φ10 w10 s
    refine ops_done (by kernel_rfl) ?_
    refine cond_true_rule (b := true) (by kernel_rfl) rfl ?_
    refine seqR ?_
    refine ops_rule (C := []) [] [] 4 [] 0 (fun φ11 => [(28, .int .u64 (IntKind.wrap .u64 (Int.tmod (IntKind.wrap .u8 (Int.tdiv ((x.toNat : Nat) : Int) ((4 : Nat) : Int))) ((8 : Nat) : Int)))), (27, .int .u8 (Int.tmod (IntKind.wrap .u8 (Int.tdiv ((x.toNat : Nat) : Int) ((4 : Nat) : Int))) ((8 : Nat) : Int))), (26, .int .u8 (IntKind.wrap .u8 (Int.tdiv ((x.toNat : Nat) : Int) ((4 : Nat) : Int)))), (25, .int .u8 x.toNat)]) (fun φ11 => []) (fun φ11 => []) s trivial (fun φ11 => by kernel_rfl) ?_
    intro φ11 w11 s
    rw [nat_quo8 (a := x.toNat) (b := 4) (by have hq0 := of_decide_eq_false hc3; have hq1 := of_decide_eq_true hc9; omega)]
    rw [nat_rem (a := (x.toNat / 4)) (b := 8)]
    rw [nat_wrapU (a := ((x.toNat / 4) % 8)) (by have hq0 := of_decide_eq_false hc3; have hq1 := of_decide_eq_true hc9; omega)]
    refine call_rule (some 29) s (rleaf_c (n := ((x.toNat / 4) % 8))) (by kernel_rfl) ?_
    intro v12 I12 w12 le12 h12 s
    replace hrest := BSl.mono le12 hrest
    obtain ⟨k12, rfl, h12_0⟩ := h12
    refine ops_rule (C := []) [] [] 3 [] 0 (fun φ13 => [(5, .slice (if cap = 1 then some ⟨b, o, none⟩ else some ⟨b, o + 1, none⟩) l.length (cap - 1)), (4, pB k12), (30, .slice (if cap = 1 then some ⟨b, o, none⟩ else some ⟨b, o + 1, none⟩) l.length (cap - 1))]) (fun φ13 => []) (fun φ13 => []) s trivial (fun φ13 => by kernel_rfl) ?_
    intro φ13 w13 s
    refine ops_done (by kernel_rfl) ?_
    refine wp_ret ?_
    refine ret_rule (C := []) [] [] (.tuple #[pB k12, .slice (if cap = 1 then some ⟨b, o, none⟩ else some ⟨b, o + 1, none⟩) l.length (cap - 1)]) [] [] s trivial (by kernel_rfl) ?_
    exact ⟨_, _, _, rfl, s, ⟨_, _, (E.leaf ((x.toNat / 4) % 8)), _, rfl, ⟨trivial, Nat.zero_le _, show ((x.toNat / 4) % 8) ≤ 7 + 3 * m by omega⟩, h12_0, hrest⟩⟩
   ·
    rw [hc9]
    refine ops_rule (C := []) [] [] 4 [] 0 (fun φ14 => [(24, .bool (decide ((Int.tmod ((x.toNat : Nat) : Int) ((4 : Nat) : Int)) < ((2 : Nat) : Int)))), (23, .bool (decide ((Int.tmod ((x.toNat : Nat) : Int) ((4 : Nat) : Int)) < ((2 : Nat) : Int)))), (22, .int .u8 (Int.tmod ((x.toNat : Nat) : Int) ((4 : Nat) : Int))), (21, .int .u8 x.toNat)]) (fun φ14 => []) (fun φ14 => []) s trivial (fun φ14 => by kernel_rfl) ?_
    intro φ14 w14 s
    rw [nat_rem (a := x.toNat) (b := 4)]
    rw [nat_lss (a := (x.toNat % 4)) (b := 2)]
    refine ops_done (by kernel_rfl) ?_
    rcases Bool.eq_false_or_eq_true (decide ((x.toNat % 4) < 2)) with hc15 | hc15
    ·
     rw [hc15]
     refine cond_true_rule (b := true) (by kernel_rfl) rfl ?_
     refine seqR ?_
     refine ops_rule (C := []) [] [] 4 [] 0 (fun φ16 => [(28, .int .u64 (IntKind.wrap .u64 (Int.tmod (IntKind.wrap .u8 (Int.tdiv ((x.toNat : Nat) : Int) ((4 : Nat) : Int))) ((8 : Nat) : Int)))), (27, .int .u8 (Int.tmod (IntKind.wrap .u8 (Int.tdiv ((x.toNat : Nat) : Int) ((4 : Nat) : Int))) ((8 : Nat) : Int))), (26, .int .u8 (IntKind.wrap .u8 (Int.tdiv ((x.toNat : Nat) : Int) ((4 : Nat) : Int)))), (25, .int .u8 x.toNat)]) (fun φ16 => []) (fun φ16 => []) s trivial (fun φ16 => by kernel_rfl) ?_
     intro φ16 w16 s
     rw [nat_quo8 (a := x.toNat) (b := 4) (by have hq0 := of_decide_eq_false hc3; have hq1 := of_decide_eq_false hc9; have hq2 := of_decide_eq_true hc15; omega)]
     rw [nat_rem (a := (x.toNat / 4)) (b := 8)]
     rw [nat_wrapU (a := ((x.toNat / 4) % 8)) (by have hq0 := of_decide_eq_false hc3; have hq1 := of_decide_eq_false hc9; have hq2 := of_decide_eq_true hc15; omega)]
     refine call_rule (some 29) s (rleaf_c (n := ((x.toNat / 4) % 8))) (by kernel_rfl) ?_
     intro v17 I17 w17 le17 h17 s
     replace hrest := BSl.mono le17 hrest
     obtain ⟨k17, rfl, h17_0⟩ := h17
     refine ops_rule (C := []) [] [] 3 [] 0 (fun φ18 => [(5, .slice (if cap = 1 then some ⟨b, o, none⟩ else some ⟨b, o + 1, none⟩) l.length (cap - 1)), (4, pB k17), (30, .slice (if cap = 1 then some ⟨b, o, none⟩ else some ⟨b, o + 1, none⟩) l.length (cap - 1))]) (fun φ18 => []) (fun φ18 => []) s trivial (fun φ18 => by kernel_rfl) ?_
     intro φ18 w18 s
     refine ops_done (by kernel_rfl) ?_
     refine wp_ret ?_
     refine ret_rule (C := []) [] [] (.tuple #[pB k17, .slice (if cap = 1 then some ⟨b, o, none⟩ else some ⟨b, o + 1, none⟩) l.length (cap - 1)]) [] [] s trivial (by kernel_rfl) ?_
     exact ⟨_, _, _, rfl, s, ⟨_, _, (E.leaf ((x.toNat / 4) % 8)), _, rfl, ⟨trivial, Nat.zero_le _, show ((x.toNat / 4) % 8) ≤ 7 + 3 * m by omega⟩, h17_0, hrest⟩⟩
    ·
     rw [hc15]
     refine cond_false_rule (b := false) (by kernel_rfl) rfl ?_
     refine wp_skip ?_
     refine seqR ?_
     refine ops_rule (C := []) [] [] 3 [] 0 (fun φ19 => [(34, .int .i64 (IntKind.wrap .i64 (((m : Nat) : Int) - ((1 : Nat) : Int)))), (33, .int .i64 m), (32, .slice (if cap = 1 then some ⟨b, o, none⟩ else some ⟨b, o + 1, none⟩) l.length (cap - 1))]) (fun φ19 => []) (fun φ19 => []) s trivial (fun φ19 => by kernel_rfl) ?_
     intro φ19 w19 s
     rw [nat_subI (a := m) (b := 1) (by have hq0 := of_decide_eq_false hc3; have hq1 := of_decide_eq_false hc9; have hq2 := of_decide_eq_false hc15; omega) (by have hq0 := of_decide_eq_false hc3; have hq1 := of_decide_eq_false hc9; have hq2 := of_decide_eq_false hc15; omega)]
     refine call_rule (some 35) s (ih (of_decide_eq_false hc9) hrest) (by kernel_rfl) ?_
     intro v20 I20 w20 le20 h20 s
     obtain ⟨k20, v20, t20, l20, rfl, h20_0, h20_1, h20_2⟩ := h20
     refine ops_rule (C := []) [] [] 5 [] 0 (fun φ21 => [(0, v20), (7, pB k20), (37, v20), (36, pB k20), (31, .tuple #[pB k20, v20])]) (fun φ21 => []) (fun φ21 => []) s trivial (fun φ21 => by kernel_rfl) ?_
     intro φ21 w21 s
     refine ops_done (by kernel_rfl) ?_
     refine seqR ?_
     refine ops_rule (C := []) [] [] 3 [] 0 (fun φ22 => [(41, .int .i64 (IntKind.wrap .i64 (((m : Nat) : Int) - ((1 : Nat) : Int)))), (40, .int .i64 m), (39, v20)]) (fun φ22 => []) (fun φ22 => []) s trivial (fun φ22 => by kernel_rfl) ?_
     intro φ22 w22 s
     rw [nat_subI (a := m) (b := 1) (by have hq0 := of_decide_eq_false hc3; have hq1 := of_decide_eq_false hc9; have hq2 := of_decide_eq_false hc15; omega) (by have hq0 := of_decide_eq_false hc3; have hq1 := of_decide_eq_false hc9; have hq2 := of_decide_eq_false hc15; omega)]
     refine call_rule (some 42) s (ih (of_decide_eq_false hc9) h20_2) (by kernel_rfl) ?_
     intro v23 I23 w23 le23 h23 s
     replace h20_1 := RE.mono le23 h20_1
     obtain ⟨k23, v23, t23, l23, rfl, h23_0, h23_1, h23_2⟩ := h23
     refine ops_rule (C := []) [] [] 5 [] 0 (fun φ24 => [(0, v23), (8, pB k23), (44, v23), (43, pB k23), (38, .tuple #[pB k23, v23])]) (fun φ24 => []) (fun φ24 => []) s trivial (fun φ24 => by kernel_rfl) ?_
     intro φ24 w24 s
     refine ops_done (by kernel_rfl) ?_
     refine seqR ?_
     refine ops_rule (C := []) [] [] 6 [] 0 (fun φ25 => [(50, pB k23), (49, pB k20), (48, .int .u64 (IntKind.wrap .u64 (Int.tmod (IntKind.wrap .u8 (Int.tdiv ((x.toNat : Nat) : Int) ((4 : Nat) : Int))) ((4 : Nat) : Int)))), (47, .int .u8 (Int.tmod (IntKind.wrap .u8 (Int.tdiv ((x.toNat : Nat) : Int) ((4 : Nat) : Int))) ((4 : Nat) : Int))), (46, .int .u8 (IntKind.wrap .u8 (Int.tdiv ((x.toNat : Nat) : Int) ((4 : Nat) : Int)))), (45, .int .u8 x.toNat)]) (fun φ25 => []) (fun φ25 => []) s trivial (fun φ25 => by kernel_rfl) ?_
     intro φ25 w25 s
     rw [nat_quo8 (a := x.toNat) (b := 4) (by have hq0 := of_decide_eq_false hc3; have hq1 := of_decide_eq_false hc9; have hq2 := of_decide_eq_false hc15; omega)]
     rw [nat_rem (a := (x.toNat / 4)) (b := 4)]
     rw [nat_wrapU (a := ((x.toNat / 4) % 4)) (by have hq0 := of_decide_eq_false hc3; have hq1 := of_decide_eq_false hc9; have hq2 := of_decide_eq_false hc15; omega)]
     refine call_rule (some 51) s (rnode_c (n := ((x.toNat / 4) % 4)) h20_1 h23_1 h20_0.1 h23_0.1 (by have h8 := h20_0.2.2; have h9 := h23_0.2.2; omega)) (by kernel_rfl) ?_
     intro v26 I26 w26 le26 h26 s
     replace h23_2 := BSl.mono le26 h23_2
     obtain ⟨k26, rfl, h26_0⟩ := h26
     refine ops_rule (C := []) [] [] 3 [] 0 (fun φ27 => [(5, v23), (4, pB k26), (52, v23)]) (fun φ27 => []) (fun φ27 => []) s trivial (fun φ27 => by kernel_rfl) ?_
     intro φ27 w27 s
     refine ops_done (by kernel_rfl) ?_
     refine wp_ret ?_
     refine ret_rule (C := []) [] [] (.tuple #[pB k26, v23]) [] [] s trivial (by kernel_rfl) ?_
     exact ⟨_, _, _, rfl, s, ⟨_, _, (E.mk ((x.toNat / 4) % 4) t20 t23), _, rfl, ⟨E.nf_mk h20_0.1 h23_0.1, by have hm := of_decide_eq_false hc9; have h1 := E.mk_depth ((x.toNat / 4) % 4) t20 t23; have h2 := h20_0.2.1; have h3 := h23_0.2.1; omega, by have hm := of_decide_eq_false hc9; have h1 := E.mk_top ((x.toNat / 4) % 4) t20 t23; have h2 := h20_0.2.2; have h3 := h23_0.2.2; omega⟩, h26_0, h23_2⟩⟩

theorem makeE_c : ∀ (m : Nat) {I : IM} {xs : List UInt8} {v : Value}, m ≤ 100 → BSl I xs v → Fun Try.prog 34 #[v, .int .i64 ((m : Nat) : Int)] I (fun v J => ∃ k v' t l', v = .tuple #[.pointer (some ⟨k, 0, none⟩), v'] ∧ (t.nf ∧ t.depth ≤ m ∧ t.top ≤ 7 + 3 * m) ∧ RE J t k ∧ BSl J l' v')
  | 0, _, _, _, h, hv => makeE_step hv h (fun h => absurd rfl h)
  | m + 1, _, _, _, h, hv => makeE_step hv h (fun _ {J} {xs} {v} k => makeE_c m (by omega) k)

end Go.Proofs.Ytgmigcmhnmmdkaa.Ev

/- made: a stamp of bytes, the program's and the document's. -/
set_option linter.all false
set_option maxRecDepth 100000
namespace Go.Proofs.Ytgmigcmhnmmdkaa.Ev
open Go.RowKit Go.Sep

theorem bsl_take {I : IM} {p : List UInt8} {a : Option Addr} {cap : Nat} (h : BSl I p (.slice a p.length cap)) : BSl I (p.take 60) (.slice a (min p.length 60) cap) := by
  obtain ⟨a', cap', hv, hc, hr⟩ := h
  cases hv
  refine ⟨a, cap, by rw [List.length_take, Nat.min_comm], by rw [List.length_take]; omega, fun j x hj => ?_⟩
  rw [List.getElem?_take] at hj
  split at hj
  · exact hr j x hj
  · cases hj
theorem map_add_zero (a : Option Addr) : a.map (·.add 0) = a := by cases a <;> rfl
theorem run_to {w : World} {a : Option Addr} {n h cap : Nat} (h1 : h ≤ cap) : (Instr.sliceAt 22 (.slice a n cap) none (some (.int .i64 ((h : Nat) : Int))) none).run Try.prog w = .ok (.slice a h cap) w := by
  have hb : (Instr.sliceBound (.int .i64 ((h : Nat) : Int)) cap .sliceAcap).run Try.prog w = .ok h w := run_bound h1
  simp [Instr.sliceAt, Instr.slice, run_underlying under22, Instr.sliceBounds, hb, size5]
  intro _
  exact map_add_zero a

set_option maxHeartbeats 2000000 in
theorem made_c {I : IM} {p q : List UInt8} {vp vq : Value} (hp : BSl I p vp) (hq : BSl I q vq) : Fun Try.prog 7 #[vp, vq] I (fun v J => ∃ ib ip eb ep ki ke i e, v = .tuple #[stv ib ip eb ep, .agg #[.pointer (some ⟨ki, 0, none⟩), .pointer (some ⟨ke, 0, none⟩)]] ∧ (i.nf ∧ i.depth ≤ 7) ∧ (e.nf ∧ e.depth ≤ 7 ∧ e.top ≤ 7 + 3 * 7) ∧ TRep J i ib ip ∧ ERep J e eb ep ∧ RT J i ki ∧ RE J e ke) := by
 have hp' := hp
 have hq' := hq
 obtain ⟨pa, pc, rfl, hpc, -⟩ := hp
 obtain ⟨qa, qc, rfl, hqc, -⟩ := hq
 have hp60 := bsl_take hp'
 have hq60 := bsl_take hq'
 clear hp' hq'
 refine enter_rule 36 [(0, .slice pa p.length pc), (1, .slice qa q.length qc)] Try.func7 rfl (by kernel_rfl) ?_
 intro w s
 refine seqR ?_
 refine ops_rule (C := []) [] [] 2 [] 2 (fun φ1 => [(5, pB (φ1 1)), (4, pB (φ1 0))]) (fun φ1 => [(φ1 0, .cells #[.bool false, .pointer none, .int .u64 0, .pointer none] 32), (φ1 1, .cells #[.pointer none, .pointer none] 36)]) (fun φ1 => []) s trivial (fun φ1 => by kernel_rfl) ?_
 intro φ1 w1 s
 refine ops_done (by kernel_rfl) ?_
 refine seqR ?_
 refine ops_rule (C := []) _ [] 4 [] 0 (fun φ2 => [(14, .int .i64 (if ((60 : Nat) : Int) < ((p.length : Nat) : Int) then ((60 : Nat) : Int) else ((p.length : Nat) : Int))), (13, .int .i64 p.length), (12, .slice pa p.length pc), (11, .slice pa p.length pc)]) (fun φ2 => [(φ1 0, .cells #[.bool false, .pointer none, .int .u64 0, .pointer none] 32), (φ1 1, .cells #[.pointer none, .pointer none] 36)]) (fun φ2 => []) s trivial (fun φ2 => by kernel_rfl) ?_
 intro φ2 w2 s
 rw [nat_min (a := p.length) (b := 60)]
 refine sem_rule (Instr.sliceAt 22 (.slice pa p.length pc) none (some (.int .i64 ((min p.length 60 : Nat) : Int))) none) (some 15) (.slice pa (min p.length 60) pc) (by kernel_rfl) (run_to (by have := hpc; omega)) ?_
 refine call_rule (some 16) s (make_c 7 (by omega) hp60) (by kernel_rfl) ?_
 intro v3 I3 w3 le3 h3 s
 replace hq60 := BSl.mono le3 hq60
 obtain ⟨k3, v3, t3, l3, rfl, h3_0, h3_1, h3_2⟩ := h3
 refine ops_rule (C := []) _ [] 5 [] 0 (fun φ4 => [(7, v3), (6, pB k3), (18, v3), (17, pB k3), (10, .tuple #[pB k3, v3])]) (fun φ4 => [(φ1 0, .cells #[.bool false, .pointer none, .int .u64 0, .pointer none] 32), (φ1 1, .cells #[.pointer none, .pointer none] 36)]) (fun φ4 => []) s trivial (fun φ4 => by kernel_rfl) ?_
 intro φ4 w4 s
 refine ops_done (by kernel_rfl) ?_
 refine seqR ?_
 refine ops_rule (C := []) _ [] 4 [] 0 (fun φ5 => [(23, .int .i64 (if ((60 : Nat) : Int) < ((q.length : Nat) : Int) then ((60 : Nat) : Int) else ((q.length : Nat) : Int))), (22, .int .i64 q.length), (21, .slice qa q.length qc), (20, .slice qa q.length qc)]) (fun φ5 => [(φ1 0, .cells #[.bool false, .pointer none, .int .u64 0, .pointer none] 32), (φ1 1, .cells #[.pointer none, .pointer none] 36)]) (fun φ5 => []) s trivial (fun φ5 => by kernel_rfl) ?_
 intro φ5 w5 s
 rw [nat_min (a := q.length) (b := 60)]
 refine sem_rule (Instr.sliceAt 22 (.slice qa q.length qc) none (some (.int .i64 ((min q.length 60 : Nat) : Int))) none) (some 24) (.slice qa (min q.length 60) qc) (by kernel_rfl) (run_to (by have := hqc; omega)) ?_
 refine call_rule (some 25) s (makeE_c 7 (by omega) hq60) (by kernel_rfl) ?_
 intro v6 I6 w6 le6 h6 s
 replace h3_1 := RT.mono le6 h3_1
 obtain ⟨k6, v6, t6, l6, rfl, h6_0, h6_1, h6_2⟩ := h6
 refine ops_rule (C := []) _ [] 5 [] 0 (fun φ7 => [(9, v6), (8, pB k6), (27, v6), (26, pB k6), (19, .tuple #[pB k6, v6])]) (fun φ7 => [(φ1 0, .cells #[.bool false, .pointer none, .int .u64 0, .pointer none] 32), (φ1 1, .cells #[.pointer none, .pointer none] 36)]) (fun φ7 => []) s trivial (fun φ7 => by kernel_rfl) ?_
 intro φ7 w7 s
 refine ops_done (by kernel_rfl) ?_
 refine seqR ?_
 refine ops_rule (C := []) _ [] 1 [] 0 (fun φ8 => [(28, pB k3)]) (fun φ8 => [(φ1 0, .cells #[.bool false, .pointer none, .int .u64 0, .pointer none] 32), (φ1 1, .cells #[.pointer none, .pointer none] 36)]) (fun φ8 => []) s trivial (fun φ8 => by kernel_rfl) ?_
 intro φ8 w8 s
 refine call_rule (some 29) s (own_c t3 h3_0.1 (by have := h3_0.2; omega) h3_1) (by kernel_rfl) ?_
 intro v9 I9 w9 le9 h9 s
 replace h3_1 := RT.mono le9 h3_1
 replace h6_1 := RE.mono le9 h6_1
 obtain ⟨b9, p9, rfl, h9_0⟩ := h9
 refine ops_rule (C := []) _ [] 1 [] 0 (fun φ10 => [(30, pB k6)]) (fun φ10 => [(φ1 0, .cells #[.bool false, .pointer none, .int .u64 0, .pointer none] 32), (φ1 1, .cells #[.pointer none, .pointer none] 36)]) (fun φ10 => []) s trivial (fun φ10 => by kernel_rfl) ?_
 intro φ10 w10 s
 refine call_rule (some 31) s (tree_c t6 h6_0.1 (by have := h6_0.2.2; omega) (by have := h6_0.2.1; omega) h6_1) (by kernel_rfl) ?_
 intro v11 I11 w11 le11 h11 s
 replace h3_1 := RT.mono le11 h3_1
 replace h6_1 := RE.mono le11 h6_1
 replace h9_0 := TRep.mono le11 h9_0
 obtain ⟨b11, p11, rfl, h11_0⟩ := h11
 refine ops_rule (C := []) _ [] 6 [.o 0, .o 0, .o 0, .o 0, .o 1, .o 1] 0 (fun φ12 => [(35, .agg #[pB k3, pB k6]), (34, pB k6), (33, pB k3), (32, .agg #[.bool b9, .pointer p9, .int .u64 b11, .pointer p11])]) (fun φ12 => [(φ1 0, .cells #[.bool b9, .pointer p9, .int .u64 b11, .pointer p11] 32), (φ1 1, .cells #[pB k3, pB k6] 36)]) (fun φ12 => [φ1 0, φ1 0, φ1 0, φ1 0, φ1 1, φ1 1]) s trivial (fun φ12 => by kernel_rfl) ?_
 intro φ12 w12 s
 refine ops_done (by kernel_rfl) ?_
 refine wp_ret ?_
 refine ret_rule (C := []) _ [] (.tuple #[.agg #[.bool b9, .pointer p9, .int .u64 b11, .pointer p11], .agg #[pB k3, pB k6]]) [.o 0, .o 0, .o 0, .o 0, .o 1, .o 1] [φ1 0, φ1 0, φ1 0, φ1 0, φ1 1, φ1 1] s trivial (by kernel_rfl) ?_
 exact ⟨_, _, _, rfl, s, ⟨_, _, _, _, _, _, t3, t6, rfl, h3_0, h6_0, h9_0, h11_0, h3_1, h6_1⟩⟩

end Go.Proofs.Ytgmigcmhnmmdkaa.Ev

/- A slice of bytes that came in, as the contracts want it. -/
set_option linter.all false
namespace Go.Proofs.Ytgmigcmhnmmdkaa
open Go.RowKit Go.Sep

theorem u8_nat {z : Int} (h : (Lit.int .u8 z).wf = true) : z = (((UInt8.ofNat z.toNat).toNat : Nat) : Int) := by
  have hb : 0 ≤ z ∧ z < 256 := by
    have := h; simp [Lit.wf, IntKind.min, IntKind.max, IntKind.signed, IntKind.bits] at this; omega
  rw [UInt8.toNat_ofNat']
  omega
theorem cell_block {w : World} {b o : Nat} {v : Value} (h : w.cell? ⟨b, o, none⟩ = some v) : ∃ cs T fr, w.heap[b]? = some (.cells cs T fr) ∧ cs[o]? = some v := by
  unfold World.cell? at h
  cases hb : w.heap[b]? with
  | none => simp [hb] at h
  | some ob =>
    cases ob <;> simp [hb] at h
    exact ⟨_, _, _, rfl, h⟩
theorem bslI_row {w : World} {a : Option Addr} {len cap : Nat} {zs : List Int}
    (h : (a = none ∧ len = 0 ∧ cap = 0 ∧ zs = []) ∨ ∃ x, a = some x ∧ len ≤ cap ∧ cap ≤ maxLen ∧ zs.length = cap ∧ (∀ i, i < zs.length → w.cell? (x.add i) = some (.int .u8 (zs.getD i 0))) ∧ ∀ n ∈ zs, (Lit.int .u8 n).wf = true) :
    ∃ l, BSl (fun k => w.heap[k]?) l (.slice a len cap) := by
  rcases h with ⟨rfl, rfl, rfl, rfl⟩ | ⟨x, rfl, hl, hm, hz, hc, hw⟩
  · exact ⟨[], bsl_nil _⟩
  · refine ⟨(zs.take len).map fun z => UInt8.ofNat z.toNat, some x, cap, by rw [List.length_map, List.length_take, Nat.min_eq_left (show len ≤ zs.length by omega)], by rw [List.length_map, List.length_take]; omega, fun j y hj => ?_⟩
    rw [List.getElem?_map, Option.map_eq_some_iff] at hj
    obtain ⟨z, hz1, rfl⟩ := hj
    rw [List.getElem?_take] at hz1
    split at hz1
    · have hjl : j < zs.length := (List.getElem?_eq_some_iff.1 hz1).1
      have h1 := hc j hjl
      have h2 : zs.getD j 0 = z := by simp [hz1]
      rw [h2] at h1
      obtain ⟨b, o, sp⟩ := x
      cases sp with
      | none =>
        have : (⟨b, o, none⟩ : Addr).add j = ⟨b, o + j, none⟩ := by unfold Addr.add; split <;> simp_all
        rw [this] at h1
        obtain ⟨cs, T, fr, e1, e2⟩ := cell_block h1
        refine ⟨b, o, cs, T, fr, rfl, e1, ?_⟩
        rw [← u8_nat (hw z (List.mem_of_getElem? hz1))]; exact e2
      | some sp =>
        exfalso
        have h0 := hc 0 (by omega)
        unfold World.cell? Addr.add at h0
        rw [if_pos rfl] at h0
        revert h0
        split <;> simp
    · cases hz1
end Go.Proofs.Ytgmigcmhnmmdkaa
/- Trees as bits: no tree's bits are the beginning of another one's. -/
set_option linter.all false
namespace Go.Proofs.Ytgmigcmhnmmdkaa

def idK (t : Ev.T) : Nat := if (t.isZero || t.isOne) = true then 0 else if t.left.isZero = true then 1 else if t.right.isZero = true then 2 else 3
def lbT (t : Ev.T) : Nat := if t.isOne = true then 1 else 0
def idB : Ev.T → List Bool
  | .zero => putBits 0 2 ++ putBits 0 1
  | .one => putBits 0 2 ++ putBits 1 1
  | .node l r => putBits (idK (.node l r)) 2 ++ ((if idK (.node l r) = 1 then [] else idB l) ++ (if idK (.node l r) = 2 then [] else idB r))
theorem pb02 : putBits 0 2 = [false, false] := by decide
theorem pb12 : putBits 1 2 = [false, true] := by decide
theorem pb22 : putBits 2 2 = [true, false] := by decide
theorem pb32 : putBits 3 2 = [true, true] := by decide
theorem pb01 : putBits 0 1 = [false] := by decide
theorem pb11 : putBits 1 1 = [true] := by decide
theorem T_zero : ∀ {t : Ev.T}, t.isZero = true → t = .zero
  | .zero, _ => rfl
  | .one, h => by simp [Ev.T.isZero] at h
  | .node _ _, h => by simp [Ev.T.isZero] at h
theorem idB_node (l r : Ev.T) : (l = .zero ∧ idB (.node l r) = false :: true :: idB r) ∨ (r = .zero ∧ idB (.node l r) = true :: false :: idB l) ∨ (idB (.node l r) = true :: true :: (idB l ++ idB r)) := by
  have e0 : (Ev.T.node l r).isZero = false := rfl
  have e1 : (Ev.T.node l r).isOne = false := rfl
  have e2 : (Ev.T.node l r).left = l := rfl
  have e3 : (Ev.T.node l r).right = r := rfl
  by_cases h1 : l.isZero = true
  · have hk : idK (.node l r) = 1 := by unfold idK; simp [e0, e1, e2, h1]
    exact .inl ⟨T_zero h1, by simp [idB, hk, pb12]⟩
  · by_cases h2 : r.isZero = true
    · have hk : idK (.node l r) = 2 := by unfold idK; simp [e0, e1, e2, e3, h1, h2]
      exact .inr (.inl ⟨T_zero h2, by simp [idB, hk, pb22]⟩)
    · have hk : idK (.node l r) = 3 := by unfold idK; simp [e0, e1, e2, e3, h1, h2]
      exact .inr (.inr (by simp [idB, hk, pb32]))
theorem idB_pos : ∀ (t : Ev.T), 3 ≤ (idB t).length
  | .zero => by simp [idB, putBits_len]
  | .one => by simp [idB, putBits_len]
  | .node l r => by
    have h1 := idB_pos l
    have h2 := idB_pos r
    rcases idB_node l r with ⟨a, e⟩ | ⟨a, e⟩ | e <;> rw [e] <;> simp <;> omega
theorem idB_len : ∀ (t : Ev.T) (n : Nat), t.depth ≤ n → (idB t).length + 2 ≤ 5 * 2 ^ n
  | .zero, n, _ => by have := Nat.one_le_two_pow (n := n); simp [idB, putBits_len]; omega
  | .one, n, _ => by have := Nat.one_le_two_pow (n := n); simp [idB, putBits_len]; omega
  | .node l r, 0, h => by simp [Ev.T.depth] at h
  | .node l r, n + 1, h => by
    have hd : l.depth ≤ n ∧ r.depth ≤ n := by simp only [Ev.T.depth] at h; omega
    have h1 := idB_len l n hd.1
    have h2 := idB_len r n hd.2
    rw [Nat.pow_succ]
    rcases idB_node l r with ⟨a, e⟩ | ⟨a, e⟩ | e <;> rw [e] <;> simp <;> omega
/- the steps of the writer -/
theorem idB_leaf {t : Ev.T} (h : idK t = 0) : idB t = putBits (idK t) 2 ++ putBits (lbT t) 1 := by
  cases t with
  | zero => rfl
  | one => rfl
  | node l r =>
    exfalso; revert h; unfold idK
    have e0 : (Ev.T.node l r).isZero = false := rfl
    have e1 : (Ev.T.node l r).isOne = false := rfl
    simp only [e0, e1, Bool.or_self, Bool.false_eq_true, if_false]
    split
    · simp
    · split <;> simp
theorem idB_pair {t : Ev.T} (h : idK t ≠ 0) : idB t = putBits (idK t) 2 ++ ((if idK t = 1 then [] else idB t.left) ++ (if idK t = 2 then [] else idB t.right)) := by
  cases t with
  | zero => exact absurd rfl h
  | one => exact absurd rfl h
  | node l r => rfl
theorem idK_lt (t : Ev.T) : idK t < 4 := by unfold idK; split; · omega
                                            split; · omega
                                            split <;> omega
/- events -/
def kindE (l r : Ev.E) : Nat := if l.top = 0 then 0 else if r.top = 0 then 1 else 2
theorem kindE_lt (l r : Ev.E) : kindE l r < 3 := by unfold kindE; split; · omega
                                                    split <;> omega
def headB (n k : Nat) : List Bool := if n = 0 then putBits k 2 else if k = 2 then putBits 3 2 ++ putBits 1 1 ++ numW 62 2 n else putBits 3 2 ++ putBits 0 1 ++ putBits k 1 ++ numW 62 2 n
def evB : Ev.E → List Bool
  | .leaf n => putBits 1 1 ++ numW 62 2 n
  | .node n l r => putBits 0 1 ++ headB n (kindE l r) ++ ((if kindE l r = 0 then [] else evB l) ++ (if kindE l r = 1 then [] else evB r))
theorem E_zero : ∀ {e : Ev.E}, e.nf → e.top = 0 → e = .leaf 0
  | .leaf n, _, h => by have : n = 0 := h; rw [this]
  | .node n l r, h, ht => by
    have h1 : n + max l.top r.top = 0 := ht
    have el := E_zero h.1 (by omega)
    have er := E_zero h.2.1 (by omega)
    have hm := h.2.2
    rw [el, er] at hm
    simp [Ev.E.mk, Ev.E.isLeaf, Ev.E.base] at hm
theorem headB_len (n k : Nat) : (headB n k).length ≤ 131 := by
  have := numW_len 62 2 n
  unfold headB; split
  · rw [putBits_len]; omega
  · split <;> simp [putBits_len] <;> omega
theorem evB_len : ∀ (t : Ev.E) (n : Nat), t.depth ≤ n → (evB t).length + 132 ≤ 270 * 2 ^ n
  | .leaf m, n, _ => by have := Nat.one_le_two_pow (n := n); have := numW_len 62 2 m; simp [evB, putBits_len]; omega
  | .node m l r, 0, h => by simp [Ev.E.depth] at h
  | .node m l r, n + 1, h => by
    have hd : l.depth ≤ n ∧ r.depth ≤ n := by simp only [Ev.E.depth] at h; omega
    have h1 := evB_len l n hd.1
    have h2 := evB_len r n hd.2
    have h3 := headB_len m (kindE l r)
    rw [Nat.pow_succ]
    unfold evB
    simp only [List.length_append, putBits_len]
    split <;> split <;> (try simp only [List.length_nil]) <;> omega
theorem evB_leaf {t : Ev.E} (h : t.isLeaf = true) : evB t = putBits 1 1 ++ numW 62 2 t.base := by
  cases t with
  | leaf n => rfl
  | node n l r => simp [Ev.E.isLeaf] at h
theorem evB_nd {t : Ev.E} (h : t.isLeaf = false) : evB t = putBits 0 1 ++ headB t.base (kindE t.left t.right) ++ ((if kindE t.left t.right = 0 then [] else evB t.left) ++ (if kindE t.left t.right = 1 then [] else evB t.right)) := by
  cases t with
  | leaf n => simp [Ev.E.isLeaf] at h
  | node n l r => rfl
/- the same -/
theorem cover_same : ∀ (a b : Ev.T), (Ev.coverT a b && Ev.coverT b a) = decide (a = b)
  | .zero, .zero => by simp [Ev.coverT]
  | .zero, .one => by simp [Ev.coverT]
  | .zero, .node _ _ => by simp [Ev.coverT]
  | .one, .zero => by simp [Ev.coverT]
  | .one, .one => by simp [Ev.coverT]
  | .one, .node _ _ => by simp [Ev.coverT]
  | .node _ _, .zero => by simp [Ev.coverT]
  | .node _ _, .one => by simp [Ev.coverT]
  | .node l r, .node l' r' => by
    have h1 := cover_same l l'
    have h2 := cover_same r r'
    have e : (Ev.coverT (.node l r) (.node l' r') && Ev.coverT (.node l' r') (.node l r)) = ((Ev.coverT l l' && Ev.coverT l' l) && (Ev.coverT r r' && Ev.coverT r' r)) := by
      simp only [Ev.coverT]
      cases Ev.coverT l l' <;> cases Ev.coverT l' l <;> cases Ev.coverT r r' <;> cases Ev.coverT r' r <;> rfl
    rw [e, h1, h2]
    simp
theorem up_nf {m : Nat} {e : Ev.E} (h : e.nf) : (Ev.E.up m e).nf := by
  cases e with
  | leaf n => trivial
  | node n l r => exact ⟨h.1, h.2.1, Ev.E.mk_iff.2 (Ev.E.mk_iff.1 h.2.2)⟩
theorem up_base (m : Nat) (e : Ev.E) : (Ev.E.up m e).base = e.base + m := by cases e <;> rfl
theorem up_inj {m : Nat} {a b : Ev.E} (h : Ev.E.up m a = Ev.E.up m b) : a = b := by
  cases a <;> cases b <;> simp [Ev.E.up] at h ⊢ <;> exact h
theorem nd_top {n : Nat} {l r : Ev.E} (h : (Ev.E.node n l r).nf) : n < (Ev.E.node n l r).top := by
  show n < n + max l.top r.top
  rcases Nat.eq_zero_or_pos (max l.top r.top) with q | q
  · have hm := (Ev.E.mk_iff.1 h.2.2).1
    rw [E_zero h.1 (by omega), E_zero h.2.1 (by omega)] at hm
    exact absurd ⟨rfl, rfl, rfl⟩ hm
  · omega
theorem leq_top : ∀ (n : Nat) (A B : Ev.E), Ev.leqF n A B = true → A.top ≤ B.top
  | 0, A, B, h => Nat.le_trans (of_decide_eq_true h) (Ev.E.base_le B)
  | n + 1, A, B, h => by
    simp only [Ev.leqF, Bool.or_eq_true, Bool.and_eq_true, decide_eq_true_eq] at h
    rcases h with h | ⟨⟨h1, h2⟩, h3, h4⟩
    · exact Nat.le_trans h (Ev.E.base_le B)
    · have a := leq_top n _ _ h3
      have b := leq_top n _ _ h4
      have c := Ev.E.half_top B
      cases A with
      | leaf _ => simp [Ev.E.isLeaf] at h1
      | node k l r =>
        rw [Ev.E.up_top] at a b
        have e1 : l.top + k ≤ (Ev.E.up B.base B.left).top := a
        have e2 : r.top + k ≤ (Ev.E.up B.base B.right).top := b
        show k + max l.top r.top ≤ B.top
        omega
theorem leq_same : ∀ (n : Nat) (A B : Ev.E), A.nf → B.nf → Ev.leqF n A B = true → Ev.leqF n B A = true → A = B
  | n, .leaf a, .leaf b, _, _, h1, h2 => by
    have x : a ≤ b := leq_top n _ _ h1
    have y : b ≤ a := leq_top n _ _ h2
    rw [Nat.le_antisymm x y]
  | n, .leaf a, .node b l r, f, g, h1, h2 => by
    have x : (Ev.E.node b l r).top ≤ a := leq_top n _ _ h2
    have y := nd_top g
    have z : a ≤ b := by
      cases n with
      | zero => exact of_decide_eq_true h1
      | succ n => have q := h1; simp [Ev.leqF, Ev.E.isLeaf, Ev.E.top, Ev.E.base] at q; exact of_decide_eq_true q
    omega
  | n, .node b l r, .leaf a, f, g, h1, h2 => by
    have x : (Ev.E.node b l r).top ≤ a := leq_top n _ _ h1
    have y := nd_top f
    have z : a ≤ b := by
      cases n with
      | zero => exact of_decide_eq_true h2
      | succ n => have q := h2; simp [Ev.leqF, Ev.E.isLeaf, Ev.E.top, Ev.E.base] at q; exact of_decide_eq_true q
    omega
  | 0, .node a l r, .node b l' r', f, g, h1, h2 => by
    have x : (Ev.E.node a l r).top ≤ b := of_decide_eq_true h1
    have y : (Ev.E.node b l' r').top ≤ a := of_decide_eq_true h2
    have := nd_top f
    have := nd_top g
    omega
  | n + 1, .node a l r, .node b l' r', f, g, h1, h2 => by
    have t1 := leq_top _ _ _ h1
    have t2 := leq_top _ _ _ h2
    have u := nd_top f
    have v := nd_top g
    have g1 : ¬ (Ev.E.node a l r).top ≤ b := by omega
    have g2 : ¬ (Ev.E.node b l' r').top ≤ a := by omega
    have e1 : (Ev.E.node a l r).base = a := rfl
    have e2 : (Ev.E.node b l' r').base = b := rfl
    have e3 : (Ev.E.node a l r).left = l := rfl
    have e4 : (Ev.E.node b l' r').left = l' := rfl
    have e5 : (Ev.E.node a l r).right = r := rfl
    have e6 : (Ev.E.node b l' r').right = r' := rfl
    have e7 : (Ev.E.node a l r).isLeaf = false := rfl
    have e8 : (Ev.E.node b l' r').isLeaf = false := rfl
    simp only [Ev.leqF, e1, e2, e3, e4, e5, e6, e7, e8, Bool.or_eq_true, Bool.and_eq_true, decide_eq_true_eq, g1, g2, false_or] at h1 h2
    have p := leq_same n _ _ (up_nf f.1) (up_nf g.1) h1.2.1 h2.2.1
    have q := leq_same n _ _ (up_nf f.2.1) (up_nf g.2.1) h1.2.2 h2.2.2
    have m1 := (Ev.E.mk_iff.1 f.2.2).2
    have m2 := (Ev.E.mk_iff.1 g.2.2).2
    have b1 := congrArg Ev.E.base p
    have b2 := congrArg Ev.E.base q
    rw [up_base, up_base] at b1 b2
    have hab : a = b := by omega
    subst hab
    rw [up_inj p, up_inj q]
theorem leq_self : ∀ (n : Nat) (A : Ev.E), A.depth ≤ n → Ev.leqF n A A = true
  | 0, .leaf a, _ => by simp [Ev.leqF, Ev.E.top, Ev.E.base]
  | 0, .node _ _ _, h => by simp [Ev.E.depth] at h
  | n + 1, .leaf a, _ => by simp [Ev.leqF, Ev.E.top, Ev.E.base]
  | n + 1, .node a l r, h => by
    have hd := Ev.E.half_depth _ n h
    have h1 := leq_self n _ hd.1
    have h2 := leq_self n _ hd.2
    simp only [Ev.leqF, h1, h2]
    simp [Ev.E.isLeaf]
theorem leq_same_iff {A B : Ev.E} (f : A.nf) (g : B.nf) (hA : A.depth ≤ 64) (hB : B.depth ≤ 64) : (Ev.leqF 64 A B && Ev.leqF 64 B A) = decide (A = B) := by
  by_cases h : A = B
  · subst h; simp [leq_self 64 A hA]
  · rw [decide_eq_false h]
    cases h1 : Ev.leqF 64 A B
    · rfl
    · cases h2 : Ev.leqF 64 B A
      · rfl
      · exact absurd (leq_same 64 A B f g h1 h2) h
end Go.Proofs.Ytgmigcmhnmmdkaa
