/- The program's event trees: Node, Leq, Join, Same. -/
import Derived.Test.YtgmigcmhnmmdkaaCrM15
import Derived.Test.YtgmigcmhnmmdkaaProg
set_option linter.all false
set_option maxRecDepth 100000
namespace Go.Proofs.Ytgmigcmhnmmdkaa.Ev
open Go.RowKit Go.Sep

def nodeR (n : Nat) (l r : E) : E × Nat :=
  if 16 ≤ max l.depth r.depth then (.leaf 0, 3) else if 1048576 < n then (.leaf 0, 4) else if 1048576 < n + max l.top r.top then (.leaf 0, 4) else (E.mk n l r, 0)
def leqF : Nat → E → E → Bool
  | 0, A, B => decide (A.top ≤ B.base)
  | n + 1, A, B => decide (A.top ≤ B.base) || (!A.isLeaf && !B.isLeaf && (leqF n (E.up A.base A.left) (E.up B.base B.left) && leqF n (E.up A.base A.right) (E.up B.base B.right)))
theorem E.mk_top (n : Nat) (l r : E) : (E.mk n l r).top ≤ n + max l.top r.top := by
  have h1 := E.base_le l
  have h2 := E.base_le r
  unfold E.mk
  split
  · show n + l.base ≤ _; omega
  · have key : ∀ (m : Nat) (t : E), m ≤ t.base → (E.dn m t).top + m ≤ t.top := fun m t hm => by
      cases t with
      | leaf k => simp only [E.dn, E.top, E.base] at *; omega
      | node k a b => simp only [E.dn, E.top, E.base] at *; omega
    have h3 := key (min l.base r.base) l (by omega)
    have h4 := key (min l.base r.base) r (by omega)
    show n + min l.base r.base + max (E.dn (min l.base r.base) l).top (E.dn (min l.base r.base) r).top ≤ _
    omega
theorem E.mk_depth (n : Nat) (l r : E) : (E.mk n l r).depth ≤ 1 + max l.depth r.depth := by
  unfold E.mk
  split
  · show 0 ≤ _; omega
  · show 1 + max (E.dn _ l).depth (E.dn _ r).depth ≤ _
    rw [E.dn_depth, E.dn_depth]; omega
theorem E.half_top (t : E) : (E.up t.base t.left).top ≤ t.top ∧ (E.up t.base t.right).top ≤ t.top := by
  rw [E.up_top, E.up_top]
  cases t with
  | leaf n => exact ⟨show 0 + n ≤ n by omega, show 0 + n ≤ n by omega⟩
  | node n l r => exact ⟨show l.top + n ≤ n + max l.top r.top by omega, show r.top + n ≤ n + max l.top r.top by omega⟩
theorem E.half_depth (t : E) (n : Nat) (h : t.depth ≤ n + 1) : (E.up t.base t.left).depth ≤ n ∧ (E.up t.base t.right).depth ≤ n := by
  rw [E.up_depth, E.up_depth]
  cases t with
  | leaf _ => exact ⟨Nat.zero_le _, Nat.zero_le _⟩
  | node m l r =>
    have : 1 + max l.depth r.depth ≤ n + 1 := h
    exact ⟨show l.depth ≤ n by omega, show r.depth ≤ n by omega⟩
set_option maxHeartbeats 1000000 in
theorem nodeR_c {I : IM} {n : Nat} {l r : E} {bl br : Nat} {pl pr : Option Addr} (hl : ERep I l bl pl) (hr : ERep I r br pr) (htl : l.top ≤ 1048576) (htr : r.top ≤ 1048576) (hdl : l.depth ≤ 1000) (hdr : r.depth ≤ 1000) : Fun Try.prog 74 #[.int .u64 ((n : Nat) : Int), evv bl pl, evv br pr] I (fun v J => ∃ b p, v = .tuple #[evv b p, .int .i64 (((nodeR n l r).2 : Nat) : Int)] ∧ ERep J (nodeR n l r).1 b p) := by
 refine enter_rule 32 [(0, .int .u64 ((n : Nat) : Int)), (1, .agg #[.int .u64 ((bl : Nat) : Int), .pointer pl]), (2, .agg #[.int .u64 ((br : Nat) : Int), .pointer pr])] Try.func74 rfl (by kernel_rfl) ?_
 intro w s
 refine wp_seq ?_
 refine region_rule ?_
 refine ops_rule (C := []) [] [] 4 [] 3 (fun φ1 => [(7, .int .i64 0), (6, .pointer (some ⟨(φ1 2), 0, none⟩)), (5, .pointer (some ⟨(φ1 1), 0, none⟩)), (4, .pointer (some ⟨(φ1 0), 0, none⟩))]) (fun φ1 => [((φ1 0), .cells #[.int .u64 ((bl : Nat) : Int), .pointer pl] 30), ((φ1 1), .cells #[.int .u64 ((br : Nat) : Int), .pointer pr] 30), ((φ1 2), .cells #[.int .u64 0, .pointer none] 30)]) (fun φ1 => []) s trivial (fun φ1 => by kernel_rfl) ?_
 intro φ1 w1 s
 refine ops_done (by kernel_rfl) ?_
 refine wp_seq ?_
 refine wp_seq ?_
 refine draw_rule (C := []) ⟨(fun φ2 xs2 => [.look 0 [.o 0, .o 0] [(φ1 0), (φ1 0)], .call 92 #[.agg #[.int .u64 ((bl : Nat) : Int), .pointer pl]], .look 0 [.o 1, .o 1] [(φ1 1), (φ1 1)], .call 92 #[.agg #[.int .u64 ((br : Nat) : Int), .pointer pr]], .sub 0 [] [] (.int .i64 (if ((E.depth r : Nat) : Int) > ((E.depth l : Nat) : Int) then ((E.depth r : Nat) : Int) else ((E.depth l : Nat) : Int))), .sub 0 [] [] (.bool (decide (((max (E.depth l) (E.depth r) : Nat) : Int) ≥ ((16 : Nat) : Int))))]), (fun φ2 xs2 => [.agg #[.int .u64 ((bl : Nat) : Int), .pointer pl], .int .i64 ((E.depth l : Nat) : Int), .agg #[.int .u64 ((br : Nat) : Int), .pointer pr], .int .i64 ((E.depth r : Nat) : Int), .int .i64 ((max (E.depth l) (E.depth r) : Nat) : Int), .bool (decide (16 ≤ (max (E.depth l) (E.depth r))))]), (fun φ2 xs2 => [[((φ1 0), .cells #[.int .u64 ((bl : Nat) : Int), .pointer pl] 30), ((φ1 1), .cells #[.int .u64 ((br : Nat) : Int), .pointer pr] 30), ((φ1 2), .cells #[.int .u64 0, .pointer none] 30)]]), (fun φ2 xs2 => [[default, default, default, default, default, default]]), [], [1, 3, 1, 3, 5, 5]⟩ (fun j => ([MP.any, MP.any, MP.any, MP.any, MP.any, MP.any] : List MP).getD j MP.any) [1, 3] [4, 5] [] (fun φ2 xs2 => []) (fun φ2 xs2 => [(8, .agg #[.int .u64 ((bl : Nat) : Int), .pointer pl]), (9, .int .i64 ((E.depth l : Nat) : Int)), (10, .agg #[.int .u64 ((br : Nat) : Int), .pointer pr]), (11, .int .i64 ((E.depth r : Nat) : Int)), (12, .int .i64 ((max (E.depth l) (E.depth r) : Nat) : Int)), (13, .bool (decide (16 ≤ (max (E.depth l) (E.depth r)))))]) (fun φ2 xs2 => [((φ1 0), .cells #[.int .u64 ((bl : Nat) : Int), .pointer pl] 30), ((φ1 1), .cells #[.int .u64 ((br : Nat) : Int), .pointer pr] 30), ((φ1 2), .cells #[.int .u64 0, .pointer none] 30)]) s trivial (by kernel_rfl) (by kernel_rfl) (fun _ _ => by kernel_rfl) (fun _ _ => by kernel_rfl) ⟨fun _ _ => by kernel_rfl, fun _ _ => by kernel_rfl, fun _ _ => by kernel_rfl, fun _ _ => by kernel_rfl⟩ (fun _ _ _ => by kernel_rfl) (fun _ _ => by kernel_rfl) (fun _ _ => by kernel_rfl) (fun _ _ => by kernel_rfl) (fun _ _ => by kernel_rfl) (fun _ _ => by kernel_rfl) ⟨kcast (A := ∀ (φ2 : Nat → Nat) (xs2 : Xs), (.int .i64 (if ((E.depth r : Nat) : Int) > ((E.depth l : Nat) : Int) then ((E.depth r : Nat) : Int) else ((E.depth l : Nat) : Int)) : Value) = .int .i64 ((max (E.depth l) (E.depth r) : Nat) : Int)) (by kernel_rfl) (fun φ2 xs2 => congrArg (Value.int .i64) ((nat_max (a := (E.depth l)) (b := (E.depth r))))), ⟨kcast (A := ∀ (φ2 : Nat → Nat) (xs2 : Xs), (.bool (decide (((max (E.depth l) (E.depth r) : Nat) : Int) ≥ ((16 : Nat) : Int))) : Value) = .bool (decide (16 ≤ (max (E.depth l) (E.depth r))))) (by kernel_rfl) (fun φ2 xs2 => congrArg Value.bool ((nat_geq (a := (max (E.depth l) (E.depth r))) (b := 16)))), trivial⟩⟩ trivial (by kernel_rfl) ⟨?c2_1, ?c2_3, trivial⟩ ?k2
 case c2_1 =>
  refine kcast (A := ∀ (φ2 : Nat → Nat) (xs2 : Xs) (J1_2 : IM), I.Le J1_2 → Fun Try.prog 92 #[.agg #[.int .u64 ((bl : Nat) : Int), .pointer pl]] J1_2 (fun v J' => ∃ x : UX, v = .int .i64 ((E.depth l : Nat) : Int) ∧ (True))) (by kernel_rfl) ?_
  intro φ2 xs2 J1_2 leJ
  have hl := ERep.mono leJ hl
  exact Fun.mono (depth_c hl) (fun v J' _ h => ⟨UX.d, h, trivial⟩)
 case c2_3 =>
  refine kcast (A := ∀ (φ2 : Nat → Nat) (xs2 : Xs) (J3_2 : IM), I.Le J3_2 → (True) → Fun Try.prog 92 #[.agg #[.int .u64 ((br : Nat) : Int), .pointer pr]] J3_2 (fun v J' => ∃ x : UX, v = .int .i64 ((E.depth r : Nat) : Int) ∧ (True))) (by kernel_rfl) ?_
  intro φ2 xs2 J3_2 leJ
  rintro _
  have hr := ERep.mono leJ hr
  exact Fun.mono (depth_c hr) (fun v J' _ h => ⟨UX.d, h, trivial⟩)
 case k2 =>
  rintro φ2 xs2 I2 w2 le2 s _ _
  replace hl := ERep.mono le2 hl
  replace hr := ERep.mono le2 hr
  rcases Bool.eq_false_or_eq_true (decide (16 ≤ (max (E.depth l) (E.depth r)))) with hc3 | hc3
  ·
   rw [hc3]
   refine cond_true_rule (b := true) (by kernel_rfl) rfl ?_
   refine wp_seq ?_
   refine region_rule ?_
   refine ops_rule (C := []) [((φ1 0), .cells #[.int .u64 ((bl : Nat) : Int), .pointer pl] 30), ((φ1 1), .cells #[.int .u64 ((br : Nat) : Int), .pointer pr] 30), ((φ1 2), .cells #[.int .u64 0, .pointer none] 30)] [] 3 [.o 2, .o 2] 0 (fun φ4 => [(7, .int .i64 3), (14, .agg #[.int .u64 0, .pointer none])]) (fun φ4 => [((φ1 0), .cells #[.int .u64 ((bl : Nat) : Int), .pointer pl] 30), ((φ1 1), .cells #[.int .u64 ((br : Nat) : Int), .pointer pr] 30), ((φ1 2), .cells #[.int .u64 0, .pointer none] 30)]) (fun φ4 => [(φ1 2), (φ1 2)]) s trivial (fun φ4 => by kernel_rfl) ?_
   intro φ4 w4 s
   refine ops_done (by kernel_rfl) ?_
   refine wp_ret ?_
   refine ret_rule (C := []) [((φ1 0), .cells #[.int .u64 ((bl : Nat) : Int), .pointer pl] 30), ((φ1 1), .cells #[.int .u64 ((br : Nat) : Int), .pointer pr] 30), ((φ1 2), .cells #[.int .u64 0, .pointer none] 30)] [] (.tuple #[.agg #[.int .u64 0, .pointer none], .int .i64 3]) [.o 2, .o 2] [(φ1 2), (φ1 2)] s trivial (by kernel_rfl) ?_
   have hR : nodeR n l r = (E.leaf 0, 3) := by unfold nodeR; rw [if_pos (of_decide_eq_true hc3)]
   rw [hR]
   exact ⟨_, _, _, rfl, s, ⟨_, _, rfl, rfl, rfl⟩⟩
  ·
   rw [hc3]
   refine cond_false_rule (b := false) (by kernel_rfl) rfl ?_
   refine wp_skip ?_
   refine wp_seq ?_
   refine wp_seq ?_
   rcases Bool.eq_false_or_eq_true (decide (1048576 < n)) with hc5 | hc5
   ·
    refine draw_rule (C := []) ⟨(fun φ6 xs6 => [.look 0 [] [], .sub 0 [] [] (.bool (decide (((n : Nat) : Int) > ((1048576 : Nat) : Int)))), .look 0 [] [], .skip, .skip, .skip, .skip, .skip, .skip, .skip, .skip, .look 0 [] []]), (fun φ6 xs6 => [.int .u64 ((n : Nat) : Int), .bool true, .bool true, undef, undef, undef, undef, undef, undef, undef, undef, .bool true]), (fun φ6 xs6 => [[((φ1 0), .cells #[.int .u64 ((bl : Nat) : Int), .pointer pl] 30), ((φ1 1), .cells #[.int .u64 ((br : Nat) : Int), .pointer pr] 30), ((φ1 2), .cells #[.int .u64 0, .pointer none] 30)]]), (fun φ6 xs6 => [[default, default, default, default, default, default, default, default, default, default, default, default]]), [], [1, 5, 1, 0, 0, 0, 0, 0, 0, 0, 0, 1]⟩ (fun j => ([MP.any, MP.any, MP.any, MP.any, MP.any, MP.any, MP.any, MP.any, MP.any, MP.any, MP.any, MP.any] : List MP).getD j MP.any) [] [1] [] (fun φ6 xs6 => []) (fun φ6 xs6 => [(15, .int .u64 ((n : Nat) : Int)), (16, .bool true), (17, .bool true), (18, undef), (19, undef), (20, undef), (21, undef), (22, undef), (23, undef), (24, undef), (25, undef), (26, .bool true)]) (fun φ6 xs6 => [((φ1 0), .cells #[.int .u64 ((bl : Nat) : Int), .pointer pl] 30), ((φ1 1), .cells #[.int .u64 ((br : Nat) : Int), .pointer pr] 30), ((φ1 2), .cells #[.int .u64 0, .pointer none] 30)]) s trivial (by kernel_rfl) (by kernel_rfl) (fun _ _ => by kernel_rfl) (fun _ _ => by kernel_rfl) ⟨fun _ _ => by kernel_rfl, fun _ _ => by kernel_rfl, fun _ _ => by kernel_rfl, fun _ _ => by kernel_rfl⟩ (fun _ _ _ => by kernel_rfl) (fun _ _ => by kernel_rfl) (fun _ _ => by kernel_rfl) (fun _ _ => by kernel_rfl) (fun _ _ => by kernel_rfl) (fun _ _ => by kernel_rfl) ⟨kcast (A := ∀ (φ6 : Nat → Nat) (xs6 : Xs), (.bool (decide (((n : Nat) : Int) > ((1048576 : Nat) : Int))) : Value) = .bool true) (by kernel_rfl) (fun φ6 xs6 => congrArg Value.bool ((nat_gtr (a := n) (b := 1048576)).trans (hc5))), trivial⟩ trivial (by kernel_rfl) trivial ?k6
    case k6 =>
     rintro φ6 xs6 I6 w6 le6 s 
     replace hl := ERep.mono le6 hl
     replace hr := ERep.mono le6 hr
     refine cond_true_rule (b := true) (by kernel_rfl) rfl ?_
     refine wp_seq ?_
     refine region_rule ?_
     refine ops_rule (C := []) [((φ1 0), .cells #[.int .u64 ((bl : Nat) : Int), .pointer pl] 30), ((φ1 1), .cells #[.int .u64 ((br : Nat) : Int), .pointer pr] 30), ((φ1 2), .cells #[.int .u64 0, .pointer none] 30)] [] 3 [.o 2, .o 2] 0 (fun φ7 => [(7, .int .i64 4), (27, .agg #[.int .u64 0, .pointer none])]) (fun φ7 => [((φ1 0), .cells #[.int .u64 ((bl : Nat) : Int), .pointer pl] 30), ((φ1 1), .cells #[.int .u64 ((br : Nat) : Int), .pointer pr] 30), ((φ1 2), .cells #[.int .u64 0, .pointer none] 30)]) (fun φ7 => [(φ1 2), (φ1 2)]) s trivial (fun φ7 => by kernel_rfl) ?_
     intro φ7 w7 s
     refine ops_done (by kernel_rfl) ?_
     refine wp_ret ?_
     refine ret_rule (C := []) [((φ1 0), .cells #[.int .u64 ((bl : Nat) : Int), .pointer pl] 30), ((φ1 1), .cells #[.int .u64 ((br : Nat) : Int), .pointer pr] 30), ((φ1 2), .cells #[.int .u64 0, .pointer none] 30)] [] (.tuple #[.agg #[.int .u64 0, .pointer none], .int .i64 4]) [.o 2, .o 2] [(φ1 2), (φ1 2)] s trivial (by kernel_rfl) ?_
     have hR : nodeR n l r = (E.leaf 0, 4) := by unfold nodeR; rw [if_neg (of_decide_eq_false hc3), if_pos (of_decide_eq_true hc5)]
     rw [hR]
     exact ⟨_, _, _, rfl, s, ⟨_, _, rfl, rfl, rfl⟩⟩
   ·
    refine draw_rule (C := []) ⟨(fun φ8 xs8 => [.look 0 [] [], .sub 0 [] [] (.bool (decide (((n : Nat) : Int) > ((1048576 : Nat) : Int)))), .look 0 [] [], .look 0 [] [], .look 0 [.o 0, .o 0] [(φ1 0), (φ1 0)], .call 77 #[.agg #[.int .u64 ((bl : Nat) : Int), .pointer pl]], .look 0 [.o 1, .o 1] [(φ1 1), (φ1 1)], .call 77 #[.agg #[.int .u64 ((br : Nat) : Int), .pointer pr]], .sub 0 [] [] (.int .u64 (if ((E.top r : Nat) : Int) > ((E.top l : Nat) : Int) then ((E.top r : Nat) : Int) else ((E.top l : Nat) : Int))), .sub 0 [] [] (.int .u64 (IntKind.wrap .u64 (((n : Nat) : Int) + ((max (E.top l) (E.top r) : Nat) : Int)))), .sub 0 [] [] (.bool (decide (((n + (max (E.top l) (E.top r)) : Nat) : Int) > ((1048576 : Nat) : Int)))), .look 0 [] []]), (fun φ8 xs8 => [.int .u64 ((n : Nat) : Int), .bool false, .bool false, .int .u64 ((n : Nat) : Int), .agg #[.int .u64 ((bl : Nat) : Int), .pointer pl], .int .u64 ((E.top l : Nat) : Int), .agg #[.int .u64 ((br : Nat) : Int), .pointer pr], .int .u64 ((E.top r : Nat) : Int), .int .u64 ((max (E.top l) (E.top r) : Nat) : Int), .int .u64 ((n + (max (E.top l) (E.top r)) : Nat) : Int), .bool (decide (1048576 < (n + (max (E.top l) (E.top r))))), .bool (decide (1048576 < (n + (max (E.top l) (E.top r)))))]), (fun φ8 xs8 => [[((φ1 0), .cells #[.int .u64 ((bl : Nat) : Int), .pointer pl] 30), ((φ1 1), .cells #[.int .u64 ((br : Nat) : Int), .pointer pr] 30), ((φ1 2), .cells #[.int .u64 0, .pointer none] 30)]]), (fun φ8 xs8 => [[default, default, default, default, default, default, default, default, default, default, default, default]]), [], [1, 5, 1, 1, 1, 3, 1, 3, 5, 5, 5, 1]⟩ (fun j => ([MP.any, MP.any, MP.any, MP.any, MP.any, MP.any, MP.any, MP.any, MP.any, MP.any, MP.any, MP.any] : List MP).getD j MP.any) [5, 7] [1, 8, 9, 10] [] (fun φ8 xs8 => []) (fun φ8 xs8 => [(15, .int .u64 ((n : Nat) : Int)), (16, .bool false), (17, .bool false), (18, .int .u64 ((n : Nat) : Int)), (19, .agg #[.int .u64 ((bl : Nat) : Int), .pointer pl]), (20, .int .u64 ((E.top l : Nat) : Int)), (21, .agg #[.int .u64 ((br : Nat) : Int), .pointer pr]), (22, .int .u64 ((E.top r : Nat) : Int)), (23, .int .u64 ((max (E.top l) (E.top r) : Nat) : Int)), (24, .int .u64 ((n + (max (E.top l) (E.top r)) : Nat) : Int)), (25, .bool (decide (1048576 < (n + (max (E.top l) (E.top r)))))), (26, .bool (decide (1048576 < (n + (max (E.top l) (E.top r))))))]) (fun φ8 xs8 => [((φ1 0), .cells #[.int .u64 ((bl : Nat) : Int), .pointer pl] 30), ((φ1 1), .cells #[.int .u64 ((br : Nat) : Int), .pointer pr] 30), ((φ1 2), .cells #[.int .u64 0, .pointer none] 30)]) s trivial (by kernel_rfl) (by kernel_rfl) (fun _ _ => by kernel_rfl) (fun _ _ => by kernel_rfl) ⟨fun _ _ => by kernel_rfl, fun _ _ => by kernel_rfl, fun _ _ => by kernel_rfl, fun _ _ => by kernel_rfl⟩ (fun _ _ _ => by kernel_rfl) (fun _ _ => by kernel_rfl) (fun _ _ => by kernel_rfl) (fun _ _ => by kernel_rfl) (fun _ _ => by kernel_rfl) (fun _ _ => by kernel_rfl) ⟨kcast (A := ∀ (φ8 : Nat → Nat) (xs8 : Xs), (.bool (decide (((n : Nat) : Int) > ((1048576 : Nat) : Int))) : Value) = .bool false) (by kernel_rfl) (fun φ8 xs8 => congrArg Value.bool ((nat_gtr (a := n) (b := 1048576)).trans (hc5))), ⟨kcast (A := ∀ (φ8 : Nat → Nat) (xs8 : Xs), (.int .u64 (if ((E.top r : Nat) : Int) > ((E.top l : Nat) : Int) then ((E.top r : Nat) : Int) else ((E.top l : Nat) : Int)) : Value) = .int .u64 ((max (E.top l) (E.top r) : Nat) : Int)) (by kernel_rfl) (fun φ8 xs8 => congrArg (Value.int .u64) ((nat_max (a := (E.top l)) (b := (E.top r))))), ⟨kcast (A := ∀ (φ8 : Nat → Nat) (xs8 : Xs), (.int .u64 (IntKind.wrap .u64 (((n : Nat) : Int) + ((max (E.top l) (E.top r) : Nat) : Int))) : Value) = .int .u64 ((n + (max (E.top l) (E.top r)) : Nat) : Int)) (by kernel_rfl) (fun φ8 xs8 => congrArg (Value.int .u64) ((nat_addU (a := n) (b := (max (E.top l) (E.top r))) (by have := of_decide_eq_false hc5; omega)))), ⟨kcast (A := ∀ (φ8 : Nat → Nat) (xs8 : Xs), (.bool (decide (((n + (max (E.top l) (E.top r)) : Nat) : Int) > ((1048576 : Nat) : Int))) : Value) = .bool (decide (1048576 < (n + (max (E.top l) (E.top r)))))) (by kernel_rfl) (fun φ8 xs8 => congrArg Value.bool ((nat_gtr (a := (n + (max (E.top l) (E.top r)))) (b := 1048576)))), trivial⟩⟩⟩⟩ trivial (by kernel_rfl) ⟨?c8_5, ?c8_7, trivial⟩ ?k8
    case c8_5 =>
     refine kcast (A := ∀ (φ8 : Nat → Nat) (xs8 : Xs) (J5_8 : IM), I2.Le J5_8 → Fun Try.prog 77 #[.agg #[.int .u64 ((bl : Nat) : Int), .pointer pl]] J5_8 (fun v J' => ∃ x : UX, v = .int .u64 ((E.top l : Nat) : Int) ∧ (True))) (by kernel_rfl) ?_
     intro φ8 xs8 J5_8 leJ
     have hl := ERep.mono leJ hl
     exact Fun.mono (max_c hl (by omega)) (fun v J' _ h => ⟨UX.d, h, trivial⟩)
    case c8_7 =>
     refine kcast (A := ∀ (φ8 : Nat → Nat) (xs8 : Xs) (J7_8 : IM), I2.Le J7_8 → (True) → Fun Try.prog 77 #[.agg #[.int .u64 ((br : Nat) : Int), .pointer pr]] J7_8 (fun v J' => ∃ x : UX, v = .int .u64 ((E.top r : Nat) : Int) ∧ (True))) (by kernel_rfl) ?_
     intro φ8 xs8 J7_8 leJ
     rintro _
     have hr := ERep.mono leJ hr
     exact Fun.mono (max_c hr (by omega)) (fun v J' _ h => ⟨UX.d, h, trivial⟩)
    case k8 =>
     rintro φ8 xs8 I8 w8 le8 s _ _
     replace hl := ERep.mono le8 hl
     replace hr := ERep.mono le8 hr
     rcases Bool.eq_false_or_eq_true (decide (1048576 < (n + (max (E.top l) (E.top r))))) with hc9 | hc9
     ·
      rw [hc9]
      refine cond_true_rule (b := true) (by kernel_rfl) rfl ?_
      refine wp_seq ?_
      refine region_rule ?_
      refine ops_rule (C := []) [((φ1 0), .cells #[.int .u64 ((bl : Nat) : Int), .pointer pl] 30), ((φ1 1), .cells #[.int .u64 ((br : Nat) : Int), .pointer pr] 30), ((φ1 2), .cells #[.int .u64 0, .pointer none] 30)] [] 3 [.o 2, .o 2] 0 (fun φ10 => [(7, .int .i64 4), (27, .agg #[.int .u64 0, .pointer none])]) (fun φ10 => [((φ1 0), .cells #[.int .u64 ((bl : Nat) : Int), .pointer pl] 30), ((φ1 1), .cells #[.int .u64 ((br : Nat) : Int), .pointer pr] 30), ((φ1 2), .cells #[.int .u64 0, .pointer none] 30)]) (fun φ10 => [(φ1 2), (φ1 2)]) s trivial (fun φ10 => by kernel_rfl) ?_
      intro φ10 w10 s
      refine ops_done (by kernel_rfl) ?_
      refine wp_ret ?_
      refine ret_rule (C := []) [((φ1 0), .cells #[.int .u64 ((bl : Nat) : Int), .pointer pl] 30), ((φ1 1), .cells #[.int .u64 ((br : Nat) : Int), .pointer pr] 30), ((φ1 2), .cells #[.int .u64 0, .pointer none] 30)] [] (.tuple #[.agg #[.int .u64 0, .pointer none], .int .i64 4]) [.o 2, .o 2] [(φ1 2), (φ1 2)] s trivial (by kernel_rfl) ?_
      have hR : nodeR n l r = (E.leaf 0, 4) := by unfold nodeR; rw [if_neg (of_decide_eq_false hc3), if_neg (of_decide_eq_false hc5), if_pos (of_decide_eq_true hc9)]
      rw [hR]
      exact ⟨_, _, _, rfl, s, ⟨_, _, rfl, rfl, rfl⟩⟩
     ·
      rw [hc9]
      refine cond_false_rule (b := false) (by kernel_rfl) rfl ?_
      refine wp_skip ?_
      refine wp_seq ?_
      refine region_rule ?_
      refine ops_rule (C := []) [((φ1 0), .cells #[.int .u64 ((bl : Nat) : Int), .pointer pl] 30), ((φ1 1), .cells #[.int .u64 ((br : Nat) : Int), .pointer pr] 30), ((φ1 2), .cells #[.int .u64 0, .pointer none] 30)] [] 3 [.o 0, .o 0, .o 1, .o 1] 0 (fun φ11 => [(30, .agg #[.int .u64 ((br : Nat) : Int), .pointer pr]), (29, .agg #[.int .u64 ((bl : Nat) : Int), .pointer pl]), (28, .int .u64 ((n : Nat) : Int))]) (fun φ11 => [((φ1 0), .cells #[.int .u64 ((bl : Nat) : Int), .pointer pl] 30), ((φ1 1), .cells #[.int .u64 ((br : Nat) : Int), .pointer pr] 30), ((φ1 2), .cells #[.int .u64 0, .pointer none] 30)]) (fun φ11 => [(φ1 0), (φ1 0), (φ1 1), (φ1 1)]) s trivial (fun φ11 => by kernel_rfl) ?_
      intro φ11 w11 s
      refine call_rule (some 31) s (node_c (n := n) hl hr (by simp only [decide_eq_false_iff_not] at *; omega) (by simp only [decide_eq_false_iff_not] at *; omega) (by simp only [decide_eq_false_iff_not] at *; omega)) (by kernel_rfl) ?_
      intro v12 I12 w12 le12 h12 s
      obtain ⟨b12, p12, rfl, h12_0⟩ := h12
      refine ops_rule (C := []) [((φ1 0), .cells #[.int .u64 ((bl : Nat) : Int), .pointer pl] 30), ((φ1 1), .cells #[.int .u64 ((br : Nat) : Int), .pointer pr] 30), ((φ1 2), .cells #[.int .u64 0, .pointer none] 30)] [] 2 [.o 2, .o 2] 0 (fun φ13 => [(7, .int .i64 0)]) (fun φ13 => [((φ1 0), .cells #[.int .u64 ((bl : Nat) : Int), .pointer pl] 30), ((φ1 1), .cells #[.int .u64 ((br : Nat) : Int), .pointer pr] 30), ((φ1 2), .cells #[.int .u64 ((b12 : Nat) : Int), .pointer p12] 30)]) (fun φ13 => [(φ1 2), (φ1 2)]) s trivial (fun φ13 => by kernel_rfl) ?_
      intro φ13 w13 s
      refine ops_done (by kernel_rfl) ?_
      refine wp_ret ?_
      refine ret_rule (C := []) [((φ1 0), .cells #[.int .u64 ((bl : Nat) : Int), .pointer pl] 30), ((φ1 1), .cells #[.int .u64 ((br : Nat) : Int), .pointer pr] 30), ((φ1 2), .cells #[.int .u64 ((b12 : Nat) : Int), .pointer p12] 30)] [] (.tuple #[.agg #[.int .u64 ((b12 : Nat) : Int), .pointer p12], .int .i64 0]) [.o 2, .o 2] [(φ1 2), (φ1 2)] s trivial (by kernel_rfl) ?_
      have hR : nodeR n l r = (E.mk n l r, 0) := by unfold nodeR; rw [if_neg (of_decide_eq_false hc3), if_neg (of_decide_eq_false hc5), if_neg (of_decide_eq_false hc9)]
      rw [hR]
      exact ⟨_, _, _, rfl, s, ⟨_, _, rfl, h12_0⟩⟩

set_option maxHeartbeats 1000000 in
theorem leq_step {I : IM} {A B : E} {ba bb : Nat} {pa pb : Option Addr} (hA : ERep I A ba pa) (hB : ERep I B bb pb) (htA : A.top < 18446744073709551616) (htB : B.top < 18446744073709551616) (cl cr : Bool) (ihl : A.isLeaf = false → B.isLeaf = false → ∀ {J : IM} {b1 b2 : Nat} {p1 p2 : Option Addr}, ERep J (E.up ba A.left) b1 p1 → ERep J (E.up bb B.left) b2 p2 → Fun Try.prog 42 #[evv b1 p1, evv b2 p2] J (fun v _ => v = .bool cl)) (ihr : A.isLeaf = false → B.isLeaf = false → ∀ {J : IM} {b1 b2 : Nat} {p1 p2 : Option Addr}, ERep J (E.up ba A.right) b1 p1 → ERep J (E.up bb B.right) b2 p2 → Fun Try.prog 42 #[evv b1 p1, evv b2 p2] J (fun v _ => v = .bool cr)) : Fun Try.prog 42 #[evv ba pa, evv bb pb] I (fun v J => v = .bool (decide (A.top ≤ bb) || (!A.isLeaf && !B.isLeaf && (cl && cr)))) := by
 refine enter_rule 38 [(0, .agg #[.int .u64 ((ba : Nat) : Int), .pointer pa]), (1, .agg #[.int .u64 ((bb : Nat) : Int), .pointer pb])] Try.func42 rfl (by kernel_rfl) ?_
 intro w s
 refine wp_seq ?_
 refine region_rule ?_
 refine ops_rule (C := []) [] [] 3 [] 2 (fun φ1 => [(4, .bool false), (3, .pointer (some ⟨(φ1 1), 0, none⟩)), (2, .pointer (some ⟨(φ1 0), 0, none⟩))]) (fun φ1 => [((φ1 0), .cells #[.int .u64 ((ba : Nat) : Int), .pointer pa] 30), ((φ1 1), .cells #[.int .u64 ((bb : Nat) : Int), .pointer pb] 30)]) (fun φ1 => []) s trivial (fun φ1 => by kernel_rfl) ?_
 intro φ1 w1 s
 refine ops_done (by kernel_rfl) ?_
 refine wp_seq ?_
 refine wp_seq ?_
 refine draw_rule (C := []) ⟨(fun φ2 xs2 => [.look 0 [.o 0, .o 0] [(φ1 0), (φ1 0)], .call 77 #[.agg #[.int .u64 ((ba : Nat) : Int), .pointer pa]], .look 0 [.o 1, .o 1] [(φ1 1), (φ1 1)], .call 78 #[.agg #[.int .u64 ((bb : Nat) : Int), .pointer pb]], .sub 0 [] [] (.bool (decide (((E.top A : Nat) : Int) ≤ ((bb : Nat) : Int))))]), (fun φ2 xs2 => [.agg #[.int .u64 ((ba : Nat) : Int), .pointer pa], .int .u64 ((E.top A : Nat) : Int), .agg #[.int .u64 ((bb : Nat) : Int), .pointer pb], .int .u64 ((bb : Nat) : Int), .bool (decide ((E.top A) ≤ bb))]), (fun φ2 xs2 => [[((φ1 0), .cells #[.int .u64 ((ba : Nat) : Int), .pointer pa] 30), ((φ1 1), .cells #[.int .u64 ((bb : Nat) : Int), .pointer pb] 30)]]), (fun φ2 xs2 => [[default, default, default, default, default]]), [], [1, 3, 1, 3, 5]⟩ (fun j => ([MP.any, MP.any, MP.any, MP.any, MP.any] : List MP).getD j MP.any) [1, 3] [4] [] (fun φ2 xs2 => []) (fun φ2 xs2 => [(9, .agg #[.int .u64 ((ba : Nat) : Int), .pointer pa]), (10, .int .u64 ((E.top A : Nat) : Int)), (11, .agg #[.int .u64 ((bb : Nat) : Int), .pointer pb]), (12, .int .u64 ((bb : Nat) : Int)), (13, .bool (decide ((E.top A) ≤ bb)))]) (fun φ2 xs2 => [((φ1 0), .cells #[.int .u64 ((ba : Nat) : Int), .pointer pa] 30), ((φ1 1), .cells #[.int .u64 ((bb : Nat) : Int), .pointer pb] 30)]) s trivial (by kernel_rfl) (by kernel_rfl) (fun _ _ => by kernel_rfl) (fun _ _ => by kernel_rfl) ⟨fun _ _ => by kernel_rfl, fun _ _ => by kernel_rfl, fun _ _ => by kernel_rfl, fun _ _ => by kernel_rfl⟩ (fun _ _ _ => by kernel_rfl) (fun _ _ => by kernel_rfl) (fun _ _ => by kernel_rfl) (fun _ _ => by kernel_rfl) (fun _ _ => by kernel_rfl) (fun _ _ => by kernel_rfl) ⟨kcast (A := ∀ (φ2 : Nat → Nat) (xs2 : Xs), (.bool (decide (((E.top A : Nat) : Int) ≤ ((bb : Nat) : Int))) : Value) = .bool (decide ((E.top A) ≤ bb))) (by kernel_rfl) (fun φ2 xs2 => congrArg Value.bool ((nat_leq (a := (E.top A)) (b := bb)))), trivial⟩ trivial (by kernel_rfl) ⟨?c2_1, ?c2_3, trivial⟩ ?k2
 case c2_1 =>
  refine kcast (A := ∀ (φ2 : Nat → Nat) (xs2 : Xs) (J1_2 : IM), I.Le J1_2 → Fun Try.prog 77 #[.agg #[.int .u64 ((ba : Nat) : Int), .pointer pa]] J1_2 (fun v J' => ∃ x : UX, v = .int .u64 ((E.top A : Nat) : Int) ∧ (True))) (by kernel_rfl) ?_
  intro φ2 xs2 J1_2 leJ
  have hA := ERep.mono leJ hA
  exact Fun.mono (max_c hA (by omega)) (fun v J' _ h => ⟨UX.d, h, trivial⟩)
 case c2_3 =>
  refine kcast (A := ∀ (φ2 : Nat → Nat) (xs2 : Xs) (J3_2 : IM), I.Le J3_2 → (True) → Fun Try.prog 78 #[.agg #[.int .u64 ((bb : Nat) : Int), .pointer pb]] J3_2 (fun v J' => ∃ x : UX, v = .int .u64 ((bb : Nat) : Int) ∧ (True))) (by kernel_rfl) ?_
  intro φ2 xs2 J3_2 leJ
  rintro _
  have hB := ERep.mono leJ hB
  exact Fun.mono (min_c hB) (fun v J' _ h => ⟨UX.d, h, trivial⟩)
 case k2 =>
  rintro φ2 xs2 I2 w2 le2 s _ _
  replace hA := ERep.mono le2 hA
  replace hB := ERep.mono le2 hB
  rcases Bool.eq_false_or_eq_true (decide ((E.top A) ≤ bb)) with hc3 | hc3
  ·
   rw [hc3]
   refine cond_true_rule (b := true) (by kernel_rfl) rfl ?_
   refine wp_seq ?_
   refine region_rule ?_
   refine ops_rule (C := []) [((φ1 0), .cells #[.int .u64 ((ba : Nat) : Int), .pointer pa] 30), ((φ1 1), .cells #[.int .u64 ((bb : Nat) : Int), .pointer pb] 30)] [] 1 [] 0 (fun φ4 => [(4, .bool true)]) (fun φ4 => [((φ1 0), .cells #[.int .u64 ((ba : Nat) : Int), .pointer pa] 30), ((φ1 1), .cells #[.int .u64 ((bb : Nat) : Int), .pointer pb] 30)]) (fun φ4 => []) s trivial (fun φ4 => by kernel_rfl) ?_
   intro φ4 w4 s
   refine ops_done (by kernel_rfl) ?_
   refine wp_ret ?_
   refine ret_rule (C := []) [((φ1 0), .cells #[.int .u64 ((ba : Nat) : Int), .pointer pa] 30), ((φ1 1), .cells #[.int .u64 ((bb : Nat) : Int), .pointer pb] 30)] [] (.bool true) [] [] s trivial (by kernel_rfl) ?_
   exact ⟨_, _, _, rfl, s, by simp [hc3]⟩
  ·
   rw [hc3]
   refine cond_false_rule (b := false) (by kernel_rfl) rfl ?_
   refine wp_skip ?_
   refine wp_seq ?_
   refine wp_seq ?_
   refine region_rule ?_
   refine ops_rule (C := []) [((φ1 0), .cells #[.int .u64 ((ba : Nat) : Int), .pointer pa] 30), ((φ1 1), .cells #[.int .u64 ((bb : Nat) : Int), .pointer pb] 30)] [] 1 [.o 0, .o 0] 0 (fun φ5 => [(14, .agg #[.int .u64 ((ba : Nat) : Int), .pointer pa])]) (fun φ5 => [((φ1 0), .cells #[.int .u64 ((ba : Nat) : Int), .pointer pa] 30), ((φ1 1), .cells #[.int .u64 ((bb : Nat) : Int), .pointer pb] 30)]) (fun φ5 => [(φ1 0), (φ1 0)]) s trivial (fun φ5 => by kernel_rfl) ?_
   intro φ5 w5 s
   refine call_rule (some 15) s (isLeaf_c hA) (by kernel_rfl) ?_
   intro v6 I6 w6 le6 h6 s
   replace hA := ERep.mono le6 hA
   replace hB := ERep.mono le6 hB
   obtain rfl := h6
   refine ops_rule (C := []) [((φ1 0), .cells #[.int .u64 ((ba : Nat) : Int), .pointer pa] 30), ((φ1 1), .cells #[.int .u64 ((bb : Nat) : Int), .pointer pb] 30)] [] 1 [] 0 (fun φ7 => [(16, .bool (E.isLeaf A))]) (fun φ7 => [((φ1 0), .cells #[.int .u64 ((ba : Nat) : Int), .pointer pa] 30), ((φ1 1), .cells #[.int .u64 ((bb : Nat) : Int), .pointer pb] 30)]) (fun φ7 => []) s trivial (fun φ7 => by kernel_rfl) ?_
   intro φ7 w7 s
   rcases Bool.eq_false_or_eq_true (E.isLeaf A) with hc8 | hc8
   ·
    rw [hc8]
    refine ops_rule (C := []) [((φ1 0), .cells #[.int .u64 ((ba : Nat) : Int), .pointer pa] 30), ((φ1 1), .cells #[.int .u64 ((bb : Nat) : Int), .pointer pb] 30)] [] 3 [] 0 (fun φ9 => [(19, .bool true), (18, undef), (17, undef)]) (fun φ9 => [((φ1 0), .cells #[.int .u64 ((ba : Nat) : Int), .pointer pa] 30), ((φ1 1), .cells #[.int .u64 ((bb : Nat) : Int), .pointer pb] 30)]) (fun φ9 => []) s trivial (fun φ9 => by kernel_rfl) ?_
    intro φ9 w9 s
    refine ops_done (by kernel_rfl) ?_
    refine cond_true_rule (b := true) (by kernel_rfl) rfl ?_
    refine wp_seq ?_
    refine region_rule ?_
    refine ops_rule (C := []) [((φ1 0), .cells #[.int .u64 ((ba : Nat) : Int), .pointer pa] 30), ((φ1 1), .cells #[.int .u64 ((bb : Nat) : Int), .pointer pb] 30)] [] 1 [] 0 (fun φ10 => [(4, .bool false)]) (fun φ10 => [((φ1 0), .cells #[.int .u64 ((ba : Nat) : Int), .pointer pa] 30), ((φ1 1), .cells #[.int .u64 ((bb : Nat) : Int), .pointer pb] 30)]) (fun φ10 => []) s trivial (fun φ10 => by kernel_rfl) ?_
    intro φ10 w10 s
    refine ops_done (by kernel_rfl) ?_
    refine wp_ret ?_
    refine ret_rule (C := []) [((φ1 0), .cells #[.int .u64 ((ba : Nat) : Int), .pointer pa] 30), ((φ1 1), .cells #[.int .u64 ((bb : Nat) : Int), .pointer pb] 30)] [] (.bool false) [] [] s trivial (by kernel_rfl) ?_
    exact ⟨_, _, _, rfl, s, by simp [hc3, hc8]⟩
   ·
    rw [hc8]
    refine ops_rule (C := []) [((φ1 0), .cells #[.int .u64 ((ba : Nat) : Int), .pointer pa] 30), ((φ1 1), .cells #[.int .u64 ((bb : Nat) : Int), .pointer pb] 30)] [] 1 [.o 1, .o 1] 0 (fun φ11 => [(17, .agg #[.int .u64 ((bb : Nat) : Int), .pointer pb])]) (fun φ11 => [((φ1 0), .cells #[.int .u64 ((ba : Nat) : Int), .pointer pa] 30), ((φ1 1), .cells #[.int .u64 ((bb : Nat) : Int), .pointer pb] 30)]) (fun φ11 => [(φ1 1), (φ1 1)]) s trivial (fun φ11 => by kernel_rfl) ?_
    intro φ11 w11 s
    refine call_rule (some 18) s (isLeaf_c hB) (by kernel_rfl) ?_
    intro v12 I12 w12 le12 h12 s
    replace hA := ERep.mono le12 hA
    replace hB := ERep.mono le12 hB
    obtain rfl := h12
    refine ops_rule (C := []) [((φ1 0), .cells #[.int .u64 ((ba : Nat) : Int), .pointer pa] 30), ((φ1 1), .cells #[.int .u64 ((bb : Nat) : Int), .pointer pb] 30)] [] 1 [] 0 (fun φ13 => [(19, .bool (E.isLeaf B))]) (fun φ13 => [((φ1 0), .cells #[.int .u64 ((ba : Nat) : Int), .pointer pa] 30), ((φ1 1), .cells #[.int .u64 ((bb : Nat) : Int), .pointer pb] 30)]) (fun φ13 => []) s trivial (fun φ13 => by kernel_rfl) ?_
    intro φ13 w13 s
    refine ops_done (by kernel_rfl) ?_
    rcases Bool.eq_false_or_eq_true (E.isLeaf B) with hc14 | hc14
    ·
     rw [hc14]
     refine cond_true_rule (b := true) (by kernel_rfl) rfl ?_
     refine wp_seq ?_
     refine region_rule ?_
     refine ops_rule (C := []) [((φ1 0), .cells #[.int .u64 ((ba : Nat) : Int), .pointer pa] 30), ((φ1 1), .cells #[.int .u64 ((bb : Nat) : Int), .pointer pb] 30)] [] 1 [] 0 (fun φ15 => [(4, .bool false)]) (fun φ15 => [((φ1 0), .cells #[.int .u64 ((ba : Nat) : Int), .pointer pa] 30), ((φ1 1), .cells #[.int .u64 ((bb : Nat) : Int), .pointer pb] 30)]) (fun φ15 => []) s trivial (fun φ15 => by kernel_rfl) ?_
     intro φ15 w15 s
     refine ops_done (by kernel_rfl) ?_
     refine wp_ret ?_
     refine ret_rule (C := []) [((φ1 0), .cells #[.int .u64 ((ba : Nat) : Int), .pointer pa] 30), ((φ1 1), .cells #[.int .u64 ((bb : Nat) : Int), .pointer pb] 30)] [] (.bool false) [] [] s trivial (by kernel_rfl) ?_
     exact ⟨_, _, _, rfl, s, by simp [hc3, hc8, hc14]⟩
    ·
     rw [hc14]
     refine cond_false_rule (b := false) (by kernel_rfl) rfl ?_
     refine wp_skip ?_
     refine wp_seq ?_
     refine region_rule ?_
     refine ops_rule (C := []) [((φ1 0), .cells #[.int .u64 ((ba : Nat) : Int), .pointer pa] 30), ((φ1 1), .cells #[.int .u64 ((bb : Nat) : Int), .pointer pb] 30)] [] 1 [.o 0, .o 0] 0 (fun φ16 => [(21, .agg #[.int .u64 ((ba : Nat) : Int), .pointer pa])]) (fun φ16 => [((φ1 0), .cells #[.int .u64 ((ba : Nat) : Int), .pointer pa] 30), ((φ1 1), .cells #[.int .u64 ((bb : Nat) : Int), .pointer pb] 30)]) (fun φ16 => [(φ1 0), (φ1 0)]) s trivial (fun φ16 => by kernel_rfl) ?_
     intro φ16 w16 s
     refine call_rule (some 22) s (whole_c hA (by omega)) (by kernel_rfl) ?_
     intro v17 I17 w17 le17 h17 s
     replace hB := ERep.mono le17 hB
     obtain ⟨b17, p17, d17, q17, rfl, h17_0, h17_1⟩ := h17
     refine ops_rule (C := []) [((φ1 0), .cells #[.int .u64 ((ba : Nat) : Int), .pointer pa] 30), ((φ1 1), .cells #[.int .u64 ((bb : Nat) : Int), .pointer pb] 30)] [] 7 [.o 2, .o 2, .o 3, .o 3] 2 (fun φ18 => [(6, .pointer (some ⟨(φ18 1), 0, none⟩)), (5, .pointer (some ⟨(φ18 0), 0, none⟩)), (24, .agg #[.int .u64 ((d17 : Nat) : Int), .pointer q17]), (23, .agg #[.int .u64 ((b17 : Nat) : Int), .pointer p17]), (20, .tuple #[.agg #[.int .u64 ((b17 : Nat) : Int), .pointer p17], .agg #[.int .u64 ((d17 : Nat) : Int), .pointer q17]])]) (fun φ18 => [((φ1 0), .cells #[.int .u64 ((ba : Nat) : Int), .pointer pa] 30), ((φ1 1), .cells #[.int .u64 ((bb : Nat) : Int), .pointer pb] 30), ((φ18 0), .cells #[.int .u64 ((b17 : Nat) : Int), .pointer p17] 30), ((φ18 1), .cells #[.int .u64 ((d17 : Nat) : Int), .pointer q17] 30)]) (fun φ18 => [(φ18 0), (φ18 0), (φ18 1), (φ18 1)]) s trivial (fun φ18 => by kernel_rfl) ?_
     intro φ18 w18 s
     refine ops_done (by kernel_rfl) ?_
     refine wp_seq ?_
     refine region_rule ?_
     refine ops_rule (C := []) [((φ1 0), .cells #[.int .u64 ((ba : Nat) : Int), .pointer pa] 30), ((φ1 1), .cells #[.int .u64 ((bb : Nat) : Int), .pointer pb] 30), ((φ18 0), .cells #[.int .u64 ((b17 : Nat) : Int), .pointer p17] 30), ((φ18 1), .cells #[.int .u64 ((d17 : Nat) : Int), .pointer q17] 30)] [] 1 [.o 1, .o 1] 0 (fun φ19 => [(26, .agg #[.int .u64 ((bb : Nat) : Int), .pointer pb])]) (fun φ19 => [((φ1 0), .cells #[.int .u64 ((ba : Nat) : Int), .pointer pa] 30), ((φ1 1), .cells #[.int .u64 ((bb : Nat) : Int), .pointer pb] 30), ((φ18 0), .cells #[.int .u64 ((b17 : Nat) : Int), .pointer p17] 30), ((φ18 1), .cells #[.int .u64 ((d17 : Nat) : Int), .pointer q17] 30)]) (fun φ19 => [(φ1 1), (φ1 1)]) s trivial (fun φ19 => by kernel_rfl) ?_
     intro φ19 w19 s
     refine call_rule (some 27) s (whole_c hB (by omega)) (by kernel_rfl) ?_
     intro v20 I20 w20 le20 h20 s
     replace h17_0 := ERep.mono le20 h17_0
     replace h17_1 := ERep.mono le20 h17_1
     obtain ⟨b20, p20, d20, q20, rfl, h20_0, h20_1⟩ := h20
     refine ops_rule (C := []) [((φ1 0), .cells #[.int .u64 ((ba : Nat) : Int), .pointer pa] 30), ((φ1 1), .cells #[.int .u64 ((bb : Nat) : Int), .pointer pb] 30), ((φ18 0), .cells #[.int .u64 ((b17 : Nat) : Int), .pointer p17] 30), ((φ18 1), .cells #[.int .u64 ((d17 : Nat) : Int), .pointer q17] 30)] [] 7 [.o 4, .o 4, .o 5, .o 5] 2 (fun φ21 => [(8, .pointer (some ⟨(φ21 1), 0, none⟩)), (7, .pointer (some ⟨(φ21 0), 0, none⟩)), (29, .agg #[.int .u64 ((d20 : Nat) : Int), .pointer q20]), (28, .agg #[.int .u64 ((b20 : Nat) : Int), .pointer p20]), (25, .tuple #[.agg #[.int .u64 ((b20 : Nat) : Int), .pointer p20], .agg #[.int .u64 ((d20 : Nat) : Int), .pointer q20]])]) (fun φ21 => [((φ1 0), .cells #[.int .u64 ((ba : Nat) : Int), .pointer pa] 30), ((φ1 1), .cells #[.int .u64 ((bb : Nat) : Int), .pointer pb] 30), ((φ18 0), .cells #[.int .u64 ((b17 : Nat) : Int), .pointer p17] 30), ((φ18 1), .cells #[.int .u64 ((d17 : Nat) : Int), .pointer q17] 30), ((φ21 0), .cells #[.int .u64 ((b20 : Nat) : Int), .pointer p20] 30), ((φ21 1), .cells #[.int .u64 ((d20 : Nat) : Int), .pointer q20] 30)]) (fun φ21 => [(φ21 0), (φ21 0), (φ21 1), (φ21 1)]) s trivial (fun φ21 => by kernel_rfl) ?_
     intro φ21 w21 s
     refine ops_done (by kernel_rfl) ?_
     refine wp_seq ?_
     refine region_rule ?_
     refine ops_rule (C := []) [((φ1 0), .cells #[.int .u64 ((ba : Nat) : Int), .pointer pa] 30), ((φ1 1), .cells #[.int .u64 ((bb : Nat) : Int), .pointer pb] 30), ((φ18 0), .cells #[.int .u64 ((b17 : Nat) : Int), .pointer p17] 30), ((φ18 1), .cells #[.int .u64 ((d17 : Nat) : Int), .pointer q17] 30), ((φ21 0), .cells #[.int .u64 ((b20 : Nat) : Int), .pointer p20] 30), ((φ21 1), .cells #[.int .u64 ((d20 : Nat) : Int), .pointer q20] 30)] [] 2 [.o 2, .o 2, .o 4, .o 4] 0 (fun φ22 => [(31, .agg #[.int .u64 ((b20 : Nat) : Int), .pointer p20]), (30, .agg #[.int .u64 ((b17 : Nat) : Int), .pointer p17])]) (fun φ22 => [((φ1 0), .cells #[.int .u64 ((ba : Nat) : Int), .pointer pa] 30), ((φ1 1), .cells #[.int .u64 ((bb : Nat) : Int), .pointer pb] 30), ((φ18 0), .cells #[.int .u64 ((b17 : Nat) : Int), .pointer p17] 30), ((φ18 1), .cells #[.int .u64 ((d17 : Nat) : Int), .pointer q17] 30), ((φ21 0), .cells #[.int .u64 ((b20 : Nat) : Int), .pointer p20] 30), ((φ21 1), .cells #[.int .u64 ((d20 : Nat) : Int), .pointer q20] 30)]) (fun φ22 => [(φ18 0), (φ18 0), (φ21 0), (φ21 0)]) s trivial (fun φ22 => by kernel_rfl) ?_
     intro φ22 w22 s
     refine call_rule (some 32) s (ihl hc8 hc14 h17_0 h20_0) (by kernel_rfl) ?_
     intro v23 I23 w23 le23 h23 s
     replace h17_1 := ERep.mono le23 h17_1
     replace h20_1 := ERep.mono le23 h20_1
     obtain rfl := h23
     refine ops_rule (C := []) [((φ1 0), .cells #[.int .u64 ((ba : Nat) : Int), .pointer pa] 30), ((φ1 1), .cells #[.int .u64 ((bb : Nat) : Int), .pointer pb] 30), ((φ18 0), .cells #[.int .u64 ((b17 : Nat) : Int), .pointer p17] 30), ((φ18 1), .cells #[.int .u64 ((d17 : Nat) : Int), .pointer q17] 30), ((φ21 0), .cells #[.int .u64 ((b20 : Nat) : Int), .pointer p20] 30), ((φ21 1), .cells #[.int .u64 ((d20 : Nat) : Int), .pointer q20] 30)] [] 1 [] 0 (fun φ24 => [(33, .bool cl)]) (fun φ24 => [((φ1 0), .cells #[.int .u64 ((ba : Nat) : Int), .pointer pa] 30), ((φ1 1), .cells #[.int .u64 ((bb : Nat) : Int), .pointer pb] 30), ((φ18 0), .cells #[.int .u64 ((b17 : Nat) : Int), .pointer p17] 30), ((φ18 1), .cells #[.int .u64 ((d17 : Nat) : Int), .pointer q17] 30), ((φ21 0), .cells #[.int .u64 ((b20 : Nat) : Int), .pointer p20] 30), ((φ21 1), .cells #[.int .u64 ((d20 : Nat) : Int), .pointer q20] 30)]) (fun φ24 => []) s trivial (fun φ24 => by kernel_rfl) ?_
     intro φ24 w24 s
     rcases Bool.eq_false_or_eq_true (cl) with hc25 | hc25
     ·
      rw [hc25]
      refine ops_rule (C := []) [((φ1 0), .cells #[.int .u64 ((ba : Nat) : Int), .pointer pa] 30), ((φ1 1), .cells #[.int .u64 ((bb : Nat) : Int), .pointer pb] 30), ((φ18 0), .cells #[.int .u64 ((b17 : Nat) : Int), .pointer p17] 30), ((φ18 1), .cells #[.int .u64 ((d17 : Nat) : Int), .pointer q17] 30), ((φ21 0), .cells #[.int .u64 ((b20 : Nat) : Int), .pointer p20] 30), ((φ21 1), .cells #[.int .u64 ((d20 : Nat) : Int), .pointer q20] 30)] [] 2 [.o 3, .o 3, .o 5, .o 5] 0 (fun φ26 => [(35, .agg #[.int .u64 ((d20 : Nat) : Int), .pointer q20]), (34, .agg #[.int .u64 ((d17 : Nat) : Int), .pointer q17])]) (fun φ26 => [((φ1 0), .cells #[.int .u64 ((ba : Nat) : Int), .pointer pa] 30), ((φ1 1), .cells #[.int .u64 ((bb : Nat) : Int), .pointer pb] 30), ((φ18 0), .cells #[.int .u64 ((b17 : Nat) : Int), .pointer p17] 30), ((φ18 1), .cells #[.int .u64 ((d17 : Nat) : Int), .pointer q17] 30), ((φ21 0), .cells #[.int .u64 ((b20 : Nat) : Int), .pointer p20] 30), ((φ21 1), .cells #[.int .u64 ((d20 : Nat) : Int), .pointer q20] 30)]) (fun φ26 => [(φ18 1), (φ18 1), (φ21 1), (φ21 1)]) s trivial (fun φ26 => by kernel_rfl) ?_
      intro φ26 w26 s
      refine call_rule (some 36) s (ihr hc8 hc14 h17_1 h20_1) (by kernel_rfl) ?_
      intro v27 I27 w27 le27 h27 s
      obtain rfl := h27
      refine ops_rule (C := []) [((φ1 0), .cells #[.int .u64 ((ba : Nat) : Int), .pointer pa] 30), ((φ1 1), .cells #[.int .u64 ((bb : Nat) : Int), .pointer pb] 30), ((φ18 0), .cells #[.int .u64 ((b17 : Nat) : Int), .pointer p17] 30), ((φ18 1), .cells #[.int .u64 ((d17 : Nat) : Int), .pointer q17] 30), ((φ21 0), .cells #[.int .u64 ((b20 : Nat) : Int), .pointer p20] 30), ((φ21 1), .cells #[.int .u64 ((d20 : Nat) : Int), .pointer q20] 30)] [] 2 [] 0 (fun φ28 => [(4, .bool cr), (37, .bool cr)]) (fun φ28 => [((φ1 0), .cells #[.int .u64 ((ba : Nat) : Int), .pointer pa] 30), ((φ1 1), .cells #[.int .u64 ((bb : Nat) : Int), .pointer pb] 30), ((φ18 0), .cells #[.int .u64 ((b17 : Nat) : Int), .pointer p17] 30), ((φ18 1), .cells #[.int .u64 ((d17 : Nat) : Int), .pointer q17] 30), ((φ21 0), .cells #[.int .u64 ((b20 : Nat) : Int), .pointer p20] 30), ((φ21 1), .cells #[.int .u64 ((d20 : Nat) : Int), .pointer q20] 30)]) (fun φ28 => []) s trivial (fun φ28 => by kernel_rfl) ?_
      intro φ28 w28 s
      refine ops_done (by kernel_rfl) ?_
      refine wp_ret ?_
      refine ret_rule (C := []) [((φ1 0), .cells #[.int .u64 ((ba : Nat) : Int), .pointer pa] 30), ((φ1 1), .cells #[.int .u64 ((bb : Nat) : Int), .pointer pb] 30), ((φ18 0), .cells #[.int .u64 ((b17 : Nat) : Int), .pointer p17] 30), ((φ18 1), .cells #[.int .u64 ((d17 : Nat) : Int), .pointer q17] 30), ((φ21 0), .cells #[.int .u64 ((b20 : Nat) : Int), .pointer p20] 30), ((φ21 1), .cells #[.int .u64 ((d20 : Nat) : Int), .pointer q20] 30)] [] (.bool cr) [] [] s trivial (by kernel_rfl) ?_
      exact ⟨_, _, _, rfl, s, by simp [hc3, hc8, hc14, hc25]⟩
     ·
      rw [hc25]
      refine ops_rule (C := []) [((φ1 0), .cells #[.int .u64 ((ba : Nat) : Int), .pointer pa] 30), ((φ1 1), .cells #[.int .u64 ((bb : Nat) : Int), .pointer pb] 30), ((φ18 0), .cells #[.int .u64 ((b17 : Nat) : Int), .pointer p17] 30), ((φ18 1), .cells #[.int .u64 ((d17 : Nat) : Int), .pointer q17] 30), ((φ21 0), .cells #[.int .u64 ((b20 : Nat) : Int), .pointer p20] 30), ((φ21 1), .cells #[.int .u64 ((d20 : Nat) : Int), .pointer q20] 30)] [] 5 [] 0 (fun φ29 => [(4, .bool false), (37, .bool false), (36, undef), (35, undef), (34, undef)]) (fun φ29 => [((φ1 0), .cells #[.int .u64 ((ba : Nat) : Int), .pointer pa] 30), ((φ1 1), .cells #[.int .u64 ((bb : Nat) : Int), .pointer pb] 30), ((φ18 0), .cells #[.int .u64 ((b17 : Nat) : Int), .pointer p17] 30), ((φ18 1), .cells #[.int .u64 ((d17 : Nat) : Int), .pointer q17] 30), ((φ21 0), .cells #[.int .u64 ((b20 : Nat) : Int), .pointer p20] 30), ((φ21 1), .cells #[.int .u64 ((d20 : Nat) : Int), .pointer q20] 30)]) (fun φ29 => []) s trivial (fun φ29 => by kernel_rfl) ?_
      intro φ29 w29 s
      refine ops_done (by kernel_rfl) ?_
      refine wp_ret ?_
      refine ret_rule (C := []) [((φ1 0), .cells #[.int .u64 ((ba : Nat) : Int), .pointer pa] 30), ((φ1 1), .cells #[.int .u64 ((bb : Nat) : Int), .pointer pb] 30), ((φ18 0), .cells #[.int .u64 ((b17 : Nat) : Int), .pointer p17] 30), ((φ18 1), .cells #[.int .u64 ((d17 : Nat) : Int), .pointer q17] 30), ((φ21 0), .cells #[.int .u64 ((b20 : Nat) : Int), .pointer p20] 30), ((φ21 1), .cells #[.int .u64 ((d20 : Nat) : Int), .pointer q20] 30)] [] (.bool false) [] [] s trivial (by kernel_rfl) ?_
      exact ⟨_, _, _, rfl, s, by simp [hc3, hc8, hc14, hc25]⟩

theorem leqF_c : ∀ (n : Nat) {I : IM} {A B : E} {ba bb : Nat} {pa pb : Option Addr}, A.depth ≤ n → A.top < 18446744073709551616 → B.top < 18446744073709551616 → ERep I A ba pa → ERep I B bb pb →
    Fun Try.prog 42 #[evv ba pa, evv bb pb] I (fun v _ => v = .bool (leqF n A B))
  | 0, I, A, B, ba, bb, pa, pb, hd, htA, htB, hA, hB => by
    have hlf : A.isLeaf = true := by
      cases A with
      | leaf _ => rfl
      | node _ _ _ => have : 1 + max _ _ ≤ 0 := hd; omega
    have := leq_step hA hB htA htB false false (fun h => by rw [hlf] at h; cases h) (fun h => by rw [hlf] at h; cases h)
    refine this.mono fun v J _ h => ?_
    rw [h, hlf, ERep.base hB]; simp [leqF]
  | n + 1, I, A, B, ba, bb, pa, pb, hd, htA, htB, hA, hB => by
    have e1 := ERep.base hA
    have e2 := ERep.base hB
    subst e1 e2
    have ha := E.half_depth A n hd
    have h4 := E.half_top A
    have h5 := E.half_top B
    exact leq_step hA hB htA htB _ _ (fun _ _ {J} {b1} {b2} {p1} {p2} k1 k2 => leqF_c n ha.1 (by omega) (by omega) k1 k2) (fun _ _ {J} {b1} {b2} {p1} {p2} k1 k2 => leqF_c n ha.2 (by omega) (by omega) k1 k2)

set_option maxHeartbeats 1000000 in
theorem same_c {I : IM} {A B : E} {ba bb : Nat} {pa pb : Option Addr} (hA : ERep I A ba pa) (hB : ERep I B bb pb) (htA : A.top < 18446744073709551616) (htB : B.top < 18446744073709551616) (hdA : A.depth ≤ 64) (hdB : B.depth ≤ 64) : Fun Try.prog 19 #[evv ba pa, evv bb pb] I (fun v J => v = .bool (leqF 64 A B && leqF 64 B A)) := by
 refine enter_rule 13 [(0, .agg #[.int .u64 ((ba : Nat) : Int), .pointer pa]), (1, .agg #[.int .u64 ((bb : Nat) : Int), .pointer pb])] Try.func19 rfl (by kernel_rfl) ?_
 intro w s
 refine wp_seq ?_
 refine region_rule ?_
 refine ops_rule (C := []) [] [] 3 [] 2 (fun φ1 => [(4, .bool false), (3, .pointer (some ⟨(φ1 1), 0, none⟩)), (2, .pointer (some ⟨(φ1 0), 0, none⟩))]) (fun φ1 => [((φ1 0), .cells #[.int .u64 ((ba : Nat) : Int), .pointer pa] 30), ((φ1 1), .cells #[.int .u64 ((bb : Nat) : Int), .pointer pb] 30)]) (fun φ1 => []) s trivial (fun φ1 => by kernel_rfl) ?_
 intro φ1 w1 s
 refine ops_done (by kernel_rfl) ?_
 refine wp_seq ?_
 refine region_rule ?_
 refine ops_rule (C := []) [((φ1 0), .cells #[.int .u64 ((ba : Nat) : Int), .pointer pa] 30), ((φ1 1), .cells #[.int .u64 ((bb : Nat) : Int), .pointer pb] 30)] [] 2 [.o 0, .o 0, .o 1, .o 1] 0 (fun φ2 => [(6, .agg #[.int .u64 ((bb : Nat) : Int), .pointer pb]), (5, .agg #[.int .u64 ((ba : Nat) : Int), .pointer pa])]) (fun φ2 => [((φ1 0), .cells #[.int .u64 ((ba : Nat) : Int), .pointer pa] 30), ((φ1 1), .cells #[.int .u64 ((bb : Nat) : Int), .pointer pb] 30)]) (fun φ2 => [(φ1 0), (φ1 0), (φ1 1), (φ1 1)]) s trivial (fun φ2 => by kernel_rfl) ?_
 intro φ2 w2 s
 refine call_rule (some 7) s (leqF_c 64 (by omega) (by omega) (by omega) hA hB) (by kernel_rfl) ?_
 intro v3 I3 w3 le3 h3 s
 replace hA := ERep.mono le3 hA
 replace hB := ERep.mono le3 hB
 obtain rfl := h3
 refine ops_rule (C := []) [((φ1 0), .cells #[.int .u64 ((ba : Nat) : Int), .pointer pa] 30), ((φ1 1), .cells #[.int .u64 ((bb : Nat) : Int), .pointer pb] 30)] [] 1 [] 0 (fun φ4 => [(8, .bool (leqF 64 A B))]) (fun φ4 => [((φ1 0), .cells #[.int .u64 ((ba : Nat) : Int), .pointer pa] 30), ((φ1 1), .cells #[.int .u64 ((bb : Nat) : Int), .pointer pb] 30)]) (fun φ4 => []) s trivial (fun φ4 => by kernel_rfl) ?_
 intro φ4 w4 s
 rcases Bool.eq_false_or_eq_true (leqF 64 A B) with hc5 | hc5
 ·
  rw [hc5]
  refine ops_rule (C := []) [((φ1 0), .cells #[.int .u64 ((ba : Nat) : Int), .pointer pa] 30), ((φ1 1), .cells #[.int .u64 ((bb : Nat) : Int), .pointer pb] 30)] [] 2 [.o 1, .o 1, .o 0, .o 0] 0 (fun φ6 => [(10, .agg #[.int .u64 ((ba : Nat) : Int), .pointer pa]), (9, .agg #[.int .u64 ((bb : Nat) : Int), .pointer pb])]) (fun φ6 => [((φ1 0), .cells #[.int .u64 ((ba : Nat) : Int), .pointer pa] 30), ((φ1 1), .cells #[.int .u64 ((bb : Nat) : Int), .pointer pb] 30)]) (fun φ6 => [(φ1 1), (φ1 1), (φ1 0), (φ1 0)]) s trivial (fun φ6 => by kernel_rfl) ?_
  intro φ6 w6 s
  refine call_rule (some 11) s (leqF_c 64 (by omega) (by omega) (by omega) hB hA) (by kernel_rfl) ?_
  intro v7 I7 w7 le7 h7 s
  obtain rfl := h7
  refine ops_rule (C := []) [((φ1 0), .cells #[.int .u64 ((ba : Nat) : Int), .pointer pa] 30), ((φ1 1), .cells #[.int .u64 ((bb : Nat) : Int), .pointer pb] 30)] [] 2 [] 0 (fun φ8 => [(4, .bool (leqF 64 B A)), (12, .bool (leqF 64 B A))]) (fun φ8 => [((φ1 0), .cells #[.int .u64 ((ba : Nat) : Int), .pointer pa] 30), ((φ1 1), .cells #[.int .u64 ((bb : Nat) : Int), .pointer pb] 30)]) (fun φ8 => []) s trivial (fun φ8 => by kernel_rfl) ?_
  intro φ8 w8 s
  refine ops_done (by kernel_rfl) ?_
  refine wp_ret ?_
  refine ret_rule (C := []) [((φ1 0), .cells #[.int .u64 ((ba : Nat) : Int), .pointer pa] 30), ((φ1 1), .cells #[.int .u64 ((bb : Nat) : Int), .pointer pb] 30)] [] (.bool (leqF 64 B A)) [] [] s trivial (by kernel_rfl) ?_
  exact ⟨_, _, _, rfl, s, by simp [hc5]⟩
 ·
  rw [hc5]
  refine ops_rule (C := []) [((φ1 0), .cells #[.int .u64 ((ba : Nat) : Int), .pointer pa] 30), ((φ1 1), .cells #[.int .u64 ((bb : Nat) : Int), .pointer pb] 30)] [] 5 [] 0 (fun φ9 => [(4, .bool false), (12, .bool false), (11, undef), (10, undef), (9, undef)]) (fun φ9 => [((φ1 0), .cells #[.int .u64 ((ba : Nat) : Int), .pointer pa] 30), ((φ1 1), .cells #[.int .u64 ((bb : Nat) : Int), .pointer pb] 30)]) (fun φ9 => []) s trivial (fun φ9 => by kernel_rfl) ?_
  intro φ9 w9 s
  refine ops_done (by kernel_rfl) ?_
  refine wp_ret ?_
  refine ret_rule (C := []) [((φ1 0), .cells #[.int .u64 ((ba : Nat) : Int), .pointer pa] 30), ((φ1 1), .cells #[.int .u64 ((bb : Nat) : Int), .pointer pb] 30)] [] (.bool false) [] [] s trivial (by kernel_rfl) ?_
  exact ⟨_, _, _, rfl, s, by simp [hc5]⟩

end Go.Proofs.Ytgmigcmhnmmdkaa.Ev

/- The program's ids. -/
set_option linter.all false
set_option maxRecDepth 100000
namespace Go.Proofs.Ytgmigcmhnmmdkaa.Ev
open Go.RowKit Go.Sep

inductive T where
  | zero | one | node (l r : T)
  deriving DecidableEq
def T.depth : T → Nat
  | .node l r => 1 + max l.depth r.depth
  | _ => 0
def T.isZero : T → Bool
  | .zero => true
  | _ => false
def T.isOne : T → Bool
  | .one => true
  | _ => false
def T.left : T → T
  | .node l _ => l
  | t => t
def T.right : T → T
  | .node _ r => r
  | t => t
def T.mk : T → T → T
  | .zero, .zero => .zero
  | .one, .one => .one
  | l, r => .node l r
def TRep (I : IM) : T → Bool → Option Addr → Prop
  | .zero, b, p => b = false ∧ p = none
  | .one, b, p => b = true ∧ p = none
  | .node l r, b, p => b = false ∧ ∃ k bl pl br pr, p = some ⟨k, 0, none⟩ ∧
      I k = some (.cells #[.bool bl, .pointer pl, .bool br, .pointer pr, .int .i64 (((T.node l r).depth : Nat) : Int)] 122) ∧ TRep I l bl pl ∧ TRep I r br pr
theorem TRep.mono {I J : IM} (le : I.Le J) : ∀ {t : T} {b : Bool} {p : Option Addr}, TRep I t b p → TRep J t b p
  | .zero, _, _, h => h
  | .one, _, _, h => h
  | .node _ _, _, _, ⟨hb, k, bl, pl, br, pr, hp, hk, hl, hr⟩ => ⟨hb, k, bl, pl, br, pr, hp, le _ _ hk, hl.mono le, hr.mono le⟩
abbrev idv (b : Bool) (p : Option Addr) : Value := .agg #[.bool b, .pointer p]
theorem TRep.z (I : IM) : TRep I .zero false none := ⟨rfl, rfl⟩
theorem TRep.o (I : IM) : TRep I .one true none := ⟨rfl, rfl⟩

set_option maxHeartbeats 400000 in
theorem isZero_c {I : IM} {t : T} {b : Bool} {p : Option Addr} (h : TRep I t b p) : Fun Try.prog 76 #[idv b p] I (fun v J => v = .bool t.isZero) := by
 cases t with
 | zero =>
  obtain ⟨rfl, rfl⟩ := h
  refine enter_rule 11 [(0, .agg #[.bool false, .pointer none])] Try.func76 rfl (by kernel_rfl) ?_
  intro w s
  refine wp_seq ?_
  refine region_rule ?_
  refine ops_rule (C := []) [] [] 2 [] 1 (fun φ1 => [(2, .bool false), (1, .pointer (some ⟨(φ1 0), 0, none⟩))]) (fun φ1 => [((φ1 0), .cells #[.bool false, .pointer none] 26)]) (fun φ1 => []) s trivial (fun φ1 => by kernel_rfl) ?_
  intro φ1 w1 s
  refine ops_done (by kernel_rfl) ?_
  refine wp_seq ?_
  refine region_rule ?_
  refine ops_rule (C := []) [((φ1 0), .cells #[.bool false, .pointer none] 26)] [] 9 [.o 0, .o 0] 0 (fun φ2 => [(2, .bool true), (10, .bool true), (9, .bool true), (8, .pointer none), (7, .pointer (some ⟨(φ1 0), 1, none⟩)), (6, .bool true), (5, .bool true), (4, .bool false), (3, .pointer (some ⟨(φ1 0), 0, none⟩))]) (fun φ2 => [((φ1 0), .cells #[.bool false, .pointer none] 26)]) (fun φ2 => [(φ1 0), (φ1 0)]) s trivial (fun φ2 => by kernel_rfl) ?_
  intro φ2 w2 s
  refine ops_done (by kernel_rfl) ?_
  refine wp_ret ?_
  refine ret_rule (C := []) [((φ1 0), .cells #[.bool false, .pointer none] 26)] [] (.bool true) [] [] s trivial (by kernel_rfl) ?_
  exact ⟨_, _, _, rfl, s, rfl⟩
 | one =>
  obtain ⟨rfl, rfl⟩ := h
  refine enter_rule 11 [(0, .agg #[.bool true, .pointer none])] Try.func76 rfl (by kernel_rfl) ?_
  intro w s
  refine wp_seq ?_
  refine region_rule ?_
  refine ops_rule (C := []) [] [] 2 [] 1 (fun φ1 => [(2, .bool false), (1, .pointer (some ⟨(φ1 0), 0, none⟩))]) (fun φ1 => [((φ1 0), .cells #[.bool true, .pointer none] 26)]) (fun φ1 => []) s trivial (fun φ1 => by kernel_rfl) ?_
  intro φ1 w1 s
  refine ops_done (by kernel_rfl) ?_
  refine wp_seq ?_
  refine region_rule ?_
  refine ops_rule (C := []) [((φ1 0), .cells #[.bool true, .pointer none] 26)] [] 9 [.o 0] 0 (fun φ2 => [(2, .bool false), (10, .bool false), (9, undef), (8, undef), (7, undef), (6, .bool false), (5, .bool false), (4, .bool true), (3, .pointer (some ⟨(φ1 0), 0, none⟩))]) (fun φ2 => [((φ1 0), .cells #[.bool true, .pointer none] 26)]) (fun φ2 => [(φ1 0)]) s trivial (fun φ2 => by kernel_rfl) ?_
  intro φ2 w2 s
  refine ops_done (by kernel_rfl) ?_
  refine wp_ret ?_
  refine ret_rule (C := []) [((φ1 0), .cells #[.bool true, .pointer none] 26)] [] (.bool false) [] [] s trivial (by kernel_rfl) ?_
  exact ⟨_, _, _, rfl, s, rfl⟩
 | node l r =>
  have hn := h
  obtain ⟨rfl, k, bl, pl, br, pr, rfl, hk, hl, hr⟩ := h
  refine enter_rule 11 [(0, .agg #[.bool false, .pointer (some ⟨k, 0, none⟩)])] Try.func76 rfl (by kernel_rfl) ?_
  intro w s
  refine wp_seq ?_
  refine region_rule ?_
  refine ops_rule (C := []) [] [] 2 [] 1 (fun φ1 => [(2, .bool false), (1, .pointer (some ⟨(φ1 0), 0, none⟩))]) (fun φ1 => [((φ1 0), .cells #[.bool false, .pointer (some ⟨k, 0, none⟩)] 26)]) (fun φ1 => []) s trivial (fun φ1 => by kernel_rfl) ?_
  intro φ1 w1 s
  refine ops_done (by kernel_rfl) ?_
  refine wp_seq ?_
  refine region_rule ?_
  refine ops_rule (C := []) [((φ1 0), .cells #[.bool false, .pointer (some ⟨k, 0, none⟩)] 26)] [] 9 [.o 0, .o 0] 0 (fun φ2 => [(2, .bool false), (10, .bool false), (9, .bool false), (8, .pointer (some ⟨k, 0, none⟩)), (7, .pointer (some ⟨(φ1 0), 1, none⟩)), (6, .bool true), (5, .bool true), (4, .bool false), (3, .pointer (some ⟨(φ1 0), 0, none⟩))]) (fun φ2 => [((φ1 0), .cells #[.bool false, .pointer (some ⟨k, 0, none⟩)] 26)]) (fun φ2 => [(φ1 0), (φ1 0)]) s trivial (fun φ2 => by kernel_rfl) ?_
  intro φ2 w2 s
  refine ops_done (by kernel_rfl) ?_
  refine wp_ret ?_
  refine ret_rule (C := []) [((φ1 0), .cells #[.bool false, .pointer (some ⟨k, 0, none⟩)] 26)] [] (.bool false) [] [] s trivial (by kernel_rfl) ?_
  exact ⟨_, _, _, rfl, s, rfl⟩

set_option maxHeartbeats 400000 in
theorem isOne_c {I : IM} {t : T} {b : Bool} {p : Option Addr} (h : TRep I t b p) : Fun Try.prog 75 #[idv b p] I (fun v J => v = .bool t.isOne) := by
 cases t with
 | zero =>
  obtain ⟨rfl, rfl⟩ := h
  refine enter_rule 5 [(0, .agg #[.bool false, .pointer none])] Try.func75 rfl (by kernel_rfl) ?_
  intro w s
  refine wp_seq ?_
  refine region_rule ?_
  refine ops_rule (C := []) [] [] 2 [] 1 (fun φ1 => [(2, .bool false), (1, .pointer (some ⟨(φ1 0), 0, none⟩))]) (fun φ1 => [((φ1 0), .cells #[.bool false, .pointer none] 26)]) (fun φ1 => []) s trivial (fun φ1 => by kernel_rfl) ?_
  intro φ1 w1 s
  refine ops_done (by kernel_rfl) ?_
  refine wp_seq ?_
  refine region_rule ?_
  refine ops_rule (C := []) [((φ1 0), .cells #[.bool false, .pointer none] 26)] [] 3 [.o 0] 0 (fun φ2 => [(2, .bool false), (4, .bool false), (3, .pointer (some ⟨(φ1 0), 0, none⟩))]) (fun φ2 => [((φ1 0), .cells #[.bool false, .pointer none] 26)]) (fun φ2 => [(φ1 0)]) s trivial (fun φ2 => by kernel_rfl) ?_
  intro φ2 w2 s
  refine ops_done (by kernel_rfl) ?_
  refine wp_ret ?_
  refine ret_rule (C := []) [((φ1 0), .cells #[.bool false, .pointer none] 26)] [] (.bool false) [] [] s trivial (by kernel_rfl) ?_
  exact ⟨_, _, _, rfl, s, rfl⟩
 | one =>
  obtain ⟨rfl, rfl⟩ := h
  refine enter_rule 5 [(0, .agg #[.bool true, .pointer none])] Try.func75 rfl (by kernel_rfl) ?_
  intro w s
  refine wp_seq ?_
  refine region_rule ?_
  refine ops_rule (C := []) [] [] 2 [] 1 (fun φ1 => [(2, .bool false), (1, .pointer (some ⟨(φ1 0), 0, none⟩))]) (fun φ1 => [((φ1 0), .cells #[.bool true, .pointer none] 26)]) (fun φ1 => []) s trivial (fun φ1 => by kernel_rfl) ?_
  intro φ1 w1 s
  refine ops_done (by kernel_rfl) ?_
  refine wp_seq ?_
  refine region_rule ?_
  refine ops_rule (C := []) [((φ1 0), .cells #[.bool true, .pointer none] 26)] [] 3 [.o 0] 0 (fun φ2 => [(2, .bool true), (4, .bool true), (3, .pointer (some ⟨(φ1 0), 0, none⟩))]) (fun φ2 => [((φ1 0), .cells #[.bool true, .pointer none] 26)]) (fun φ2 => [(φ1 0)]) s trivial (fun φ2 => by kernel_rfl) ?_
  intro φ2 w2 s
  refine ops_done (by kernel_rfl) ?_
  refine wp_ret ?_
  refine ret_rule (C := []) [((φ1 0), .cells #[.bool true, .pointer none] 26)] [] (.bool true) [] [] s trivial (by kernel_rfl) ?_
  exact ⟨_, _, _, rfl, s, rfl⟩
 | node l r =>
  have hn := h
  obtain ⟨rfl, k, bl, pl, br, pr, rfl, hk, hl, hr⟩ := h
  refine enter_rule 5 [(0, .agg #[.bool false, .pointer (some ⟨k, 0, none⟩)])] Try.func75 rfl (by kernel_rfl) ?_
  intro w s
  refine wp_seq ?_
  refine region_rule ?_
  refine ops_rule (C := []) [] [] 2 [] 1 (fun φ1 => [(2, .bool false), (1, .pointer (some ⟨(φ1 0), 0, none⟩))]) (fun φ1 => [((φ1 0), .cells #[.bool false, .pointer (some ⟨k, 0, none⟩)] 26)]) (fun φ1 => []) s trivial (fun φ1 => by kernel_rfl) ?_
  intro φ1 w1 s
  refine ops_done (by kernel_rfl) ?_
  refine wp_seq ?_
  refine region_rule ?_
  refine ops_rule (C := []) [((φ1 0), .cells #[.bool false, .pointer (some ⟨k, 0, none⟩)] 26)] [] 3 [.o 0] 0 (fun φ2 => [(2, .bool false), (4, .bool false), (3, .pointer (some ⟨(φ1 0), 0, none⟩))]) (fun φ2 => [((φ1 0), .cells #[.bool false, .pointer (some ⟨k, 0, none⟩)] 26)]) (fun φ2 => [(φ1 0)]) s trivial (fun φ2 => by kernel_rfl) ?_
  intro φ2 w2 s
  refine ops_done (by kernel_rfl) ?_
  refine wp_ret ?_
  refine ret_rule (C := []) [((φ1 0), .cells #[.bool false, .pointer (some ⟨k, 0, none⟩)] 26)] [] (.bool false) [] [] s trivial (by kernel_rfl) ?_
  exact ⟨_, _, _, rfl, s, rfl⟩

set_option maxHeartbeats 400000 in
theorem tleft_c {I : IM} {t : T} {b : Bool} {p : Option Addr} (h : TRep I t b p) : Fun Try.prog 55 #[idv b p] I (fun v J => ∃ b' p', v = idv b' p' ∧ TRep J t.left b' p') := by
 cases t with
 | zero =>
  obtain ⟨rfl, rfl⟩ := h
  refine enter_rule 12 [(0, .agg #[.bool false, .pointer none])] Try.func55 rfl (by kernel_rfl) ?_
  intro w s
  refine wp_seq ?_
  refine region_rule ?_
  refine ops_rule (C := []) [] [] 2 [] 2 (fun φ1 => [(2, .pointer (some ⟨(φ1 1), 0, none⟩)), (1, .pointer (some ⟨(φ1 0), 0, none⟩))]) (fun φ1 => [((φ1 0), .cells #[.bool false, .pointer none] 26), ((φ1 1), .cells #[.bool false, .pointer none] 26)]) (fun φ1 => []) s trivial (fun φ1 => by kernel_rfl) ?_
  intro φ1 w1 s
  refine ops_done (by kernel_rfl) ?_
  refine wp_seq ?_
  refine wp_seq ?_
  refine region_rule ?_
  refine ops_rule (C := []) [((φ1 0), .cells #[.bool false, .pointer none] 26), ((φ1 1), .cells #[.bool false, .pointer none] 26)] [] 3 [.o 0] 0 (fun φ2 => [(5, .bool true), (4, .pointer none), (3, .pointer (some ⟨(φ1 0), 1, none⟩))]) (fun φ2 => [((φ1 0), .cells #[.bool false, .pointer none] 26), ((φ1 1), .cells #[.bool false, .pointer none] 26)]) (fun φ2 => [(φ1 0)]) s trivial (fun φ2 => by kernel_rfl) ?_
  intro φ2 w2 s
  refine ops_done (by kernel_rfl) ?_
  refine cond_true_rule (b := true) (by kernel_rfl) rfl ?_
  refine wp_seq ?_
  refine region_rule ?_
  refine ops_rule (C := []) [((φ1 0), .cells #[.bool false, .pointer none] 26), ((φ1 1), .cells #[.bool false, .pointer none] 26)] [] 2 [.o 0, .o 0, .o 1, .o 1] 0 (fun φ3 => [(6, .agg #[.bool false, .pointer none])]) (fun φ3 => [((φ1 0), .cells #[.bool false, .pointer none] 26), ((φ1 1), .cells #[.bool false, .pointer none] 26)]) (fun φ3 => [(φ1 0), (φ1 0), (φ1 1), (φ1 1)]) s trivial (fun φ3 => by kernel_rfl) ?_
  intro φ3 w3 s
  refine ops_done (by kernel_rfl) ?_
  refine wp_ret ?_
  refine ret_rule (C := []) [((φ1 0), .cells #[.bool false, .pointer none] 26), ((φ1 1), .cells #[.bool false, .pointer none] 26)] [] (.agg #[.bool false, .pointer none]) [.o 1, .o 1] [(φ1 1), (φ1 1)] s trivial (by kernel_rfl) ?_
  exact ⟨_, _, _, rfl, s, ⟨_, _, rfl, rfl, rfl⟩⟩
 | one =>
  obtain ⟨rfl, rfl⟩ := h
  refine enter_rule 12 [(0, .agg #[.bool true, .pointer none])] Try.func55 rfl (by kernel_rfl) ?_
  intro w s
  refine wp_seq ?_
  refine region_rule ?_
  refine ops_rule (C := []) [] [] 2 [] 2 (fun φ1 => [(2, .pointer (some ⟨(φ1 1), 0, none⟩)), (1, .pointer (some ⟨(φ1 0), 0, none⟩))]) (fun φ1 => [((φ1 0), .cells #[.bool true, .pointer none] 26), ((φ1 1), .cells #[.bool false, .pointer none] 26)]) (fun φ1 => []) s trivial (fun φ1 => by kernel_rfl) ?_
  intro φ1 w1 s
  refine ops_done (by kernel_rfl) ?_
  refine wp_seq ?_
  refine wp_seq ?_
  refine region_rule ?_
  refine ops_rule (C := []) [((φ1 0), .cells #[.bool true, .pointer none] 26), ((φ1 1), .cells #[.bool false, .pointer none] 26)] [] 3 [.o 0] 0 (fun φ2 => [(5, .bool true), (4, .pointer none), (3, .pointer (some ⟨(φ1 0), 1, none⟩))]) (fun φ2 => [((φ1 0), .cells #[.bool true, .pointer none] 26), ((φ1 1), .cells #[.bool false, .pointer none] 26)]) (fun φ2 => [(φ1 0)]) s trivial (fun φ2 => by kernel_rfl) ?_
  intro φ2 w2 s
  refine ops_done (by kernel_rfl) ?_
  refine cond_true_rule (b := true) (by kernel_rfl) rfl ?_
  refine wp_seq ?_
  refine region_rule ?_
  refine ops_rule (C := []) [((φ1 0), .cells #[.bool true, .pointer none] 26), ((φ1 1), .cells #[.bool false, .pointer none] 26)] [] 2 [.o 0, .o 0, .o 1, .o 1] 0 (fun φ3 => [(6, .agg #[.bool true, .pointer none])]) (fun φ3 => [((φ1 0), .cells #[.bool true, .pointer none] 26), ((φ1 1), .cells #[.bool true, .pointer none] 26)]) (fun φ3 => [(φ1 0), (φ1 0), (φ1 1), (φ1 1)]) s trivial (fun φ3 => by kernel_rfl) ?_
  intro φ3 w3 s
  refine ops_done (by kernel_rfl) ?_
  refine wp_ret ?_
  refine ret_rule (C := []) [((φ1 0), .cells #[.bool true, .pointer none] 26), ((φ1 1), .cells #[.bool true, .pointer none] 26)] [] (.agg #[.bool true, .pointer none]) [.o 1, .o 1] [(φ1 1), (φ1 1)] s trivial (by kernel_rfl) ?_
  exact ⟨_, _, _, rfl, s, ⟨_, _, rfl, rfl, rfl⟩⟩
 | node l r =>
  have hn := h
  obtain ⟨rfl, k, bl, pl, br, pr, rfl, hk, hl, hr⟩ := h
  refine enter_rule 12 [(0, .agg #[.bool false, .pointer (some ⟨k, 0, none⟩)])] Try.func55 rfl (by kernel_rfl) ?_
  intro w s
  refine wp_seq ?_
  refine region_rule ?_
  refine ops_rule (C := []) [] [] 2 [] 2 (fun φ1 => [(2, .pointer (some ⟨(φ1 1), 0, none⟩)), (1, .pointer (some ⟨(φ1 0), 0, none⟩))]) (fun φ1 => [((φ1 0), .cells #[.bool false, .pointer (some ⟨k, 0, none⟩)] 26), ((φ1 1), .cells #[.bool false, .pointer none] 26)]) (fun φ1 => []) s trivial (fun φ1 => by kernel_rfl) ?_
  intro φ1 w1 s
  refine ops_done (by kernel_rfl) ?_
  refine wp_seq ?_
  refine wp_seq ?_
  refine region_rule ?_
  refine ops_rule (C := []) [((φ1 0), .cells #[.bool false, .pointer (some ⟨k, 0, none⟩)] 26), ((φ1 1), .cells #[.bool false, .pointer none] 26)] [] 3 [.o 0] 0 (fun φ2 => [(5, .bool false), (4, .pointer (some ⟨k, 0, none⟩)), (3, .pointer (some ⟨(φ1 0), 1, none⟩))]) (fun φ2 => [((φ1 0), .cells #[.bool false, .pointer (some ⟨k, 0, none⟩)] 26), ((φ1 1), .cells #[.bool false, .pointer none] 26)]) (fun φ2 => [(φ1 0)]) s trivial (fun φ2 => by kernel_rfl) ?_
  intro φ2 w2 s
  refine ops_done (by kernel_rfl) ?_
  refine cond_false_rule (b := false) (by kernel_rfl) rfl ?_
  refine wp_skip ?_
  refine wp_seq ?_
  refine region_rule ?_
  refine ops_rule (C := [(k, .cells #[.bool bl, .pointer pl, .bool br, .pointer pr, .int .i64 ((T.depth (T.node l r) : Nat) : Int)] 122)]) [((φ1 0), .cells #[.bool false, .pointer (some ⟨k, 0, none⟩)] 26), ((φ1 1), .cells #[.bool false, .pointer none] 26)] [] 6 [.o 0, .c 0, .c 0, .o 1, .o 1] 0 (fun φ3 => [(11, .agg #[.bool bl, .pointer pl]), (10, .pointer (some ⟨k, 0, none⟩)), (9, .pointer (some ⟨k, 0, none⟩)), (8, .pointer (some ⟨k, 0, none⟩)), (7, .pointer (some ⟨(φ1 0), 1, none⟩))]) (fun φ3 => [((φ1 0), .cells #[.bool false, .pointer (some ⟨k, 0, none⟩)] 26), ((φ1 1), .cells #[.bool bl, .pointer pl] 26)]) (fun φ3 => [(φ1 0), k, k, (φ1 1), (φ1 1)]) s ⟨hk, trivial⟩ (fun φ3 => by kernel_rfl) ?_
  intro φ3 w3 s
  refine ops_done (by kernel_rfl) ?_
  refine wp_ret ?_
  refine ret_rule (C := []) [((φ1 0), .cells #[.bool false, .pointer (some ⟨k, 0, none⟩)] 26), ((φ1 1), .cells #[.bool bl, .pointer pl] 26)] [] (.agg #[.bool bl, .pointer pl]) [.o 1, .o 1] [(φ1 1), (φ1 1)] s trivial (by kernel_rfl) ?_
  exact ⟨_, _, _, rfl, s, ⟨_, _, rfl, hl⟩⟩

set_option maxHeartbeats 400000 in
theorem tright_c {I : IM} {t : T} {b : Bool} {p : Option Addr} (h : TRep I t b p) : Fun Try.prog 56 #[idv b p] I (fun v J => ∃ b' p', v = idv b' p' ∧ TRep J t.right b' p') := by
 cases t with
 | zero =>
  obtain ⟨rfl, rfl⟩ := h
  refine enter_rule 12 [(0, .agg #[.bool false, .pointer none])] Try.func56 rfl (by kernel_rfl) ?_
  intro w s
  refine wp_seq ?_
  refine region_rule ?_
  refine ops_rule (C := []) [] [] 2 [] 2 (fun φ1 => [(2, .pointer (some ⟨(φ1 1), 0, none⟩)), (1, .pointer (some ⟨(φ1 0), 0, none⟩))]) (fun φ1 => [((φ1 0), .cells #[.bool false, .pointer none] 26), ((φ1 1), .cells #[.bool false, .pointer none] 26)]) (fun φ1 => []) s trivial (fun φ1 => by kernel_rfl) ?_
  intro φ1 w1 s
  refine ops_done (by kernel_rfl) ?_
  refine wp_seq ?_
  refine wp_seq ?_
  refine region_rule ?_
  refine ops_rule (C := []) [((φ1 0), .cells #[.bool false, .pointer none] 26), ((φ1 1), .cells #[.bool false, .pointer none] 26)] [] 3 [.o 0] 0 (fun φ2 => [(5, .bool true), (4, .pointer none), (3, .pointer (some ⟨(φ1 0), 1, none⟩))]) (fun φ2 => [((φ1 0), .cells #[.bool false, .pointer none] 26), ((φ1 1), .cells #[.bool false, .pointer none] 26)]) (fun φ2 => [(φ1 0)]) s trivial (fun φ2 => by kernel_rfl) ?_
  intro φ2 w2 s
  refine ops_done (by kernel_rfl) ?_
  refine cond_true_rule (b := true) (by kernel_rfl) rfl ?_
  refine wp_seq ?_
  refine region_rule ?_
  refine ops_rule (C := []) [((φ1 0), .cells #[.bool false, .pointer none] 26), ((φ1 1), .cells #[.bool false, .pointer none] 26)] [] 2 [.o 0, .o 0, .o 1, .o 1] 0 (fun φ3 => [(6, .agg #[.bool false, .pointer none])]) (fun φ3 => [((φ1 0), .cells #[.bool false, .pointer none] 26), ((φ1 1), .cells #[.bool false, .pointer none] 26)]) (fun φ3 => [(φ1 0), (φ1 0), (φ1 1), (φ1 1)]) s trivial (fun φ3 => by kernel_rfl) ?_
  intro φ3 w3 s
  refine ops_done (by kernel_rfl) ?_
  refine wp_ret ?_
  refine ret_rule (C := []) [((φ1 0), .cells #[.bool false, .pointer none] 26), ((φ1 1), .cells #[.bool false, .pointer none] 26)] [] (.agg #[.bool false, .pointer none]) [.o 1, .o 1] [(φ1 1), (φ1 1)] s trivial (by kernel_rfl) ?_
  exact ⟨_, _, _, rfl, s, ⟨_, _, rfl, rfl, rfl⟩⟩
 | one =>
  obtain ⟨rfl, rfl⟩ := h
  refine enter_rule 12 [(0, .agg #[.bool true, .pointer none])] Try.func56 rfl (by kernel_rfl) ?_
  intro w s
  refine wp_seq ?_
  refine region_rule ?_
  refine ops_rule (C := []) [] [] 2 [] 2 (fun φ1 => [(2, .pointer (some ⟨(φ1 1), 0, none⟩)), (1, .pointer (some ⟨(φ1 0), 0, none⟩))]) (fun φ1 => [((φ1 0), .cells #[.bool true, .pointer none] 26), ((φ1 1), .cells #[.bool false, .pointer none] 26)]) (fun φ1 => []) s trivial (fun φ1 => by kernel_rfl) ?_
  intro φ1 w1 s
  refine ops_done (by kernel_rfl) ?_
  refine wp_seq ?_
  refine wp_seq ?_
  refine region_rule ?_
  refine ops_rule (C := []) [((φ1 0), .cells #[.bool true, .pointer none] 26), ((φ1 1), .cells #[.bool false, .pointer none] 26)] [] 3 [.o 0] 0 (fun φ2 => [(5, .bool true), (4, .pointer none), (3, .pointer (some ⟨(φ1 0), 1, none⟩))]) (fun φ2 => [((φ1 0), .cells #[.bool true, .pointer none] 26), ((φ1 1), .cells #[.bool false, .pointer none] 26)]) (fun φ2 => [(φ1 0)]) s trivial (fun φ2 => by kernel_rfl) ?_
  intro φ2 w2 s
  refine ops_done (by kernel_rfl) ?_
  refine cond_true_rule (b := true) (by kernel_rfl) rfl ?_
  refine wp_seq ?_
  refine region_rule ?_
  refine ops_rule (C := []) [((φ1 0), .cells #[.bool true, .pointer none] 26), ((φ1 1), .cells #[.bool false, .pointer none] 26)] [] 2 [.o 0, .o 0, .o 1, .o 1] 0 (fun φ3 => [(6, .agg #[.bool true, .pointer none])]) (fun φ3 => [((φ1 0), .cells #[.bool true, .pointer none] 26), ((φ1 1), .cells #[.bool true, .pointer none] 26)]) (fun φ3 => [(φ1 0), (φ1 0), (φ1 1), (φ1 1)]) s trivial (fun φ3 => by kernel_rfl) ?_
  intro φ3 w3 s
  refine ops_done (by kernel_rfl) ?_
  refine wp_ret ?_
  refine ret_rule (C := []) [((φ1 0), .cells #[.bool true, .pointer none] 26), ((φ1 1), .cells #[.bool true, .pointer none] 26)] [] (.agg #[.bool true, .pointer none]) [.o 1, .o 1] [(φ1 1), (φ1 1)] s trivial (by kernel_rfl) ?_
  exact ⟨_, _, _, rfl, s, ⟨_, _, rfl, rfl, rfl⟩⟩
 | node l r =>
  have hn := h
  obtain ⟨rfl, k, bl, pl, br, pr, rfl, hk, hl, hr⟩ := h
  refine enter_rule 12 [(0, .agg #[.bool false, .pointer (some ⟨k, 0, none⟩)])] Try.func56 rfl (by kernel_rfl) ?_
  intro w s
  refine wp_seq ?_
  refine region_rule ?_
  refine ops_rule (C := []) [] [] 2 [] 2 (fun φ1 => [(2, .pointer (some ⟨(φ1 1), 0, none⟩)), (1, .pointer (some ⟨(φ1 0), 0, none⟩))]) (fun φ1 => [((φ1 0), .cells #[.bool false, .pointer (some ⟨k, 0, none⟩)] 26), ((φ1 1), .cells #[.bool false, .pointer none] 26)]) (fun φ1 => []) s trivial (fun φ1 => by kernel_rfl) ?_
  intro φ1 w1 s
  refine ops_done (by kernel_rfl) ?_
  refine wp_seq ?_
  refine wp_seq ?_
  refine region_rule ?_
  refine ops_rule (C := []) [((φ1 0), .cells #[.bool false, .pointer (some ⟨k, 0, none⟩)] 26), ((φ1 1), .cells #[.bool false, .pointer none] 26)] [] 3 [.o 0] 0 (fun φ2 => [(5, .bool false), (4, .pointer (some ⟨k, 0, none⟩)), (3, .pointer (some ⟨(φ1 0), 1, none⟩))]) (fun φ2 => [((φ1 0), .cells #[.bool false, .pointer (some ⟨k, 0, none⟩)] 26), ((φ1 1), .cells #[.bool false, .pointer none] 26)]) (fun φ2 => [(φ1 0)]) s trivial (fun φ2 => by kernel_rfl) ?_
  intro φ2 w2 s
  refine ops_done (by kernel_rfl) ?_
  refine cond_false_rule (b := false) (by kernel_rfl) rfl ?_
  refine wp_skip ?_
  refine wp_seq ?_
  refine region_rule ?_
  refine ops_rule (C := [(k, .cells #[.bool bl, .pointer pl, .bool br, .pointer pr, .int .i64 ((T.depth (T.node l r) : Nat) : Int)] 122)]) [((φ1 0), .cells #[.bool false, .pointer (some ⟨k, 0, none⟩)] 26), ((φ1 1), .cells #[.bool false, .pointer none] 26)] [] 6 [.o 0, .c 0, .c 0, .o 1, .o 1] 0 (fun φ3 => [(11, .agg #[.bool br, .pointer pr]), (10, .pointer (some ⟨k, 2, none⟩)), (9, .pointer (some ⟨k, 0, none⟩)), (8, .pointer (some ⟨k, 0, none⟩)), (7, .pointer (some ⟨(φ1 0), 1, none⟩))]) (fun φ3 => [((φ1 0), .cells #[.bool false, .pointer (some ⟨k, 0, none⟩)] 26), ((φ1 1), .cells #[.bool br, .pointer pr] 26)]) (fun φ3 => [(φ1 0), k, k, (φ1 1), (φ1 1)]) s ⟨hk, trivial⟩ (fun φ3 => by kernel_rfl) ?_
  intro φ3 w3 s
  refine ops_done (by kernel_rfl) ?_
  refine wp_ret ?_
  refine ret_rule (C := []) [((φ1 0), .cells #[.bool false, .pointer (some ⟨k, 0, none⟩)] 26), ((φ1 1), .cells #[.bool br, .pointer pr] 26)] [] (.agg #[.bool br, .pointer pr]) [.o 1, .o 1] [(φ1 1), (φ1 1)] s trivial (by kernel_rfl) ?_
  exact ⟨_, _, _, rfl, s, ⟨_, _, rfl, hr⟩⟩

set_option maxHeartbeats 400000 in
theorem tdepth_c {I : IM} {t : T} {b : Bool} {p : Option Addr} (h : TRep I t b p) : Fun Try.prog 91 #[idv b p] I (fun v J => v = .int .i64 ((t.depth : Nat) : Int)) := by
 cases t with
 | zero =>
  obtain ⟨rfl, rfl⟩ := h
  refine enter_rule 11 [(0, .agg #[.bool false, .pointer none])] Try.func91 rfl (by kernel_rfl) ?_
  intro w s
  refine wp_seq ?_
  refine region_rule ?_
  refine ops_rule (C := []) [] [] 2 [] 1 (fun φ1 => [(2, .int .i64 0), (1, .pointer (some ⟨(φ1 0), 0, none⟩))]) (fun φ1 => [((φ1 0), .cells #[.bool false, .pointer none] 26)]) (fun φ1 => []) s trivial (fun φ1 => by kernel_rfl) ?_
  intro φ1 w1 s
  refine ops_done (by kernel_rfl) ?_
  refine wp_seq ?_
  refine wp_seq ?_
  refine region_rule ?_
  refine ops_rule (C := []) [((φ1 0), .cells #[.bool false, .pointer none] 26)] [] 3 [.o 0] 0 (fun φ2 => [(5, .bool true), (4, .pointer none), (3, .pointer (some ⟨(φ1 0), 1, none⟩))]) (fun φ2 => [((φ1 0), .cells #[.bool false, .pointer none] 26)]) (fun φ2 => [(φ1 0)]) s trivial (fun φ2 => by kernel_rfl) ?_
  intro φ2 w2 s
  refine ops_done (by kernel_rfl) ?_
  refine cond_true_rule (b := true) (by kernel_rfl) rfl ?_
  refine wp_seq ?_
  refine region_rule ?_
  refine ops_rule (C := []) [((φ1 0), .cells #[.bool false, .pointer none] 26)] [] 1 [] 0 (fun φ3 => [(2, .int .i64 0)]) (fun φ3 => [((φ1 0), .cells #[.bool false, .pointer none] 26)]) (fun φ3 => []) s trivial (fun φ3 => by kernel_rfl) ?_
  intro φ3 w3 s
  refine ops_done (by kernel_rfl) ?_
  refine wp_ret ?_
  refine ret_rule (C := []) [((φ1 0), .cells #[.bool false, .pointer none] 26)] [] (.int .i64 0) [] [] s trivial (by kernel_rfl) ?_
  exact ⟨_, _, _, rfl, s, rfl⟩
 | one =>
  obtain ⟨rfl, rfl⟩ := h
  refine enter_rule 11 [(0, .agg #[.bool true, .pointer none])] Try.func91 rfl (by kernel_rfl) ?_
  intro w s
  refine wp_seq ?_
  refine region_rule ?_
  refine ops_rule (C := []) [] [] 2 [] 1 (fun φ1 => [(2, .int .i64 0), (1, .pointer (some ⟨(φ1 0), 0, none⟩))]) (fun φ1 => [((φ1 0), .cells #[.bool true, .pointer none] 26)]) (fun φ1 => []) s trivial (fun φ1 => by kernel_rfl) ?_
  intro φ1 w1 s
  refine ops_done (by kernel_rfl) ?_
  refine wp_seq ?_
  refine wp_seq ?_
  refine region_rule ?_
  refine ops_rule (C := []) [((φ1 0), .cells #[.bool true, .pointer none] 26)] [] 3 [.o 0] 0 (fun φ2 => [(5, .bool true), (4, .pointer none), (3, .pointer (some ⟨(φ1 0), 1, none⟩))]) (fun φ2 => [((φ1 0), .cells #[.bool true, .pointer none] 26)]) (fun φ2 => [(φ1 0)]) s trivial (fun φ2 => by kernel_rfl) ?_
  intro φ2 w2 s
  refine ops_done (by kernel_rfl) ?_
  refine cond_true_rule (b := true) (by kernel_rfl) rfl ?_
  refine wp_seq ?_
  refine region_rule ?_
  refine ops_rule (C := []) [((φ1 0), .cells #[.bool true, .pointer none] 26)] [] 1 [] 0 (fun φ3 => [(2, .int .i64 0)]) (fun φ3 => [((φ1 0), .cells #[.bool true, .pointer none] 26)]) (fun φ3 => []) s trivial (fun φ3 => by kernel_rfl) ?_
  intro φ3 w3 s
  refine ops_done (by kernel_rfl) ?_
  refine wp_ret ?_
  refine ret_rule (C := []) [((φ1 0), .cells #[.bool true, .pointer none] 26)] [] (.int .i64 0) [] [] s trivial (by kernel_rfl) ?_
  exact ⟨_, _, _, rfl, s, rfl⟩
 | node l r =>
  have hn := h
  obtain ⟨rfl, k, bl, pl, br, pr, rfl, hk, hl, hr⟩ := h
  refine enter_rule 11 [(0, .agg #[.bool false, .pointer (some ⟨k, 0, none⟩)])] Try.func91 rfl (by kernel_rfl) ?_
  intro w s
  refine wp_seq ?_
  refine region_rule ?_
  refine ops_rule (C := []) [] [] 2 [] 1 (fun φ1 => [(2, .int .i64 0), (1, .pointer (some ⟨(φ1 0), 0, none⟩))]) (fun φ1 => [((φ1 0), .cells #[.bool false, .pointer (some ⟨k, 0, none⟩)] 26)]) (fun φ1 => []) s trivial (fun φ1 => by kernel_rfl) ?_
  intro φ1 w1 s
  refine ops_done (by kernel_rfl) ?_
  refine wp_seq ?_
  refine wp_seq ?_
  refine region_rule ?_
  refine ops_rule (C := []) [((φ1 0), .cells #[.bool false, .pointer (some ⟨k, 0, none⟩)] 26)] [] 3 [.o 0] 0 (fun φ2 => [(5, .bool false), (4, .pointer (some ⟨k, 0, none⟩)), (3, .pointer (some ⟨(φ1 0), 1, none⟩))]) (fun φ2 => [((φ1 0), .cells #[.bool false, .pointer (some ⟨k, 0, none⟩)] 26)]) (fun φ2 => [(φ1 0)]) s trivial (fun φ2 => by kernel_rfl) ?_
  intro φ2 w2 s
  refine ops_done (by kernel_rfl) ?_
  refine cond_false_rule (b := false) (by kernel_rfl) rfl ?_
  refine wp_skip ?_
  refine wp_seq ?_
  refine region_rule ?_
  refine ops_rule (C := [(k, .cells #[.bool bl, .pointer pl, .bool br, .pointer pr, .int .i64 ((T.depth (T.node l r) : Nat) : Int)] 122)]) [((φ1 0), .cells #[.bool false, .pointer (some ⟨k, 0, none⟩)] 26)] [] 6 [.o 0, .c 0] 0 (fun φ3 => [(2, .int .i64 ((T.depth (T.node l r) : Nat) : Int)), (10, .int .i64 ((T.depth (T.node l r) : Nat) : Int)), (9, .pointer (some ⟨k, 4, none⟩)), (8, .pointer (some ⟨k, 0, none⟩)), (7, .pointer (some ⟨k, 0, none⟩)), (6, .pointer (some ⟨(φ1 0), 1, none⟩))]) (fun φ3 => [((φ1 0), .cells #[.bool false, .pointer (some ⟨k, 0, none⟩)] 26)]) (fun φ3 => [(φ1 0), k]) s ⟨hk, trivial⟩ (fun φ3 => by kernel_rfl) ?_
  intro φ3 w3 s
  refine ops_done (by kernel_rfl) ?_
  refine wp_ret ?_
  refine ret_rule (C := []) [((φ1 0), .cells #[.bool false, .pointer (some ⟨k, 0, none⟩)] 26)] [] (.int .i64 ((T.depth (T.node l r) : Nat) : Int)) [] [] s trivial (by kernel_rfl) ?_
  exact ⟨_, _, _, rfl, s, rfl⟩

set_option maxHeartbeats 400000 in
theorem tzero_c {I : IM} : Fun Try.prog 71 #[] I (fun v J => v = idv false none) := by
 refine enter_rule 2 [] Try.func71 rfl (by kernel_rfl) ?_
 intro w s
 refine wp_seq ?_
 refine region_rule ?_
 refine ops_rule (C := []) [] [] 1 [] 1 (fun φ1 => [(0, .pointer (some ⟨(φ1 0), 0, none⟩))]) (fun φ1 => [((φ1 0), .cells #[.bool false, .pointer none] 26)]) (fun φ1 => []) s trivial (fun φ1 => by kernel_rfl) ?_
 intro φ1 w1 s
 refine ops_done (by kernel_rfl) ?_
 refine wp_seq ?_
 refine region_rule ?_
 refine ops_rule (C := []) [((φ1 0), .cells #[.bool false, .pointer none] 26)] [] 2 [.o 0, .o 0] 0 (fun φ2 => [(1, .agg #[.bool false, .pointer none])]) (fun φ2 => [((φ1 0), .cells #[.bool false, .pointer none] 26)]) (fun φ2 => [(φ1 0), (φ1 0)]) s trivial (fun φ2 => by kernel_rfl) ?_
 intro φ2 w2 s
 refine ops_done (by kernel_rfl) ?_
 refine wp_ret ?_
 refine ret_rule (C := []) [((φ1 0), .cells #[.bool false, .pointer none] 26)] [] (.agg #[.bool false, .pointer none]) [.o 0, .o 0] [(φ1 0), (φ1 0)] s trivial (by kernel_rfl) ?_
 exact ⟨_, _, _, rfl, s, rfl⟩

set_option maxHeartbeats 400000 in
theorem tone_c {I : IM} : Fun Try.prog 66 #[] I (fun v J => v = idv true none) := by
 refine enter_rule 2 [] Try.func66 rfl (by kernel_rfl) ?_
 intro w s
 refine wp_seq ?_
 refine region_rule ?_
 refine ops_rule (C := []) [] [] 1 [] 1 (fun φ1 => [(0, .pointer (some ⟨(φ1 0), 0, none⟩))]) (fun φ1 => [((φ1 0), .cells #[.bool false, .pointer none] 26)]) (fun φ1 => []) s trivial (fun φ1 => by kernel_rfl) ?_
 intro φ1 w1 s
 refine ops_done (by kernel_rfl) ?_
 refine wp_seq ?_
 refine region_rule ?_
 refine ops_rule (C := []) [((φ1 0), .cells #[.bool false, .pointer none] 26)] [] 2 [.o 0, .o 0] 0 (fun φ2 => [(1, .agg #[.bool true, .pointer none])]) (fun φ2 => [((φ1 0), .cells #[.bool true, .pointer none] 26)]) (fun φ2 => [(φ1 0), (φ1 0)]) s trivial (fun φ2 => by kernel_rfl) ?_
 intro φ2 w2 s
 refine ops_done (by kernel_rfl) ?_
 refine wp_ret ?_
 refine ret_rule (C := []) [((φ1 0), .cells #[.bool true, .pointer none] 26)] [] (.agg #[.bool true, .pointer none]) [.o 0, .o 0] [(φ1 0), (φ1 0)] s trivial (by kernel_rfl) ?_
 exact ⟨_, _, _, rfl, s, rfl⟩

theorem mk_zero {l r : T} (h1 : l.isZero = true) (h2 : r.isZero = true) : T.mk l r = .zero := by cases l <;> cases r <;> simp_all [T.isZero, T.mk]
theorem mk_one {l r : T} (h1 : l.isOne = true) (h2 : r.isOne = true) : T.mk l r = .one := by cases l <;> cases r <;> simp_all [T.isOne, T.mk]
theorem mk_node {l r : T} (h1 : l.isZero = false ∨ r.isZero = false) (h2 : l.isOne = false ∨ r.isOne = false) : T.mk l r = .node l r := by cases l <;> cases r <;> simp_all [T.isOne, T.isZero, T.mk]

set_option maxHeartbeats 1000000 in
theorem merge_c {I : IM} {l r : T} {bl br : Bool} {pl pr : Option Addr} (hl : TRep I l bl pl) (hr : TRep I r br pr) (hdl : l.depth ≤ 1000) (hdr : r.depth ≤ 1000) : Fun Try.prog 90 #[idv bl pl, idv br pr] I (fun v J => ∃ b p, v = idv b p ∧ TRep J (T.mk l r) b p) := by
 refine enter_rule 30 [(0, .agg #[.bool bl, .pointer pl]), (1, .agg #[.bool br, .pointer pr])] Try.func90 rfl (by kernel_rfl) ?_
 intro w s
 refine wp_seq ?_
 refine region_rule ?_
 refine ops_rule (C := []) [] [] 3 [] 3 (fun φ1 => [(4, .pointer (some ⟨(φ1 2), 0, none⟩)), (3, .pointer (some ⟨(φ1 1), 0, none⟩)), (2, .pointer (some ⟨(φ1 0), 0, none⟩))]) (fun φ1 => [((φ1 0), .cells #[.bool bl, .pointer pl] 26), ((φ1 1), .cells #[.bool br, .pointer pr] 26), ((φ1 2), .cells #[.bool false, .pointer none] 26)]) (fun φ1 => []) s trivial (fun φ1 => by kernel_rfl) ?_
 intro φ1 w1 s
 refine ops_done (by kernel_rfl) ?_
 refine wp_seq ?_
 refine wp_seq ?_
 refine region_rule ?_
 refine ops_rule (C := []) [((φ1 0), .cells #[.bool bl, .pointer pl] 26), ((φ1 1), .cells #[.bool br, .pointer pr] 26), ((φ1 2), .cells #[.bool false, .pointer none] 26)] [] 1 [.o 0, .o 0] 0 (fun φ2 => [(5, .agg #[.bool bl, .pointer pl])]) (fun φ2 => [((φ1 0), .cells #[.bool bl, .pointer pl] 26), ((φ1 1), .cells #[.bool br, .pointer pr] 26), ((φ1 2), .cells #[.bool false, .pointer none] 26)]) (fun φ2 => [(φ1 0), (φ1 0)]) s trivial (fun φ2 => by kernel_rfl) ?_
 intro φ2 w2 s
 refine call_rule (some 6) s (isZero_c hl) (by kernel_rfl) ?_
 intro v3 I3 w3 le3 h3 s
 replace hl := TRep.mono le3 hl
 replace hr := TRep.mono le3 hr
 obtain rfl := h3
 refine ops_rule (C := []) [((φ1 0), .cells #[.bool bl, .pointer pl] 26), ((φ1 1), .cells #[.bool br, .pointer pr] 26), ((φ1 2), .cells #[.bool false, .pointer none] 26)] [] 1 [] 0 (fun φ4 => [(7, .bool (T.isZero l))]) (fun φ4 => [((φ1 0), .cells #[.bool bl, .pointer pl] 26), ((φ1 1), .cells #[.bool br, .pointer pr] 26), ((φ1 2), .cells #[.bool false, .pointer none] 26)]) (fun φ4 => []) s trivial (fun φ4 => by kernel_rfl) ?_
 intro φ4 w4 s
 rcases Bool.eq_false_or_eq_true (T.isZero l) with hc5 | hc5
 ·
  rw [hc5]
  refine ops_rule (C := []) [((φ1 0), .cells #[.bool bl, .pointer pl] 26), ((φ1 1), .cells #[.bool br, .pointer pr] 26), ((φ1 2), .cells #[.bool false, .pointer none] 26)] [] 1 [.o 1, .o 1] 0 (fun φ6 => [(8, .agg #[.bool br, .pointer pr])]) (fun φ6 => [((φ1 0), .cells #[.bool bl, .pointer pl] 26), ((φ1 1), .cells #[.bool br, .pointer pr] 26), ((φ1 2), .cells #[.bool false, .pointer none] 26)]) (fun φ6 => [(φ1 1), (φ1 1)]) s trivial (fun φ6 => by kernel_rfl) ?_
  intro φ6 w6 s
  refine call_rule (some 9) s (isZero_c hr) (by kernel_rfl) ?_
  intro v7 I7 w7 le7 h7 s
  replace hl := TRep.mono le7 hl
  replace hr := TRep.mono le7 hr
  obtain rfl := h7
  refine ops_rule (C := []) [((φ1 0), .cells #[.bool bl, .pointer pl] 26), ((φ1 1), .cells #[.bool br, .pointer pr] 26), ((φ1 2), .cells #[.bool false, .pointer none] 26)] [] 1 [] 0 (fun φ8 => [(10, .bool (T.isZero r))]) (fun φ8 => [((φ1 0), .cells #[.bool bl, .pointer pl] 26), ((φ1 1), .cells #[.bool br, .pointer pr] 26), ((φ1 2), .cells #[.bool false, .pointer none] 26)]) (fun φ8 => []) s trivial (fun φ8 => by kernel_rfl) ?_
  intro φ8 w8 s
  refine ops_done (by kernel_rfl) ?_
  rcases Bool.eq_false_or_eq_true (T.isZero r) with hc9 | hc9
  ·
   rw [hc9]
   refine cond_true_rule (b := true) (by kernel_rfl) rfl ?_
   refine wp_seq ?_
   refine region_rule ?_
   refine call_rule (some 11) s (tzero_c) (by kernel_rfl) ?_
   intro v10 I10 w10 le10 h10 s
   replace hl := TRep.mono le10 hl
   replace hr := TRep.mono le10 hr
   obtain rfl := h10
   refine ops_rule (C := []) [((φ1 0), .cells #[.bool bl, .pointer pl] 26), ((φ1 1), .cells #[.bool br, .pointer pr] 26), ((φ1 2), .cells #[.bool false, .pointer none] 26)] [] 1 [.o 2, .o 2] 0 (fun φ11 => []) (fun φ11 => [((φ1 0), .cells #[.bool bl, .pointer pl] 26), ((φ1 1), .cells #[.bool br, .pointer pr] 26), ((φ1 2), .cells #[.bool false, .pointer none] 26)]) (fun φ11 => [(φ1 2), (φ1 2)]) s trivial (fun φ11 => by kernel_rfl) ?_
   intro φ11 w11 s
   refine ops_done (by kernel_rfl) ?_
   refine wp_ret ?_
   refine ret_rule (C := []) [((φ1 0), .cells #[.bool bl, .pointer pl] 26), ((φ1 1), .cells #[.bool br, .pointer pr] 26), ((φ1 2), .cells #[.bool false, .pointer none] 26)] [] (.agg #[.bool false, .pointer none]) [.o 2, .o 2] [(φ1 2), (φ1 2)] s trivial (by kernel_rfl) ?_
   exact ⟨_, _, _, rfl, s, ⟨_, _, rfl, by rw [mk_zero hc5 hc9]; exact ⟨rfl, rfl⟩⟩⟩
  ·
   rw [hc9]
   refine cond_false_rule (b := false) (by kernel_rfl) rfl ?_
   refine wp_skip ?_
   refine wp_seq ?_
   refine wp_seq ?_
   refine region_rule ?_
   refine ops_rule (C := []) [((φ1 0), .cells #[.bool bl, .pointer pl] 26), ((φ1 1), .cells #[.bool br, .pointer pr] 26), ((φ1 2), .cells #[.bool false, .pointer none] 26)] [] 1 [.o 0, .o 0] 0 (fun φ12 => [(12, .agg #[.bool bl, .pointer pl])]) (fun φ12 => [((φ1 0), .cells #[.bool bl, .pointer pl] 26), ((φ1 1), .cells #[.bool br, .pointer pr] 26), ((φ1 2), .cells #[.bool false, .pointer none] 26)]) (fun φ12 => [(φ1 0), (φ1 0)]) s trivial (fun φ12 => by kernel_rfl) ?_
   intro φ12 w12 s
   refine call_rule (some 13) s (isOne_c hl) (by kernel_rfl) ?_
   intro v13 I13 w13 le13 h13 s
   replace hl := TRep.mono le13 hl
   replace hr := TRep.mono le13 hr
   obtain rfl := h13
   refine ops_rule (C := []) [((φ1 0), .cells #[.bool bl, .pointer pl] 26), ((φ1 1), .cells #[.bool br, .pointer pr] 26), ((φ1 2), .cells #[.bool false, .pointer none] 26)] [] 1 [] 0 (fun φ14 => [(14, .bool (T.isOne l))]) (fun φ14 => [((φ1 0), .cells #[.bool bl, .pointer pl] 26), ((φ1 1), .cells #[.bool br, .pointer pr] 26), ((φ1 2), .cells #[.bool false, .pointer none] 26)]) (fun φ14 => []) s trivial (fun φ14 => by kernel_rfl) ?_
   intro φ14 w14 s
   rcases Bool.eq_false_or_eq_true (T.isOne l) with hc15 | hc15
   ·
    rw [hc15]
    refine ops_rule (C := []) [((φ1 0), .cells #[.bool bl, .pointer pl] 26), ((φ1 1), .cells #[.bool br, .pointer pr] 26), ((φ1 2), .cells #[.bool false, .pointer none] 26)] [] 1 [.o 1, .o 1] 0 (fun φ16 => [(15, .agg #[.bool br, .pointer pr])]) (fun φ16 => [((φ1 0), .cells #[.bool bl, .pointer pl] 26), ((φ1 1), .cells #[.bool br, .pointer pr] 26), ((φ1 2), .cells #[.bool false, .pointer none] 26)]) (fun φ16 => [(φ1 1), (φ1 1)]) s trivial (fun φ16 => by kernel_rfl) ?_
    intro φ16 w16 s
    refine call_rule (some 16) s (isOne_c hr) (by kernel_rfl) ?_
    intro v17 I17 w17 le17 h17 s
    replace hl := TRep.mono le17 hl
    replace hr := TRep.mono le17 hr
    obtain rfl := h17
    refine ops_rule (C := []) [((φ1 0), .cells #[.bool bl, .pointer pl] 26), ((φ1 1), .cells #[.bool br, .pointer pr] 26), ((φ1 2), .cells #[.bool false, .pointer none] 26)] [] 1 [] 0 (fun φ18 => [(17, .bool (T.isOne r))]) (fun φ18 => [((φ1 0), .cells #[.bool bl, .pointer pl] 26), ((φ1 1), .cells #[.bool br, .pointer pr] 26), ((φ1 2), .cells #[.bool false, .pointer none] 26)]) (fun φ18 => []) s trivial (fun φ18 => by kernel_rfl) ?_
    intro φ18 w18 s
    refine ops_done (by kernel_rfl) ?_
    rcases Bool.eq_false_or_eq_true (T.isOne r) with hc19 | hc19
    ·
     rw [hc19]
     refine cond_true_rule (b := true) (by kernel_rfl) rfl ?_
     refine wp_seq ?_
     refine region_rule ?_
     refine call_rule (some 18) s (tone_c) (by kernel_rfl) ?_
     intro v20 I20 w20 le20 h20 s
     replace hl := TRep.mono le20 hl
     replace hr := TRep.mono le20 hr
     obtain rfl := h20
     refine ops_rule (C := []) [((φ1 0), .cells #[.bool bl, .pointer pl] 26), ((φ1 1), .cells #[.bool br, .pointer pr] 26), ((φ1 2), .cells #[.bool false, .pointer none] 26)] [] 1 [.o 2, .o 2] 0 (fun φ21 => []) (fun φ21 => [((φ1 0), .cells #[.bool bl, .pointer pl] 26), ((φ1 1), .cells #[.bool br, .pointer pr] 26), ((φ1 2), .cells #[.bool true, .pointer none] 26)]) (fun φ21 => [(φ1 2), (φ1 2)]) s trivial (fun φ21 => by kernel_rfl) ?_
     intro φ21 w21 s
     refine ops_done (by kernel_rfl) ?_
     refine wp_ret ?_
     refine ret_rule (C := []) [((φ1 0), .cells #[.bool bl, .pointer pl] 26), ((φ1 1), .cells #[.bool br, .pointer pr] 26), ((φ1 2), .cells #[.bool true, .pointer none] 26)] [] (.agg #[.bool true, .pointer none]) [.o 2, .o 2] [(φ1 2), (φ1 2)] s trivial (by kernel_rfl) ?_
     exact ⟨_, _, _, rfl, s, ⟨_, _, rfl, by rw [mk_one hc15 hc19]; exact ⟨rfl, rfl⟩⟩⟩
    ·
     rw [hc19]
     refine cond_false_rule (b := false) (by kernel_rfl) rfl ?_
     refine wp_skip ?_
     refine wp_seq ?_
     refine draw_rule (C := []) ⟨(fun φ22 xs22 => [.look 0 [.o 0, .o 0] [(φ1 0), (φ1 0)], .look 0 [.o 1, .o 1] [(φ1 1), (φ1 1)], .look 0 [.o 0, .o 0] [(φ1 0), (φ1 0)], .call 91 #[.agg #[.bool bl, .pointer pl]], .look 0 [.o 1, .o 1] [(φ1 1), (φ1 1)], .call 91 #[.agg #[.bool br, .pointer pr]], .sub 0 [] [] (.int .i64 (if ((T.depth r : Nat) : Int) > ((T.depth l : Nat) : Int) then ((T.depth r : Nat) : Int) else ((T.depth l : Nat) : Int))), .sub 0 [] [] (.int .i64 (IntKind.wrap .i64 (((1 : Nat) : Int) + ((max (T.depth l) (T.depth r) : Nat) : Int)))), .look 0 [] [], .new, .look 0 [] [], .store 0 [.o 2, .o 2] [(φ1 2), (φ1 2)]]), (fun φ22 xs22 => [.agg #[.bool bl, .pointer pl], .agg #[.bool br, .pointer pr], .agg #[.bool bl, .pointer pl], .int .i64 ((T.depth l : Nat) : Int), .agg #[.bool br, .pointer pr], .int .i64 ((T.depth r : Nat) : Int), .int .i64 ((max (T.depth l) (T.depth r) : Nat) : Int), .int .i64 ((1 + (max (T.depth l) (T.depth r)) : Nat) : Int), .agg #[.bool bl, .pointer pl, .bool br, .pointer pr, .int .i64 ((1 + (max (T.depth l) (T.depth r)) : Nat) : Int)], .pointer (some ⟨(φ22 9), 0, none⟩), .agg #[.bool false, .pointer (some ⟨(φ22 9), 0, none⟩)], undef]), (fun φ22 xs22 => [[((φ1 0), .cells #[.bool bl, .pointer pl] 26), ((φ1 1), .cells #[.bool br, .pointer pr] 26), ((φ1 2), .cells #[.bool false, .pointer none] 26)], [((φ1 0), .cells #[.bool bl, .pointer pl] 26), ((φ1 1), .cells #[.bool br, .pointer pr] 26), ((φ1 2), .cells #[.bool false, .pointer (some ⟨(φ22 9), 0, none⟩)] 26)]]), (fun φ22 xs22 => [[default, default, default, default, default, default, default, default, default, .cells #[.bool bl, .pointer pl, .bool br, .pointer pr, .int .i64 ((1 + (max (T.depth l) (T.depth r)) : Nat) : Int)] 122, default, default], [default, default, default, default, default, default, default, default, default, .cells #[.bool bl, .pointer pl, .bool br, .pointer pr, .int .i64 ((1 + (max (T.depth l) (T.depth r)) : Nat) : Int)] 122, default, default]]), [11], [1, 1, 1, 3, 1, 3, 5, 5, 1, 2, 1, 4]⟩ (fun j => ([MP.any, MP.any, MP.any, MP.any, MP.any, MP.any, MP.any, MP.any, MP.any, MP.any, MP.any, MP.any] : List MP).getD j MP.any) [3, 5] [6, 7] [] (fun φ22 xs22 => [[none, none, none, none, none, none, none, none, none, none, none, none]]) (fun φ22 xs22 => [(19, .agg #[.bool bl, .pointer pl]), (20, .agg #[.bool br, .pointer pr]), (21, .agg #[.bool bl, .pointer pl]), (22, .int .i64 ((T.depth l : Nat) : Int)), (23, .agg #[.bool br, .pointer pr]), (24, .int .i64 ((T.depth r : Nat) : Int)), (25, .int .i64 ((max (T.depth l) (T.depth r) : Nat) : Int)), (26, .int .i64 ((1 + (max (T.depth l) (T.depth r)) : Nat) : Int)), (27, .agg #[.bool bl, .pointer pl, .bool br, .pointer pr, .int .i64 ((1 + (max (T.depth l) (T.depth r)) : Nat) : Int)]), (28, .pointer (some ⟨(φ22 9), 0, none⟩)), (29, .agg #[.bool false, .pointer (some ⟨(φ22 9), 0, none⟩)])]) (fun φ22 xs22 => [((φ1 0), .cells #[.bool bl, .pointer pl] 26), ((φ1 1), .cells #[.bool br, .pointer pr] 26), ((φ1 2), .cells #[.bool false, .pointer (some ⟨(φ22 9), 0, none⟩)] 26), ((φ22 9), .cells #[.bool bl, .pointer pl, .bool br, .pointer pr, .int .i64 ((1 + (max (T.depth l) (T.depth r)) : Nat) : Int)] 122)]) s trivial (by kernel_rfl) (by kernel_rfl) (fun _ _ => by kernel_rfl) (fun _ _ => by kernel_rfl) ⟨fun _ _ => by kernel_rfl, fun _ _ => by kernel_rfl, fun _ _ => by kernel_rfl, fun _ _ => by kernel_rfl⟩ (fun _ _ _ => by kernel_rfl) (fun _ _ => by kernel_rfl) (fun _ _ => by kernel_rfl) (fun _ _ => by kernel_rfl) (fun _ _ => by kernel_rfl) (fun _ _ => by kernel_rfl) ⟨kcast (A := ∀ (φ22 : Nat → Nat) (xs22 : Xs), (.int .i64 (if ((T.depth r : Nat) : Int) > ((T.depth l : Nat) : Int) then ((T.depth r : Nat) : Int) else ((T.depth l : Nat) : Int)) : Value) = .int .i64 ((max (T.depth l) (T.depth r) : Nat) : Int)) (by kernel_rfl) (fun φ22 xs22 => congrArg (Value.int .i64) ((nat_max (a := (T.depth l)) (b := (T.depth r))))), ⟨kcast (A := ∀ (φ22 : Nat → Nat) (xs22 : Xs), (.int .i64 (IntKind.wrap .i64 (((1 : Nat) : Int) + ((max (T.depth l) (T.depth r) : Nat) : Int))) : Value) = .int .i64 ((1 + (max (T.depth l) (T.depth r)) : Nat) : Int)) (by kernel_rfl) (fun φ22 xs22 => congrArg (Value.int .i64) ((nat_addI (a := 1) (b := (max (T.depth l) (T.depth r))) (by omega)))), trivial⟩⟩ trivial (by kernel_rfl) ⟨?c22_3, ?c22_5, trivial⟩ ?k22
     case c22_3 =>
      refine kcast (A := ∀ (φ22 : Nat → Nat) (xs22 : Xs) (J3_22 : IM), I17.Le J3_22 → Fun Try.prog 91 #[.agg #[.bool bl, .pointer pl]] J3_22 (fun v J' => ∃ x : UX, v = .int .i64 ((T.depth l : Nat) : Int) ∧ (True))) (by kernel_rfl) ?_
      intro φ22 xs22 J3_22 leJ
      have hl := TRep.mono leJ hl
      exact Fun.mono (tdepth_c hl) (fun v J' _ h => ⟨UX.d, h, trivial⟩)
     case c22_5 =>
      refine kcast (A := ∀ (φ22 : Nat → Nat) (xs22 : Xs) (J5_22 : IM), I17.Le J5_22 → (True) → Fun Try.prog 91 #[.agg #[.bool br, .pointer pr]] J5_22 (fun v J' => ∃ x : UX, v = .int .i64 ((T.depth r : Nat) : Int) ∧ (True))) (by kernel_rfl) ?_
      intro φ22 xs22 J5_22 leJ
      rintro _
      have hr := TRep.mono leJ hr
      exact Fun.mono (tdepth_c hr) (fun v J' _ h => ⟨UX.d, h, trivial⟩)
     case k22 =>
      rintro φ22 xs22 I22 w22 le22 s _ _
      replace hl := TRep.mono le22 hl
      replace hr := TRep.mono le22 hr
      refine wp_ret ?_
      refine ret_rule (C := []) [((φ1 0), .cells #[.bool bl, .pointer pl] 26), ((φ1 1), .cells #[.bool br, .pointer pr] 26), ((φ1 2), .cells #[.bool false, .pointer (some ⟨(φ22 9), 0, none⟩)] 26), ((φ22 9), .cells #[.bool bl, .pointer pl, .bool br, .pointer pr, .int .i64 ((1 + (max (T.depth l) (T.depth r)) : Nat) : Int)] 122)] [] (.agg #[.bool false, .pointer (some ⟨(φ22 9), 0, none⟩)]) [.o 2, .o 2] [(φ1 2), (φ1 2)] s trivial (by kernel_rfl) ?_
      obtain ⟨I23, le23, hk23, s⟩ := s.freezeAt 3 (φ22 9) (.cells #[.bool bl, .pointer pl, .bool br, .pointer pr, .int .i64 ((1 + (max (T.depth l) (T.depth r)) : Nat) : Int)] 122) [((φ1 0), .cells #[.bool bl, .pointer pl] 26), ((φ1 1), .cells #[.bool br, .pointer pr] 26), ((φ1 2), .cells #[.bool false, .pointer (some ⟨(φ22 9), 0, none⟩)] 26)] (by kernel_rfl) (by kernel_rfl)
      replace hl := TRep.mono le23 hl
      replace hr := TRep.mono le23 hr
      exact ⟨_, _, _, rfl, s, ⟨_, _, rfl, by rw [mk_node (.inr hc9) (.inr hc19)]; exact ⟨rfl, _, _, _, _, _, rfl, hk23, hl, hr⟩⟩⟩
   ·
    rw [hc15]
    refine ops_rule (C := []) [((φ1 0), .cells #[.bool bl, .pointer pl] 26), ((φ1 1), .cells #[.bool br, .pointer pr] 26), ((φ1 2), .cells #[.bool false, .pointer none] 26)] [] 3 [] 0 (fun φ24 => [(17, .bool false), (16, undef), (15, undef)]) (fun φ24 => [((φ1 0), .cells #[.bool bl, .pointer pl] 26), ((φ1 1), .cells #[.bool br, .pointer pr] 26), ((φ1 2), .cells #[.bool false, .pointer none] 26)]) (fun φ24 => []) s trivial (fun φ24 => by kernel_rfl) ?_
    intro φ24 w24 s
    refine ops_done (by kernel_rfl) ?_
    refine cond_false_rule (b := false) (by kernel_rfl) rfl ?_
    refine wp_skip ?_
    refine wp_seq ?_
    refine draw_rule (C := []) ⟨(fun φ25 xs25 => [.look 0 [.o 0, .o 0] [(φ1 0), (φ1 0)], .look 0 [.o 1, .o 1] [(φ1 1), (φ1 1)], .look 0 [.o 0, .o 0] [(φ1 0), (φ1 0)], .call 91 #[.agg #[.bool bl, .pointer pl]], .look 0 [.o 1, .o 1] [(φ1 1), (φ1 1)], .call 91 #[.agg #[.bool br, .pointer pr]], .sub 0 [] [] (.int .i64 (if ((T.depth r : Nat) : Int) > ((T.depth l : Nat) : Int) then ((T.depth r : Nat) : Int) else ((T.depth l : Nat) : Int))), .sub 0 [] [] (.int .i64 (IntKind.wrap .i64 (((1 : Nat) : Int) + ((max (T.depth l) (T.depth r) : Nat) : Int)))), .look 0 [] [], .new, .look 0 [] [], .store 0 [.o 2, .o 2] [(φ1 2), (φ1 2)]]), (fun φ25 xs25 => [.agg #[.bool bl, .pointer pl], .agg #[.bool br, .pointer pr], .agg #[.bool bl, .pointer pl], .int .i64 ((T.depth l : Nat) : Int), .agg #[.bool br, .pointer pr], .int .i64 ((T.depth r : Nat) : Int), .int .i64 ((max (T.depth l) (T.depth r) : Nat) : Int), .int .i64 ((1 + (max (T.depth l) (T.depth r)) : Nat) : Int), .agg #[.bool bl, .pointer pl, .bool br, .pointer pr, .int .i64 ((1 + (max (T.depth l) (T.depth r)) : Nat) : Int)], .pointer (some ⟨(φ25 9), 0, none⟩), .agg #[.bool false, .pointer (some ⟨(φ25 9), 0, none⟩)], undef]), (fun φ25 xs25 => [[((φ1 0), .cells #[.bool bl, .pointer pl] 26), ((φ1 1), .cells #[.bool br, .pointer pr] 26), ((φ1 2), .cells #[.bool false, .pointer none] 26)], [((φ1 0), .cells #[.bool bl, .pointer pl] 26), ((φ1 1), .cells #[.bool br, .pointer pr] 26), ((φ1 2), .cells #[.bool false, .pointer (some ⟨(φ25 9), 0, none⟩)] 26)]]), (fun φ25 xs25 => [[default, default, default, default, default, default, default, default, default, .cells #[.bool bl, .pointer pl, .bool br, .pointer pr, .int .i64 ((1 + (max (T.depth l) (T.depth r)) : Nat) : Int)] 122, default, default], [default, default, default, default, default, default, default, default, default, .cells #[.bool bl, .pointer pl, .bool br, .pointer pr, .int .i64 ((1 + (max (T.depth l) (T.depth r)) : Nat) : Int)] 122, default, default]]), [11], [1, 1, 1, 3, 1, 3, 5, 5, 1, 2, 1, 4]⟩ (fun j => ([MP.any, MP.any, MP.any, MP.any, MP.any, MP.any, MP.any, MP.any, MP.any, MP.any, MP.any, MP.any] : List MP).getD j MP.any) [3, 5] [6, 7] [] (fun φ25 xs25 => [[none, none, none, none, none, none, none, none, none, none, none, none]]) (fun φ25 xs25 => [(19, .agg #[.bool bl, .pointer pl]), (20, .agg #[.bool br, .pointer pr]), (21, .agg #[.bool bl, .pointer pl]), (22, .int .i64 ((T.depth l : Nat) : Int)), (23, .agg #[.bool br, .pointer pr]), (24, .int .i64 ((T.depth r : Nat) : Int)), (25, .int .i64 ((max (T.depth l) (T.depth r) : Nat) : Int)), (26, .int .i64 ((1 + (max (T.depth l) (T.depth r)) : Nat) : Int)), (27, .agg #[.bool bl, .pointer pl, .bool br, .pointer pr, .int .i64 ((1 + (max (T.depth l) (T.depth r)) : Nat) : Int)]), (28, .pointer (some ⟨(φ25 9), 0, none⟩)), (29, .agg #[.bool false, .pointer (some ⟨(φ25 9), 0, none⟩)])]) (fun φ25 xs25 => [((φ1 0), .cells #[.bool bl, .pointer pl] 26), ((φ1 1), .cells #[.bool br, .pointer pr] 26), ((φ1 2), .cells #[.bool false, .pointer (some ⟨(φ25 9), 0, none⟩)] 26), ((φ25 9), .cells #[.bool bl, .pointer pl, .bool br, .pointer pr, .int .i64 ((1 + (max (T.depth l) (T.depth r)) : Nat) : Int)] 122)]) s trivial (by kernel_rfl) (by kernel_rfl) (fun _ _ => by kernel_rfl) (fun _ _ => by kernel_rfl) ⟨fun _ _ => by kernel_rfl, fun _ _ => by kernel_rfl, fun _ _ => by kernel_rfl, fun _ _ => by kernel_rfl⟩ (fun _ _ _ => by kernel_rfl) (fun _ _ => by kernel_rfl) (fun _ _ => by kernel_rfl) (fun _ _ => by kernel_rfl) (fun _ _ => by kernel_rfl) (fun _ _ => by kernel_rfl) ⟨kcast (A := ∀ (φ25 : Nat → Nat) (xs25 : Xs), (.int .i64 (if ((T.depth r : Nat) : Int) > ((T.depth l : Nat) : Int) then ((T.depth r : Nat) : Int) else ((T.depth l : Nat) : Int)) : Value) = .int .i64 ((max (T.depth l) (T.depth r) : Nat) : Int)) (by kernel_rfl) (fun φ25 xs25 => congrArg (Value.int .i64) ((nat_max (a := (T.depth l)) (b := (T.depth r))))), ⟨kcast (A := ∀ (φ25 : Nat → Nat) (xs25 : Xs), (.int .i64 (IntKind.wrap .i64 (((1 : Nat) : Int) + ((max (T.depth l) (T.depth r) : Nat) : Int))) : Value) = .int .i64 ((1 + (max (T.depth l) (T.depth r)) : Nat) : Int)) (by kernel_rfl) (fun φ25 xs25 => congrArg (Value.int .i64) ((nat_addI (a := 1) (b := (max (T.depth l) (T.depth r))) (by omega)))), trivial⟩⟩ trivial (by kernel_rfl) ⟨?c25_3, ?c25_5, trivial⟩ ?k25
    case c25_3 =>
     refine kcast (A := ∀ (φ25 : Nat → Nat) (xs25 : Xs) (J3_25 : IM), I13.Le J3_25 → Fun Try.prog 91 #[.agg #[.bool bl, .pointer pl]] J3_25 (fun v J' => ∃ x : UX, v = .int .i64 ((T.depth l : Nat) : Int) ∧ (True))) (by kernel_rfl) ?_
     intro φ25 xs25 J3_25 leJ
     have hl := TRep.mono leJ hl
     exact Fun.mono (tdepth_c hl) (fun v J' _ h => ⟨UX.d, h, trivial⟩)
    case c25_5 =>
     refine kcast (A := ∀ (φ25 : Nat → Nat) (xs25 : Xs) (J5_25 : IM), I13.Le J5_25 → (True) → Fun Try.prog 91 #[.agg #[.bool br, .pointer pr]] J5_25 (fun v J' => ∃ x : UX, v = .int .i64 ((T.depth r : Nat) : Int) ∧ (True))) (by kernel_rfl) ?_
     intro φ25 xs25 J5_25 leJ
     rintro _
     have hr := TRep.mono leJ hr
     exact Fun.mono (tdepth_c hr) (fun v J' _ h => ⟨UX.d, h, trivial⟩)
    case k25 =>
     rintro φ25 xs25 I25 w25 le25 s _ _
     replace hl := TRep.mono le25 hl
     replace hr := TRep.mono le25 hr
     refine wp_ret ?_
     refine ret_rule (C := []) [((φ1 0), .cells #[.bool bl, .pointer pl] 26), ((φ1 1), .cells #[.bool br, .pointer pr] 26), ((φ1 2), .cells #[.bool false, .pointer (some ⟨(φ25 9), 0, none⟩)] 26), ((φ25 9), .cells #[.bool bl, .pointer pl, .bool br, .pointer pr, .int .i64 ((1 + (max (T.depth l) (T.depth r)) : Nat) : Int)] 122)] [] (.agg #[.bool false, .pointer (some ⟨(φ25 9), 0, none⟩)]) [.o 2, .o 2] [(φ1 2), (φ1 2)] s trivial (by kernel_rfl) ?_
     obtain ⟨I26, le26, hk26, s⟩ := s.freezeAt 3 (φ25 9) (.cells #[.bool bl, .pointer pl, .bool br, .pointer pr, .int .i64 ((1 + (max (T.depth l) (T.depth r)) : Nat) : Int)] 122) [((φ1 0), .cells #[.bool bl, .pointer pl] 26), ((φ1 1), .cells #[.bool br, .pointer pr] 26), ((φ1 2), .cells #[.bool false, .pointer (some ⟨(φ25 9), 0, none⟩)] 26)] (by kernel_rfl) (by kernel_rfl)
     replace hl := TRep.mono le26 hl
     replace hr := TRep.mono le26 hr
     exact ⟨_, _, _, rfl, s, ⟨_, _, rfl, by rw [mk_node (.inr hc9) (.inl hc15)]; exact ⟨rfl, _, _, _, _, _, rfl, hk26, hl, hr⟩⟩⟩
 ·
  rw [hc5]
  refine ops_rule (C := []) [((φ1 0), .cells #[.bool bl, .pointer pl] 26), ((φ1 1), .cells #[.bool br, .pointer pr] 26), ((φ1 2), .cells #[.bool false, .pointer none] 26)] [] 3 [] 0 (fun φ27 => [(10, .bool false), (9, undef), (8, undef)]) (fun φ27 => [((φ1 0), .cells #[.bool bl, .pointer pl] 26), ((φ1 1), .cells #[.bool br, .pointer pr] 26), ((φ1 2), .cells #[.bool false, .pointer none] 26)]) (fun φ27 => []) s trivial (fun φ27 => by kernel_rfl) ?_
  intro φ27 w27 s
  refine ops_done (by kernel_rfl) ?_
  refine cond_false_rule (b := false) (by kernel_rfl) rfl ?_
  refine wp_skip ?_
  refine wp_seq ?_
  refine wp_seq ?_
  refine region_rule ?_
  refine ops_rule (C := []) [((φ1 0), .cells #[.bool bl, .pointer pl] 26), ((φ1 1), .cells #[.bool br, .pointer pr] 26), ((φ1 2), .cells #[.bool false, .pointer none] 26)] [] 1 [.o 0, .o 0] 0 (fun φ28 => [(12, .agg #[.bool bl, .pointer pl])]) (fun φ28 => [((φ1 0), .cells #[.bool bl, .pointer pl] 26), ((φ1 1), .cells #[.bool br, .pointer pr] 26), ((φ1 2), .cells #[.bool false, .pointer none] 26)]) (fun φ28 => [(φ1 0), (φ1 0)]) s trivial (fun φ28 => by kernel_rfl) ?_
  intro φ28 w28 s
  refine call_rule (some 13) s (isOne_c hl) (by kernel_rfl) ?_
  intro v29 I29 w29 le29 h29 s
  replace hl := TRep.mono le29 hl
  replace hr := TRep.mono le29 hr
  obtain rfl := h29
  refine ops_rule (C := []) [((φ1 0), .cells #[.bool bl, .pointer pl] 26), ((φ1 1), .cells #[.bool br, .pointer pr] 26), ((φ1 2), .cells #[.bool false, .pointer none] 26)] [] 1 [] 0 (fun φ30 => [(14, .bool (T.isOne l))]) (fun φ30 => [((φ1 0), .cells #[.bool bl, .pointer pl] 26), ((φ1 1), .cells #[.bool br, .pointer pr] 26), ((φ1 2), .cells #[.bool false, .pointer none] 26)]) (fun φ30 => []) s trivial (fun φ30 => by kernel_rfl) ?_
  intro φ30 w30 s
  rcases Bool.eq_false_or_eq_true (T.isOne l) with hc31 | hc31
  ·
   rw [hc31]
   refine ops_rule (C := []) [((φ1 0), .cells #[.bool bl, .pointer pl] 26), ((φ1 1), .cells #[.bool br, .pointer pr] 26), ((φ1 2), .cells #[.bool false, .pointer none] 26)] [] 1 [.o 1, .o 1] 0 (fun φ32 => [(15, .agg #[.bool br, .pointer pr])]) (fun φ32 => [((φ1 0), .cells #[.bool bl, .pointer pl] 26), ((φ1 1), .cells #[.bool br, .pointer pr] 26), ((φ1 2), .cells #[.bool false, .pointer none] 26)]) (fun φ32 => [(φ1 1), (φ1 1)]) s trivial (fun φ32 => by kernel_rfl) ?_
   intro φ32 w32 s
   refine call_rule (some 16) s (isOne_c hr) (by kernel_rfl) ?_
   intro v33 I33 w33 le33 h33 s
   replace hl := TRep.mono le33 hl
   replace hr := TRep.mono le33 hr
   obtain rfl := h33
   refine ops_rule (C := []) [((φ1 0), .cells #[.bool bl, .pointer pl] 26), ((φ1 1), .cells #[.bool br, .pointer pr] 26), ((φ1 2), .cells #[.bool false, .pointer none] 26)] [] 1 [] 0 (fun φ34 => [(17, .bool (T.isOne r))]) (fun φ34 => [((φ1 0), .cells #[.bool bl, .pointer pl] 26), ((φ1 1), .cells #[.bool br, .pointer pr] 26), ((φ1 2), .cells #[.bool false, .pointer none] 26)]) (fun φ34 => []) s trivial (fun φ34 => by kernel_rfl) ?_
   intro φ34 w34 s
   refine ops_done (by kernel_rfl) ?_
   rcases Bool.eq_false_or_eq_true (T.isOne r) with hc35 | hc35
   ·
    rw [hc35]
    refine cond_true_rule (b := true) (by kernel_rfl) rfl ?_
    refine wp_seq ?_
    refine region_rule ?_
    refine call_rule (some 18) s (tone_c) (by kernel_rfl) ?_
    intro v36 I36 w36 le36 h36 s
    replace hl := TRep.mono le36 hl
    replace hr := TRep.mono le36 hr
    obtain rfl := h36
    refine ops_rule (C := []) [((φ1 0), .cells #[.bool bl, .pointer pl] 26), ((φ1 1), .cells #[.bool br, .pointer pr] 26), ((φ1 2), .cells #[.bool false, .pointer none] 26)] [] 1 [.o 2, .o 2] 0 (fun φ37 => []) (fun φ37 => [((φ1 0), .cells #[.bool bl, .pointer pl] 26), ((φ1 1), .cells #[.bool br, .pointer pr] 26), ((φ1 2), .cells #[.bool true, .pointer none] 26)]) (fun φ37 => [(φ1 2), (φ1 2)]) s trivial (fun φ37 => by kernel_rfl) ?_
    intro φ37 w37 s
    refine ops_done (by kernel_rfl) ?_
    refine wp_ret ?_
    refine ret_rule (C := []) [((φ1 0), .cells #[.bool bl, .pointer pl] 26), ((φ1 1), .cells #[.bool br, .pointer pr] 26), ((φ1 2), .cells #[.bool true, .pointer none] 26)] [] (.agg #[.bool true, .pointer none]) [.o 2, .o 2] [(φ1 2), (φ1 2)] s trivial (by kernel_rfl) ?_
    exact ⟨_, _, _, rfl, s, ⟨_, _, rfl, by rw [mk_one hc31 hc35]; exact ⟨rfl, rfl⟩⟩⟩
   ·
    rw [hc35]
    refine cond_false_rule (b := false) (by kernel_rfl) rfl ?_
    refine wp_skip ?_
    refine wp_seq ?_
    refine draw_rule (C := []) ⟨(fun φ38 xs38 => [.look 0 [.o 0, .o 0] [(φ1 0), (φ1 0)], .look 0 [.o 1, .o 1] [(φ1 1), (φ1 1)], .look 0 [.o 0, .o 0] [(φ1 0), (φ1 0)], .call 91 #[.agg #[.bool bl, .pointer pl]], .look 0 [.o 1, .o 1] [(φ1 1), (φ1 1)], .call 91 #[.agg #[.bool br, .pointer pr]], .sub 0 [] [] (.int .i64 (if ((T.depth r : Nat) : Int) > ((T.depth l : Nat) : Int) then ((T.depth r : Nat) : Int) else ((T.depth l : Nat) : Int))), .sub 0 [] [] (.int .i64 (IntKind.wrap .i64 (((1 : Nat) : Int) + ((max (T.depth l) (T.depth r) : Nat) : Int)))), .look 0 [] [], .new, .look 0 [] [], .store 0 [.o 2, .o 2] [(φ1 2), (φ1 2)]]), (fun φ38 xs38 => [.agg #[.bool bl, .pointer pl], .agg #[.bool br, .pointer pr], .agg #[.bool bl, .pointer pl], .int .i64 ((T.depth l : Nat) : Int), .agg #[.bool br, .pointer pr], .int .i64 ((T.depth r : Nat) : Int), .int .i64 ((max (T.depth l) (T.depth r) : Nat) : Int), .int .i64 ((1 + (max (T.depth l) (T.depth r)) : Nat) : Int), .agg #[.bool bl, .pointer pl, .bool br, .pointer pr, .int .i64 ((1 + (max (T.depth l) (T.depth r)) : Nat) : Int)], .pointer (some ⟨(φ38 9), 0, none⟩), .agg #[.bool false, .pointer (some ⟨(φ38 9), 0, none⟩)], undef]), (fun φ38 xs38 => [[((φ1 0), .cells #[.bool bl, .pointer pl] 26), ((φ1 1), .cells #[.bool br, .pointer pr] 26), ((φ1 2), .cells #[.bool false, .pointer none] 26)], [((φ1 0), .cells #[.bool bl, .pointer pl] 26), ((φ1 1), .cells #[.bool br, .pointer pr] 26), ((φ1 2), .cells #[.bool false, .pointer (some ⟨(φ38 9), 0, none⟩)] 26)]]), (fun φ38 xs38 => [[default, default, default, default, default, default, default, default, default, .cells #[.bool bl, .pointer pl, .bool br, .pointer pr, .int .i64 ((1 + (max (T.depth l) (T.depth r)) : Nat) : Int)] 122, default, default], [default, default, default, default, default, default, default, default, default, .cells #[.bool bl, .pointer pl, .bool br, .pointer pr, .int .i64 ((1 + (max (T.depth l) (T.depth r)) : Nat) : Int)] 122, default, default]]), [11], [1, 1, 1, 3, 1, 3, 5, 5, 1, 2, 1, 4]⟩ (fun j => ([MP.any, MP.any, MP.any, MP.any, MP.any, MP.any, MP.any, MP.any, MP.any, MP.any, MP.any, MP.any] : List MP).getD j MP.any) [3, 5] [6, 7] [] (fun φ38 xs38 => [[none, none, none, none, none, none, none, none, none, none, none, none]]) (fun φ38 xs38 => [(19, .agg #[.bool bl, .pointer pl]), (20, .agg #[.bool br, .pointer pr]), (21, .agg #[.bool bl, .pointer pl]), (22, .int .i64 ((T.depth l : Nat) : Int)), (23, .agg #[.bool br, .pointer pr]), (24, .int .i64 ((T.depth r : Nat) : Int)), (25, .int .i64 ((max (T.depth l) (T.depth r) : Nat) : Int)), (26, .int .i64 ((1 + (max (T.depth l) (T.depth r)) : Nat) : Int)), (27, .agg #[.bool bl, .pointer pl, .bool br, .pointer pr, .int .i64 ((1 + (max (T.depth l) (T.depth r)) : Nat) : Int)]), (28, .pointer (some ⟨(φ38 9), 0, none⟩)), (29, .agg #[.bool false, .pointer (some ⟨(φ38 9), 0, none⟩)])]) (fun φ38 xs38 => [((φ1 0), .cells #[.bool bl, .pointer pl] 26), ((φ1 1), .cells #[.bool br, .pointer pr] 26), ((φ1 2), .cells #[.bool false, .pointer (some ⟨(φ38 9), 0, none⟩)] 26), ((φ38 9), .cells #[.bool bl, .pointer pl, .bool br, .pointer pr, .int .i64 ((1 + (max (T.depth l) (T.depth r)) : Nat) : Int)] 122)]) s trivial (by kernel_rfl) (by kernel_rfl) (fun _ _ => by kernel_rfl) (fun _ _ => by kernel_rfl) ⟨fun _ _ => by kernel_rfl, fun _ _ => by kernel_rfl, fun _ _ => by kernel_rfl, fun _ _ => by kernel_rfl⟩ (fun _ _ _ => by kernel_rfl) (fun _ _ => by kernel_rfl) (fun _ _ => by kernel_rfl) (fun _ _ => by kernel_rfl) (fun _ _ => by kernel_rfl) (fun _ _ => by kernel_rfl) ⟨kcast (A := ∀ (φ38 : Nat → Nat) (xs38 : Xs), (.int .i64 (if ((T.depth r : Nat) : Int) > ((T.depth l : Nat) : Int) then ((T.depth r : Nat) : Int) else ((T.depth l : Nat) : Int)) : Value) = .int .i64 ((max (T.depth l) (T.depth r) : Nat) : Int)) (by kernel_rfl) (fun φ38 xs38 => congrArg (Value.int .i64) ((nat_max (a := (T.depth l)) (b := (T.depth r))))), ⟨kcast (A := ∀ (φ38 : Nat → Nat) (xs38 : Xs), (.int .i64 (IntKind.wrap .i64 (((1 : Nat) : Int) + ((max (T.depth l) (T.depth r) : Nat) : Int))) : Value) = .int .i64 ((1 + (max (T.depth l) (T.depth r)) : Nat) : Int)) (by kernel_rfl) (fun φ38 xs38 => congrArg (Value.int .i64) ((nat_addI (a := 1) (b := (max (T.depth l) (T.depth r))) (by omega)))), trivial⟩⟩ trivial (by kernel_rfl) ⟨?c38_3, ?c38_5, trivial⟩ ?k38
    case c38_3 =>
     refine kcast (A := ∀ (φ38 : Nat → Nat) (xs38 : Xs) (J3_38 : IM), I33.Le J3_38 → Fun Try.prog 91 #[.agg #[.bool bl, .pointer pl]] J3_38 (fun v J' => ∃ x : UX, v = .int .i64 ((T.depth l : Nat) : Int) ∧ (True))) (by kernel_rfl) ?_
     intro φ38 xs38 J3_38 leJ
     have hl := TRep.mono leJ hl
     exact Fun.mono (tdepth_c hl) (fun v J' _ h => ⟨UX.d, h, trivial⟩)
    case c38_5 =>
     refine kcast (A := ∀ (φ38 : Nat → Nat) (xs38 : Xs) (J5_38 : IM), I33.Le J5_38 → (True) → Fun Try.prog 91 #[.agg #[.bool br, .pointer pr]] J5_38 (fun v J' => ∃ x : UX, v = .int .i64 ((T.depth r : Nat) : Int) ∧ (True))) (by kernel_rfl) ?_
     intro φ38 xs38 J5_38 leJ
     rintro _
     have hr := TRep.mono leJ hr
     exact Fun.mono (tdepth_c hr) (fun v J' _ h => ⟨UX.d, h, trivial⟩)
    case k38 =>
     rintro φ38 xs38 I38 w38 le38 s _ _
     replace hl := TRep.mono le38 hl
     replace hr := TRep.mono le38 hr
     refine wp_ret ?_
     refine ret_rule (C := []) [((φ1 0), .cells #[.bool bl, .pointer pl] 26), ((φ1 1), .cells #[.bool br, .pointer pr] 26), ((φ1 2), .cells #[.bool false, .pointer (some ⟨(φ38 9), 0, none⟩)] 26), ((φ38 9), .cells #[.bool bl, .pointer pl, .bool br, .pointer pr, .int .i64 ((1 + (max (T.depth l) (T.depth r)) : Nat) : Int)] 122)] [] (.agg #[.bool false, .pointer (some ⟨(φ38 9), 0, none⟩)]) [.o 2, .o 2] [(φ1 2), (φ1 2)] s trivial (by kernel_rfl) ?_
     obtain ⟨I39, le39, hk39, s⟩ := s.freezeAt 3 (φ38 9) (.cells #[.bool bl, .pointer pl, .bool br, .pointer pr, .int .i64 ((1 + (max (T.depth l) (T.depth r)) : Nat) : Int)] 122) [((φ1 0), .cells #[.bool bl, .pointer pl] 26), ((φ1 1), .cells #[.bool br, .pointer pr] 26), ((φ1 2), .cells #[.bool false, .pointer (some ⟨(φ38 9), 0, none⟩)] 26)] (by kernel_rfl) (by kernel_rfl)
     replace hl := TRep.mono le39 hl
     replace hr := TRep.mono le39 hr
     exact ⟨_, _, _, rfl, s, ⟨_, _, rfl, by rw [mk_node (.inl hc5) (.inr hc35)]; exact ⟨rfl, _, _, _, _, _, rfl, hk39, hl, hr⟩⟩⟩
  ·
   rw [hc31]
   refine ops_rule (C := []) [((φ1 0), .cells #[.bool bl, .pointer pl] 26), ((φ1 1), .cells #[.bool br, .pointer pr] 26), ((φ1 2), .cells #[.bool false, .pointer none] 26)] [] 3 [] 0 (fun φ40 => [(17, .bool false), (16, undef), (15, undef)]) (fun φ40 => [((φ1 0), .cells #[.bool bl, .pointer pl] 26), ((φ1 1), .cells #[.bool br, .pointer pr] 26), ((φ1 2), .cells #[.bool false, .pointer none] 26)]) (fun φ40 => []) s trivial (fun φ40 => by kernel_rfl) ?_
   intro φ40 w40 s
   refine ops_done (by kernel_rfl) ?_
   refine cond_false_rule (b := false) (by kernel_rfl) rfl ?_
   refine wp_skip ?_
   refine wp_seq ?_
   refine draw_rule (C := []) ⟨(fun φ41 xs41 => [.look 0 [.o 0, .o 0] [(φ1 0), (φ1 0)], .look 0 [.o 1, .o 1] [(φ1 1), (φ1 1)], .look 0 [.o 0, .o 0] [(φ1 0), (φ1 0)], .call 91 #[.agg #[.bool bl, .pointer pl]], .look 0 [.o 1, .o 1] [(φ1 1), (φ1 1)], .call 91 #[.agg #[.bool br, .pointer pr]], .sub 0 [] [] (.int .i64 (if ((T.depth r : Nat) : Int) > ((T.depth l : Nat) : Int) then ((T.depth r : Nat) : Int) else ((T.depth l : Nat) : Int))), .sub 0 [] [] (.int .i64 (IntKind.wrap .i64 (((1 : Nat) : Int) + ((max (T.depth l) (T.depth r) : Nat) : Int)))), .look 0 [] [], .new, .look 0 [] [], .store 0 [.o 2, .o 2] [(φ1 2), (φ1 2)]]), (fun φ41 xs41 => [.agg #[.bool bl, .pointer pl], .agg #[.bool br, .pointer pr], .agg #[.bool bl, .pointer pl], .int .i64 ((T.depth l : Nat) : Int), .agg #[.bool br, .pointer pr], .int .i64 ((T.depth r : Nat) : Int), .int .i64 ((max (T.depth l) (T.depth r) : Nat) : Int), .int .i64 ((1 + (max (T.depth l) (T.depth r)) : Nat) : Int), .agg #[.bool bl, .pointer pl, .bool br, .pointer pr, .int .i64 ((1 + (max (T.depth l) (T.depth r)) : Nat) : Int)], .pointer (some ⟨(φ41 9), 0, none⟩), .agg #[.bool false, .pointer (some ⟨(φ41 9), 0, none⟩)], undef]), (fun φ41 xs41 => [[((φ1 0), .cells #[.bool bl, .pointer pl] 26), ((φ1 1), .cells #[.bool br, .pointer pr] 26), ((φ1 2), .cells #[.bool false, .pointer none] 26)], [((φ1 0), .cells #[.bool bl, .pointer pl] 26), ((φ1 1), .cells #[.bool br, .pointer pr] 26), ((φ1 2), .cells #[.bool false, .pointer (some ⟨(φ41 9), 0, none⟩)] 26)]]), (fun φ41 xs41 => [[default, default, default, default, default, default, default, default, default, .cells #[.bool bl, .pointer pl, .bool br, .pointer pr, .int .i64 ((1 + (max (T.depth l) (T.depth r)) : Nat) : Int)] 122, default, default], [default, default, default, default, default, default, default, default, default, .cells #[.bool bl, .pointer pl, .bool br, .pointer pr, .int .i64 ((1 + (max (T.depth l) (T.depth r)) : Nat) : Int)] 122, default, default]]), [11], [1, 1, 1, 3, 1, 3, 5, 5, 1, 2, 1, 4]⟩ (fun j => ([MP.any, MP.any, MP.any, MP.any, MP.any, MP.any, MP.any, MP.any, MP.any, MP.any, MP.any, MP.any] : List MP).getD j MP.any) [3, 5] [6, 7] [] (fun φ41 xs41 => [[none, none, none, none, none, none, none, none, none, none, none, none]]) (fun φ41 xs41 => [(19, .agg #[.bool bl, .pointer pl]), (20, .agg #[.bool br, .pointer pr]), (21, .agg #[.bool bl, .pointer pl]), (22, .int .i64 ((T.depth l : Nat) : Int)), (23, .agg #[.bool br, .pointer pr]), (24, .int .i64 ((T.depth r : Nat) : Int)), (25, .int .i64 ((max (T.depth l) (T.depth r) : Nat) : Int)), (26, .int .i64 ((1 + (max (T.depth l) (T.depth r)) : Nat) : Int)), (27, .agg #[.bool bl, .pointer pl, .bool br, .pointer pr, .int .i64 ((1 + (max (T.depth l) (T.depth r)) : Nat) : Int)]), (28, .pointer (some ⟨(φ41 9), 0, none⟩)), (29, .agg #[.bool false, .pointer (some ⟨(φ41 9), 0, none⟩)])]) (fun φ41 xs41 => [((φ1 0), .cells #[.bool bl, .pointer pl] 26), ((φ1 1), .cells #[.bool br, .pointer pr] 26), ((φ1 2), .cells #[.bool false, .pointer (some ⟨(φ41 9), 0, none⟩)] 26), ((φ41 9), .cells #[.bool bl, .pointer pl, .bool br, .pointer pr, .int .i64 ((1 + (max (T.depth l) (T.depth r)) : Nat) : Int)] 122)]) s trivial (by kernel_rfl) (by kernel_rfl) (fun _ _ => by kernel_rfl) (fun _ _ => by kernel_rfl) ⟨fun _ _ => by kernel_rfl, fun _ _ => by kernel_rfl, fun _ _ => by kernel_rfl, fun _ _ => by kernel_rfl⟩ (fun _ _ _ => by kernel_rfl) (fun _ _ => by kernel_rfl) (fun _ _ => by kernel_rfl) (fun _ _ => by kernel_rfl) (fun _ _ => by kernel_rfl) (fun _ _ => by kernel_rfl) ⟨kcast (A := ∀ (φ41 : Nat → Nat) (xs41 : Xs), (.int .i64 (if ((T.depth r : Nat) : Int) > ((T.depth l : Nat) : Int) then ((T.depth r : Nat) : Int) else ((T.depth l : Nat) : Int)) : Value) = .int .i64 ((max (T.depth l) (T.depth r) : Nat) : Int)) (by kernel_rfl) (fun φ41 xs41 => congrArg (Value.int .i64) ((nat_max (a := (T.depth l)) (b := (T.depth r))))), ⟨kcast (A := ∀ (φ41 : Nat → Nat) (xs41 : Xs), (.int .i64 (IntKind.wrap .i64 (((1 : Nat) : Int) + ((max (T.depth l) (T.depth r) : Nat) : Int))) : Value) = .int .i64 ((1 + (max (T.depth l) (T.depth r)) : Nat) : Int)) (by kernel_rfl) (fun φ41 xs41 => congrArg (Value.int .i64) ((nat_addI (a := 1) (b := (max (T.depth l) (T.depth r))) (by omega)))), trivial⟩⟩ trivial (by kernel_rfl) ⟨?c41_3, ?c41_5, trivial⟩ ?k41
   case c41_3 =>
    refine kcast (A := ∀ (φ41 : Nat → Nat) (xs41 : Xs) (J3_41 : IM), I29.Le J3_41 → Fun Try.prog 91 #[.agg #[.bool bl, .pointer pl]] J3_41 (fun v J' => ∃ x : UX, v = .int .i64 ((T.depth l : Nat) : Int) ∧ (True))) (by kernel_rfl) ?_
    intro φ41 xs41 J3_41 leJ
    have hl := TRep.mono leJ hl
    exact Fun.mono (tdepth_c hl) (fun v J' _ h => ⟨UX.d, h, trivial⟩)
   case c41_5 =>
    refine kcast (A := ∀ (φ41 : Nat → Nat) (xs41 : Xs) (J5_41 : IM), I29.Le J5_41 → (True) → Fun Try.prog 91 #[.agg #[.bool br, .pointer pr]] J5_41 (fun v J' => ∃ x : UX, v = .int .i64 ((T.depth r : Nat) : Int) ∧ (True))) (by kernel_rfl) ?_
    intro φ41 xs41 J5_41 leJ
    rintro _
    have hr := TRep.mono leJ hr
    exact Fun.mono (tdepth_c hr) (fun v J' _ h => ⟨UX.d, h, trivial⟩)
   case k41 =>
    rintro φ41 xs41 I41 w41 le41 s _ _
    replace hl := TRep.mono le41 hl
    replace hr := TRep.mono le41 hr
    refine wp_ret ?_
    refine ret_rule (C := []) [((φ1 0), .cells #[.bool bl, .pointer pl] 26), ((φ1 1), .cells #[.bool br, .pointer pr] 26), ((φ1 2), .cells #[.bool false, .pointer (some ⟨(φ41 9), 0, none⟩)] 26), ((φ41 9), .cells #[.bool bl, .pointer pl, .bool br, .pointer pr, .int .i64 ((1 + (max (T.depth l) (T.depth r)) : Nat) : Int)] 122)] [] (.agg #[.bool false, .pointer (some ⟨(φ41 9), 0, none⟩)]) [.o 2, .o 2] [(φ1 2), (φ1 2)] s trivial (by kernel_rfl) ?_
    obtain ⟨I42, le42, hk42, s⟩ := s.freezeAt 3 (φ41 9) (.cells #[.bool bl, .pointer pl, .bool br, .pointer pr, .int .i64 ((1 + (max (T.depth l) (T.depth r)) : Nat) : Int)] 122) [((φ1 0), .cells #[.bool bl, .pointer pl] 26), ((φ1 1), .cells #[.bool br, .pointer pr] 26), ((φ1 2), .cells #[.bool false, .pointer (some ⟨(φ41 9), 0, none⟩)] 26)] (by kernel_rfl) (by kernel_rfl)
    replace hl := TRep.mono le42 hl
    replace hr := TRep.mono le42 hr
    exact ⟨_, _, _, rfl, s, ⟨_, _, rfl, by rw [mk_node (.inl hc5) (.inl hc31)]; exact ⟨rfl, _, _, _, _, _, rfl, hk42, hl, hr⟩⟩⟩

end Go.Proofs.Ytgmigcmhnmmdkaa.Ev

/- The program's ids: cut, Split, Covers, Same, Disjoint, union, Sum, Text. -/
set_option linter.all false
set_option maxRecDepth 100000
namespace Go.Proofs.Ytgmigcmhnmmdkaa.Ev
open Go.RowKit Go.Sep

theorem T.mk_depth (l r : T) : (T.mk l r).depth ≤ 1 + max l.depth r.depth := by
  cases l <;> cases r <;> simp [T.mk, T.depth]
def cutT : T → T × T
  | .zero => (.zero, .zero)
  | .one => (T.mk .one .zero, T.mk .zero .one)
  | .node l r => if l.isZero = true then (T.mk .zero (cutT r).1, T.mk .zero (cutT r).2) else if r.isZero = true then (T.mk (cutT l).1 .zero, T.mk (cutT l).2 .zero) else (T.mk l .zero, T.mk .zero r)
def coverT : T → T → Bool
  | .one, _ => true
  | _, .zero => true
  | .zero, _ => false
  | _, .one => false
  | .node l r, .node l' r' => coverT l l' && coverT r r'
set_option maxHeartbeats 1000000 in
theorem covers_step {I : IM} {A B : T} {ba bb : Bool} {pa pb : Option Addr} (hA : TRep I A ba pa) (hB : TRep I B bb pb) (cl cr : Bool) (ihl : A.isOne = false → B.isZero = false → A.isZero = false → B.isOne = false → ∀ {J : IM} {b1 b2 : Bool} {p1 p2 : Option Addr}, TRep J A.left b1 p1 → TRep J B.left b2 p2 → Fun Try.prog 41 #[idv b1 p1, idv b2 p2] J (fun v _ => v = .bool cl)) (ihr : A.isOne = false → B.isZero = false → A.isZero = false → B.isOne = false → ∀ {J : IM} {b1 b2 : Bool} {p1 p2 : Option Addr}, TRep J A.right b1 p1 → TRep J B.right b2 p2 → Fun Try.prog 41 #[idv b1 p1, idv b2 p2] J (fun v _ => v = .bool cr)) : Fun Try.prog 41 #[idv ba pa, idv bb pb] I (fun v J => v = .bool (A.isOne || B.isZero || (!A.isZero && !B.isOne && (cl && cr)))) := by
 refine enter_rule 29 [(0, .agg #[.bool ba, .pointer pa]), (1, .agg #[.bool bb, .pointer pb])] Try.func41 rfl (by kernel_rfl) ?_
 intro w s
 refine wp_seq ?_
 refine region_rule ?_
 refine ops_rule (C := []) [] [] 3 [] 2 (fun φ1 => [(4, .bool false), (3, .pointer (some ⟨(φ1 1), 0, none⟩)), (2, .pointer (some ⟨(φ1 0), 0, none⟩))]) (fun φ1 => [((φ1 0), .cells #[.bool ba, .pointer pa] 26), ((φ1 1), .cells #[.bool bb, .pointer pb] 26)]) (fun φ1 => []) s trivial (fun φ1 => by kernel_rfl) ?_
 intro φ1 w1 s
 refine ops_done (by kernel_rfl) ?_
 refine wp_seq ?_
 refine wp_seq ?_
 refine region_rule ?_
 refine ops_rule (C := []) [((φ1 0), .cells #[.bool ba, .pointer pa] 26), ((φ1 1), .cells #[.bool bb, .pointer pb] 26)] [] 1 [.o 0, .o 0] 0 (fun φ2 => [(5, .agg #[.bool ba, .pointer pa])]) (fun φ2 => [((φ1 0), .cells #[.bool ba, .pointer pa] 26), ((φ1 1), .cells #[.bool bb, .pointer pb] 26)]) (fun φ2 => [(φ1 0), (φ1 0)]) s trivial (fun φ2 => by kernel_rfl) ?_
 intro φ2 w2 s
 refine call_rule (some 6) s (isOne_c hA) (by kernel_rfl) ?_
 intro v3 I3 w3 le3 h3 s
 replace hA := TRep.mono le3 hA
 replace hB := TRep.mono le3 hB
 obtain rfl := h3
 refine ops_rule (C := []) [((φ1 0), .cells #[.bool ba, .pointer pa] 26), ((φ1 1), .cells #[.bool bb, .pointer pb] 26)] [] 1 [] 0 (fun φ4 => [(7, .bool (T.isOne A))]) (fun φ4 => [((φ1 0), .cells #[.bool ba, .pointer pa] 26), ((φ1 1), .cells #[.bool bb, .pointer pb] 26)]) (fun φ4 => []) s trivial (fun φ4 => by kernel_rfl) ?_
 intro φ4 w4 s
 rcases Bool.eq_false_or_eq_true (T.isOne A) with hc5 | hc5
 ·
  rw [hc5]
  refine ops_rule (C := []) [((φ1 0), .cells #[.bool ba, .pointer pa] 26), ((φ1 1), .cells #[.bool bb, .pointer pb] 26)] [] 3 [] 0 (fun φ6 => [(10, .bool true), (9, undef), (8, undef)]) (fun φ6 => [((φ1 0), .cells #[.bool ba, .pointer pa] 26), ((φ1 1), .cells #[.bool bb, .pointer pb] 26)]) (fun φ6 => []) s trivial (fun φ6 => by kernel_rfl) ?_
  intro φ6 w6 s
  refine ops_done (by kernel_rfl) ?_
  refine cond_true_rule (b := true) (by kernel_rfl) rfl ?_
  refine wp_seq ?_
  refine region_rule ?_
  refine ops_rule (C := []) [((φ1 0), .cells #[.bool ba, .pointer pa] 26), ((φ1 1), .cells #[.bool bb, .pointer pb] 26)] [] 1 [] 0 (fun φ7 => [(4, .bool true)]) (fun φ7 => [((φ1 0), .cells #[.bool ba, .pointer pa] 26), ((φ1 1), .cells #[.bool bb, .pointer pb] 26)]) (fun φ7 => []) s trivial (fun φ7 => by kernel_rfl) ?_
  intro φ7 w7 s
  refine ops_done (by kernel_rfl) ?_
  refine wp_ret ?_
  refine ret_rule (C := []) [((φ1 0), .cells #[.bool ba, .pointer pa] 26), ((φ1 1), .cells #[.bool bb, .pointer pb] 26)] [] (.bool true) [] [] s trivial (by kernel_rfl) ?_
  exact ⟨_, _, _, rfl, s, (by simp [hc5])⟩
 ·
  rw [hc5]
  refine ops_rule (C := []) [((φ1 0), .cells #[.bool ba, .pointer pa] 26), ((φ1 1), .cells #[.bool bb, .pointer pb] 26)] [] 1 [.o 1, .o 1] 0 (fun φ8 => [(8, .agg #[.bool bb, .pointer pb])]) (fun φ8 => [((φ1 0), .cells #[.bool ba, .pointer pa] 26), ((φ1 1), .cells #[.bool bb, .pointer pb] 26)]) (fun φ8 => [(φ1 1), (φ1 1)]) s trivial (fun φ8 => by kernel_rfl) ?_
  intro φ8 w8 s
  refine call_rule (some 9) s (isZero_c hB) (by kernel_rfl) ?_
  intro v9 I9 w9 le9 h9 s
  replace hA := TRep.mono le9 hA
  replace hB := TRep.mono le9 hB
  obtain rfl := h9
  refine ops_rule (C := []) [((φ1 0), .cells #[.bool ba, .pointer pa] 26), ((φ1 1), .cells #[.bool bb, .pointer pb] 26)] [] 1 [] 0 (fun φ10 => [(10, .bool (T.isZero B))]) (fun φ10 => [((φ1 0), .cells #[.bool ba, .pointer pa] 26), ((φ1 1), .cells #[.bool bb, .pointer pb] 26)]) (fun φ10 => []) s trivial (fun φ10 => by kernel_rfl) ?_
  intro φ10 w10 s
  refine ops_done (by kernel_rfl) ?_
  rcases Bool.eq_false_or_eq_true (T.isZero B) with hc11 | hc11
  ·
   rw [hc11]
   refine cond_true_rule (b := true) (by kernel_rfl) rfl ?_
   refine wp_seq ?_
   refine region_rule ?_
   refine ops_rule (C := []) [((φ1 0), .cells #[.bool ba, .pointer pa] 26), ((φ1 1), .cells #[.bool bb, .pointer pb] 26)] [] 1 [] 0 (fun φ12 => [(4, .bool true)]) (fun φ12 => [((φ1 0), .cells #[.bool ba, .pointer pa] 26), ((φ1 1), .cells #[.bool bb, .pointer pb] 26)]) (fun φ12 => []) s trivial (fun φ12 => by kernel_rfl) ?_
   intro φ12 w12 s
   refine ops_done (by kernel_rfl) ?_
   refine wp_ret ?_
   refine ret_rule (C := []) [((φ1 0), .cells #[.bool ba, .pointer pa] 26), ((φ1 1), .cells #[.bool bb, .pointer pb] 26)] [] (.bool true) [] [] s trivial (by kernel_rfl) ?_
   exact ⟨_, _, _, rfl, s, (by simp [hc5, hc11])⟩
  ·
   rw [hc11]
   refine cond_false_rule (b := false) (by kernel_rfl) rfl ?_
   refine wp_skip ?_
   refine wp_seq ?_
   refine wp_seq ?_
   refine region_rule ?_
   refine ops_rule (C := []) [((φ1 0), .cells #[.bool ba, .pointer pa] 26), ((φ1 1), .cells #[.bool bb, .pointer pb] 26)] [] 1 [.o 0, .o 0] 0 (fun φ13 => [(11, .agg #[.bool ba, .pointer pa])]) (fun φ13 => [((φ1 0), .cells #[.bool ba, .pointer pa] 26), ((φ1 1), .cells #[.bool bb, .pointer pb] 26)]) (fun φ13 => [(φ1 0), (φ1 0)]) s trivial (fun φ13 => by kernel_rfl) ?_
   intro φ13 w13 s
   refine call_rule (some 12) s (isZero_c hA) (by kernel_rfl) ?_
   intro v14 I14 w14 le14 h14 s
   replace hA := TRep.mono le14 hA
   replace hB := TRep.mono le14 hB
   obtain rfl := h14
   refine ops_rule (C := []) [((φ1 0), .cells #[.bool ba, .pointer pa] 26), ((φ1 1), .cells #[.bool bb, .pointer pb] 26)] [] 1 [] 0 (fun φ15 => [(13, .bool (T.isZero A))]) (fun φ15 => [((φ1 0), .cells #[.bool ba, .pointer pa] 26), ((φ1 1), .cells #[.bool bb, .pointer pb] 26)]) (fun φ15 => []) s trivial (fun φ15 => by kernel_rfl) ?_
   intro φ15 w15 s
   rcases Bool.eq_false_or_eq_true (T.isZero A) with hc16 | hc16
   ·
    rw [hc16]
    refine ops_rule (C := []) [((φ1 0), .cells #[.bool ba, .pointer pa] 26), ((φ1 1), .cells #[.bool bb, .pointer pb] 26)] [] 3 [] 0 (fun φ17 => [(16, .bool true), (15, undef), (14, undef)]) (fun φ17 => [((φ1 0), .cells #[.bool ba, .pointer pa] 26), ((φ1 1), .cells #[.bool bb, .pointer pb] 26)]) (fun φ17 => []) s trivial (fun φ17 => by kernel_rfl) ?_
    intro φ17 w17 s
    refine ops_done (by kernel_rfl) ?_
    refine cond_true_rule (b := true) (by kernel_rfl) rfl ?_
    refine wp_seq ?_
    refine region_rule ?_
    refine ops_rule (C := []) [((φ1 0), .cells #[.bool ba, .pointer pa] 26), ((φ1 1), .cells #[.bool bb, .pointer pb] 26)] [] 1 [] 0 (fun φ18 => [(4, .bool false)]) (fun φ18 => [((φ1 0), .cells #[.bool ba, .pointer pa] 26), ((φ1 1), .cells #[.bool bb, .pointer pb] 26)]) (fun φ18 => []) s trivial (fun φ18 => by kernel_rfl) ?_
    intro φ18 w18 s
    refine ops_done (by kernel_rfl) ?_
    refine wp_ret ?_
    refine ret_rule (C := []) [((φ1 0), .cells #[.bool ba, .pointer pa] 26), ((φ1 1), .cells #[.bool bb, .pointer pb] 26)] [] (.bool false) [] [] s trivial (by kernel_rfl) ?_
    exact ⟨_, _, _, rfl, s, (by simp [hc5, hc11, hc16])⟩
   ·
    rw [hc16]
    refine ops_rule (C := []) [((φ1 0), .cells #[.bool ba, .pointer pa] 26), ((φ1 1), .cells #[.bool bb, .pointer pb] 26)] [] 1 [.o 1, .o 1] 0 (fun φ19 => [(14, .agg #[.bool bb, .pointer pb])]) (fun φ19 => [((φ1 0), .cells #[.bool ba, .pointer pa] 26), ((φ1 1), .cells #[.bool bb, .pointer pb] 26)]) (fun φ19 => [(φ1 1), (φ1 1)]) s trivial (fun φ19 => by kernel_rfl) ?_
    intro φ19 w19 s
    refine call_rule (some 15) s (isOne_c hB) (by kernel_rfl) ?_
    intro v20 I20 w20 le20 h20 s
    replace hA := TRep.mono le20 hA
    replace hB := TRep.mono le20 hB
    obtain rfl := h20
    refine ops_rule (C := []) [((φ1 0), .cells #[.bool ba, .pointer pa] 26), ((φ1 1), .cells #[.bool bb, .pointer pb] 26)] [] 1 [] 0 (fun φ21 => [(16, .bool (T.isOne B))]) (fun φ21 => [((φ1 0), .cells #[.bool ba, .pointer pa] 26), ((φ1 1), .cells #[.bool bb, .pointer pb] 26)]) (fun φ21 => []) s trivial (fun φ21 => by kernel_rfl) ?_
    intro φ21 w21 s
    refine ops_done (by kernel_rfl) ?_
    rcases Bool.eq_false_or_eq_true (T.isOne B) with hc22 | hc22
    ·
     rw [hc22]
     refine cond_true_rule (b := true) (by kernel_rfl) rfl ?_
     refine wp_seq ?_
     refine region_rule ?_
     refine ops_rule (C := []) [((φ1 0), .cells #[.bool ba, .pointer pa] 26), ((φ1 1), .cells #[.bool bb, .pointer pb] 26)] [] 1 [] 0 (fun φ23 => [(4, .bool false)]) (fun φ23 => [((φ1 0), .cells #[.bool ba, .pointer pa] 26), ((φ1 1), .cells #[.bool bb, .pointer pb] 26)]) (fun φ23 => []) s trivial (fun φ23 => by kernel_rfl) ?_
     intro φ23 w23 s
     refine ops_done (by kernel_rfl) ?_
     refine wp_ret ?_
     refine ret_rule (C := []) [((φ1 0), .cells #[.bool ba, .pointer pa] 26), ((φ1 1), .cells #[.bool bb, .pointer pb] 26)] [] (.bool false) [] [] s trivial (by kernel_rfl) ?_
     exact ⟨_, _, _, rfl, s, (by simp [hc5, hc11, hc16, hc22])⟩
    ·
     rw [hc22]
     refine cond_false_rule (b := false) (by kernel_rfl) rfl ?_
     refine wp_skip ?_
     refine wp_seq ?_
     rcases Bool.eq_false_or_eq_true (cl) with hc24 | hc24
     ·
      refine draw_rule (C := []) ⟨(fun φ25 xs25 => [.look 0 [.o 0, .o 0] [(φ1 0), (φ1 0)], .call 55 #[.agg #[.bool ba, .pointer pa]], .look 0 [.o 1, .o 1] [(φ1 1), (φ1 1)], .call 55 #[.agg #[.bool bb, .pointer pb]], .call 41 #[.agg #[.bool ((xs25 1).b 0), .pointer ((xs25 1).p 0)], .agg #[.bool ((xs25 3).b 0), .pointer ((xs25 3).p 0)]], .look 0 [] [], .look 0 [.o 0, .o 0] [(φ1 0), (φ1 0)], .call 56 #[.agg #[.bool ba, .pointer pa]], .look 0 [.o 1, .o 1] [(φ1 1), (φ1 1)], .call 56 #[.agg #[.bool bb, .pointer pb]], .call 41 #[.agg #[.bool ((xs25 7).b 0), .pointer ((xs25 7).p 0)], .agg #[.bool ((xs25 9).b 0), .pointer ((xs25 9).p 0)]], .look 0 [] [], .look 0 [] []]), (fun φ25 xs25 => [.agg #[.bool ba, .pointer pa], .agg #[.bool ((xs25 1).b 0), .pointer ((xs25 1).p 0)], .agg #[.bool bb, .pointer pb], .agg #[.bool ((xs25 3).b 0), .pointer ((xs25 3).p 0)], .bool true, .bool true, .agg #[.bool ba, .pointer pa], .agg #[.bool ((xs25 7).b 0), .pointer ((xs25 7).p 0)], .agg #[.bool bb, .pointer pb], .agg #[.bool ((xs25 9).b 0), .pointer ((xs25 9).p 0)], .bool cr, .bool cr, .bool cr]), (fun φ25 xs25 => [[((φ1 0), .cells #[.bool ba, .pointer pa] 26), ((φ1 1), .cells #[.bool bb, .pointer pb] 26)]]), (fun φ25 xs25 => [[default, default, default, default, default, default, default, default, default, default, default, default, default]]), [], [1, 3, 1, 3, 3, 1, 1, 3, 1, 3, 3, 1, 1]⟩ (fun j => ([MP.any, ⟨fun x J => TRep J (T.left A) (x.b 0) (x.p 0), fun le h => TRep.mono le h⟩, MP.any, ⟨fun x J => TRep J (T.left B) (x.b 0) (x.p 0), fun le h => TRep.mono le h⟩, MP.any, MP.any, MP.any, ⟨fun x J => TRep J (T.right A) (x.b 0) (x.p 0), fun le h => TRep.mono le h⟩, MP.any, ⟨fun x J => TRep J (T.right B) (x.b 0) (x.p 0), fun le h => TRep.mono le h⟩, MP.any, MP.any, MP.any] : List MP).getD j MP.any) [1, 3, 4, 7, 9, 10] [] [] (fun φ25 xs25 => []) (fun φ25 xs25 => [(17, .agg #[.bool ba, .pointer pa]), (18, .agg #[.bool ((xs25 1).b 0), .pointer ((xs25 1).p 0)]), (19, .agg #[.bool bb, .pointer pb]), (20, .agg #[.bool ((xs25 3).b 0), .pointer ((xs25 3).p 0)]), (21, .bool true), (22, .bool true), (23, .agg #[.bool ba, .pointer pa]), (24, .agg #[.bool ((xs25 7).b 0), .pointer ((xs25 7).p 0)]), (25, .agg #[.bool bb, .pointer pb]), (26, .agg #[.bool ((xs25 9).b 0), .pointer ((xs25 9).p 0)]), (27, .bool cr), (28, .bool cr), (4, .bool cr)]) (fun φ25 xs25 => [((φ1 0), .cells #[.bool ba, .pointer pa] 26), ((φ1 1), .cells #[.bool bb, .pointer pb] 26)]) s trivial (by kernel_rfl) (by kernel_rfl) (fun _ _ => by kernel_rfl) (fun _ _ => by kernel_rfl) ⟨fun _ _ => by kernel_rfl, fun _ _ => by kernel_rfl, fun _ _ => by kernel_rfl, fun _ _ => by kernel_rfl⟩ (fun _ _ _ => by kernel_rfl) (fun _ _ => by kernel_rfl) (fun _ _ => by kernel_rfl) (fun _ _ => by kernel_rfl) (fun _ _ => by kernel_rfl) (fun _ _ => by kernel_rfl) trivial trivial (by kernel_rfl) ⟨?c25_1, ?c25_3, ?c25_4, ?c25_7, ?c25_9, ?c25_10, trivial⟩ ?k25
      case c25_1 =>
       refine kcast (A := ∀ (φ25 : Nat → Nat) (xs25 : Xs) (J1_25 : IM), I20.Le J1_25 → Fun Try.prog 55 #[.agg #[.bool ba, .pointer pa]] J1_25 (fun v J' => ∃ x : UX, v = .agg #[.bool (x.b 0), .pointer (x.p 0)] ∧ (TRep J' (T.left A) (x.b 0) (x.p 0)))) (by kernel_rfl) ?_
       intro φ25 xs25 J1_25 leJ
       have hA := TRep.mono leJ hA
       exact Fun.mono (tleft_c hA) (fun v J' _ ⟨y0, y1, hv, g0⟩ => ⟨{ UX.d with b := fun j => y0, p := fun j => y1 }, hv, g0⟩)
      case c25_3 =>
       refine kcast (A := ∀ (φ25 : Nat → Nat) (xs25 : Xs) (J3_25 : IM), I20.Le J3_25 → (TRep J3_25 (T.left A) ((xs25 1).b 0) ((xs25 1).p 0)) → Fun Try.prog 55 #[.agg #[.bool bb, .pointer pb]] J3_25 (fun v J' => ∃ x : UX, v = .agg #[.bool (x.b 0), .pointer (x.p 0)] ∧ (TRep J' (T.left B) (x.b 0) (x.p 0)))) (by kernel_rfl) ?_
       intro φ25 xs25 J3_25 leJ
       rintro h25_1_0
       have hB := TRep.mono leJ hB
       exact Fun.mono (tleft_c hB) (fun v J' _ ⟨y0, y1, hv, g0⟩ => ⟨{ UX.d with b := fun j => y0, p := fun j => y1 }, hv, g0⟩)
      case c25_4 =>
       refine kcast (A := ∀ (φ25 : Nat → Nat) (xs25 : Xs) (J4_25 : IM), I20.Le J4_25 → (TRep J4_25 (T.left A) ((xs25 1).b 0) ((xs25 1).p 0)) → (TRep J4_25 (T.left B) ((xs25 3).b 0) ((xs25 3).p 0)) → Fun Try.prog 41 #[.agg #[.bool ((xs25 1).b 0), .pointer ((xs25 1).p 0)], .agg #[.bool ((xs25 3).b 0), .pointer ((xs25 3).p 0)]] J4_25 (fun v J' => ∃ x : UX, v = .bool true ∧ (True))) (by kernel_rfl) ?_
       intro φ25 xs25 J4_25 leJ
       rintro h25_1_0 h25_3_0
       exact Fun.mono (ihl hc5 hc11 hc16 hc22 h25_1_0 h25_3_0) (fun v J' _ h => ⟨UX.d, h.trans (congrArg Value.bool hc24), trivial⟩)
      case c25_7 =>
       refine kcast (A := ∀ (φ25 : Nat → Nat) (xs25 : Xs) (J7_25 : IM), I20.Le J7_25 → (TRep J7_25 (T.left A) ((xs25 1).b 0) ((xs25 1).p 0)) → (TRep J7_25 (T.left B) ((xs25 3).b 0) ((xs25 3).p 0)) → (True) → Fun Try.prog 56 #[.agg #[.bool ba, .pointer pa]] J7_25 (fun v J' => ∃ x : UX, v = .agg #[.bool (x.b 0), .pointer (x.p 0)] ∧ (TRep J' (T.right A) (x.b 0) (x.p 0)))) (by kernel_rfl) ?_
       intro φ25 xs25 J7_25 leJ
       rintro h25_1_0 h25_3_0 _
       have hA := TRep.mono leJ hA
       exact Fun.mono (tright_c hA) (fun v J' _ ⟨y0, y1, hv, g0⟩ => ⟨{ UX.d with b := fun j => y0, p := fun j => y1 }, hv, g0⟩)
      case c25_9 =>
       refine kcast (A := ∀ (φ25 : Nat → Nat) (xs25 : Xs) (J9_25 : IM), I20.Le J9_25 → (TRep J9_25 (T.left A) ((xs25 1).b 0) ((xs25 1).p 0)) → (TRep J9_25 (T.left B) ((xs25 3).b 0) ((xs25 3).p 0)) → (True) → (TRep J9_25 (T.right A) ((xs25 7).b 0) ((xs25 7).p 0)) → Fun Try.prog 56 #[.agg #[.bool bb, .pointer pb]] J9_25 (fun v J' => ∃ x : UX, v = .agg #[.bool (x.b 0), .pointer (x.p 0)] ∧ (TRep J' (T.right B) (x.b 0) (x.p 0)))) (by kernel_rfl) ?_
       intro φ25 xs25 J9_25 leJ
       rintro h25_1_0 h25_3_0 _ h25_7_0
       have hB := TRep.mono leJ hB
       exact Fun.mono (tright_c hB) (fun v J' _ ⟨y0, y1, hv, g0⟩ => ⟨{ UX.d with b := fun j => y0, p := fun j => y1 }, hv, g0⟩)
      case c25_10 =>
       refine kcast (A := ∀ (φ25 : Nat → Nat) (xs25 : Xs) (J10_25 : IM), I20.Le J10_25 → (TRep J10_25 (T.left A) ((xs25 1).b 0) ((xs25 1).p 0)) → (TRep J10_25 (T.left B) ((xs25 3).b 0) ((xs25 3).p 0)) → (True) → (TRep J10_25 (T.right A) ((xs25 7).b 0) ((xs25 7).p 0)) → (TRep J10_25 (T.right B) ((xs25 9).b 0) ((xs25 9).p 0)) → Fun Try.prog 41 #[.agg #[.bool ((xs25 7).b 0), .pointer ((xs25 7).p 0)], .agg #[.bool ((xs25 9).b 0), .pointer ((xs25 9).p 0)]] J10_25 (fun v J' => ∃ x : UX, v = .bool cr ∧ (True))) (by kernel_rfl) ?_
       intro φ25 xs25 J10_25 leJ
       rintro h25_1_0 h25_3_0 _ h25_7_0 h25_9_0
       exact Fun.mono (ihr hc5 hc11 hc16 hc22 h25_7_0 h25_9_0) (fun v J' _ h => ⟨UX.d, h, trivial⟩)
      case k25 =>
       rintro φ25 xs25 I25 w25 le25 s h25_1_0 h25_3_0 _ h25_7_0 h25_9_0 _
       replace hA := TRep.mono le25 hA
       replace hB := TRep.mono le25 hB
       refine wp_ret ?_
       refine ret_rule (C := []) [((φ1 0), .cells #[.bool ba, .pointer pa] 26), ((φ1 1), .cells #[.bool bb, .pointer pb] 26)] [] (.bool cr) [] [] s trivial (by kernel_rfl) ?_
       exact ⟨_, _, _, rfl, s, (by simp [hc5, hc11, hc16, hc22, hc24])⟩
     ·
      refine draw_rule (C := []) ⟨(fun φ26 xs26 => [.look 0 [.o 0, .o 0] [(φ1 0), (φ1 0)], .call 55 #[.agg #[.bool ba, .pointer pa]], .look 0 [.o 1, .o 1] [(φ1 1), (φ1 1)], .call 55 #[.agg #[.bool bb, .pointer pb]], .call 41 #[.agg #[.bool ((xs26 1).b 0), .pointer ((xs26 1).p 0)], .agg #[.bool ((xs26 3).b 0), .pointer ((xs26 3).p 0)]], .look 0 [] [], .skip, .skip, .skip, .skip, .skip, .look 0 [] [], .look 0 [] []]), (fun φ26 xs26 => [.agg #[.bool ba, .pointer pa], .agg #[.bool ((xs26 1).b 0), .pointer ((xs26 1).p 0)], .agg #[.bool bb, .pointer pb], .agg #[.bool ((xs26 3).b 0), .pointer ((xs26 3).p 0)], .bool false, .bool false, undef, undef, undef, undef, undef, .bool false, .bool false]), (fun φ26 xs26 => [[((φ1 0), .cells #[.bool ba, .pointer pa] 26), ((φ1 1), .cells #[.bool bb, .pointer pb] 26)]]), (fun φ26 xs26 => [[default, default, default, default, default, default, default, default, default, default, default, default, default]]), [], [1, 3, 1, 3, 3, 1, 0, 0, 0, 0, 0, 1, 1]⟩ (fun j => ([MP.any, ⟨fun x J => TRep J (T.left A) (x.b 0) (x.p 0), fun le h => TRep.mono le h⟩, MP.any, ⟨fun x J => TRep J (T.left B) (x.b 0) (x.p 0), fun le h => TRep.mono le h⟩, MP.any, MP.any, MP.any, MP.any, MP.any, MP.any, MP.any, MP.any, MP.any] : List MP).getD j MP.any) [1, 3, 4] [] [] (fun φ26 xs26 => []) (fun φ26 xs26 => [(17, .agg #[.bool ba, .pointer pa]), (18, .agg #[.bool ((xs26 1).b 0), .pointer ((xs26 1).p 0)]), (19, .agg #[.bool bb, .pointer pb]), (20, .agg #[.bool ((xs26 3).b 0), .pointer ((xs26 3).p 0)]), (21, .bool false), (22, .bool false), (23, undef), (24, undef), (25, undef), (26, undef), (27, undef), (28, .bool false), (4, .bool false)]) (fun φ26 xs26 => [((φ1 0), .cells #[.bool ba, .pointer pa] 26), ((φ1 1), .cells #[.bool bb, .pointer pb] 26)]) s trivial (by kernel_rfl) (by kernel_rfl) (fun _ _ => by kernel_rfl) (fun _ _ => by kernel_rfl) ⟨fun _ _ => by kernel_rfl, fun _ _ => by kernel_rfl, fun _ _ => by kernel_rfl, fun _ _ => by kernel_rfl⟩ (fun _ _ _ => by kernel_rfl) (fun _ _ => by kernel_rfl) (fun _ _ => by kernel_rfl) (fun _ _ => by kernel_rfl) (fun _ _ => by kernel_rfl) (fun _ _ => by kernel_rfl) trivial trivial (by kernel_rfl) ⟨?c26_1, ?c26_3, ?c26_4, trivial⟩ ?k26
      case c26_1 =>
       refine kcast (A := ∀ (φ26 : Nat → Nat) (xs26 : Xs) (J1_26 : IM), I20.Le J1_26 → Fun Try.prog 55 #[.agg #[.bool ba, .pointer pa]] J1_26 (fun v J' => ∃ x : UX, v = .agg #[.bool (x.b 0), .pointer (x.p 0)] ∧ (TRep J' (T.left A) (x.b 0) (x.p 0)))) (by kernel_rfl) ?_
       intro φ26 xs26 J1_26 leJ
       have hA := TRep.mono leJ hA
       exact Fun.mono (tleft_c hA) (fun v J' _ ⟨y0, y1, hv, g0⟩ => ⟨{ UX.d with b := fun j => y0, p := fun j => y1 }, hv, g0⟩)
      case c26_3 =>
       refine kcast (A := ∀ (φ26 : Nat → Nat) (xs26 : Xs) (J3_26 : IM), I20.Le J3_26 → (TRep J3_26 (T.left A) ((xs26 1).b 0) ((xs26 1).p 0)) → Fun Try.prog 55 #[.agg #[.bool bb, .pointer pb]] J3_26 (fun v J' => ∃ x : UX, v = .agg #[.bool (x.b 0), .pointer (x.p 0)] ∧ (TRep J' (T.left B) (x.b 0) (x.p 0)))) (by kernel_rfl) ?_
       intro φ26 xs26 J3_26 leJ
       rintro h26_1_0
       have hB := TRep.mono leJ hB
       exact Fun.mono (tleft_c hB) (fun v J' _ ⟨y0, y1, hv, g0⟩ => ⟨{ UX.d with b := fun j => y0, p := fun j => y1 }, hv, g0⟩)
      case c26_4 =>
       refine kcast (A := ∀ (φ26 : Nat → Nat) (xs26 : Xs) (J4_26 : IM), I20.Le J4_26 → (TRep J4_26 (T.left A) ((xs26 1).b 0) ((xs26 1).p 0)) → (TRep J4_26 (T.left B) ((xs26 3).b 0) ((xs26 3).p 0)) → Fun Try.prog 41 #[.agg #[.bool ((xs26 1).b 0), .pointer ((xs26 1).p 0)], .agg #[.bool ((xs26 3).b 0), .pointer ((xs26 3).p 0)]] J4_26 (fun v J' => ∃ x : UX, v = .bool false ∧ (True))) (by kernel_rfl) ?_
       intro φ26 xs26 J4_26 leJ
       rintro h26_1_0 h26_3_0
       exact Fun.mono (ihl hc5 hc11 hc16 hc22 h26_1_0 h26_3_0) (fun v J' _ h => ⟨UX.d, h.trans (congrArg Value.bool hc24), trivial⟩)
      case k26 =>
       rintro φ26 xs26 I26 w26 le26 s h26_1_0 h26_3_0 _
       refine wp_ret ?_
       refine ret_rule (C := []) [((φ1 0), .cells #[.bool ba, .pointer pa] 26), ((φ1 1), .cells #[.bool bb, .pointer pb] 26)] [] (.bool false) [] [] s trivial (by kernel_rfl) ?_
       exact ⟨_, _, _, rfl, s, (by simp [hc5, hc11, hc16, hc22, hc24])⟩

theorem covers_c : ∀ (A B : T) {I : IM} {ba bb : Bool} {pa pb : Option Addr}, TRep I A ba pa → TRep I B bb pb → Fun Try.prog 41 #[idv ba pa, idv bb pb] I (fun v _ => v = .bool (coverT A B))
  | .zero, B, _, _, _, _, _, hA, hB => (by cases B <;> simpa [coverT, T.isZero, T.isOne] using covers_step hA hB false false (by simp [T.isZero, T.isOne]) (by simp [T.isZero, T.isOne]))
  | .one, B, _, _, _, _, _, hA, hB => (by cases B <;> simpa [coverT, T.isZero, T.isOne] using covers_step hA hB false false (by simp [T.isZero, T.isOne]) (by simp [T.isZero, T.isOne]))
  | .node l r, .zero, _, _, _, _, _, hA, hB => (by simpa [coverT, T.isZero, T.isOne] using covers_step hA hB false false (by simp [T.isZero, T.isOne]) (by simp [T.isZero, T.isOne]))
  | .node l r, .one, _, _, _, _, _, hA, hB => (by simpa [coverT, T.isZero, T.isOne] using covers_step hA hB false false (by simp [T.isZero, T.isOne]) (by simp [T.isZero, T.isOne]))
  | .node l r, .node l' r', _, _, _, _, _, hA, hB => by
    have := covers_step hA hB (coverT l l') (coverT r r') (fun _ _ _ _ {J} {b1} {b2} {p1} {p2} k1 k2 => covers_c l l' k1 k2) (fun _ _ _ _ {J} {b1} {b2} {p1} {p2} k1 k2 => covers_c r r' k1 k2)
    simpa [coverT, T.isZero, T.isOne] using this

set_option maxHeartbeats 1000000 in
theorem idsame_c {I : IM} {A B : T} {ba bb : Bool} {pa pb : Option Addr} (hA : TRep I A ba pa) (hB : TRep I B bb pb) : Fun Try.prog 18 #[idv ba pa, idv bb pb] I (fun v J => v = .bool (coverT A B && coverT B A)) := by
 refine enter_rule 13 [(0, .agg #[.bool ba, .pointer pa]), (1, .agg #[.bool bb, .pointer pb])] Try.func18 rfl (by kernel_rfl) ?_
 intro w s
 refine wp_seq ?_
 refine region_rule ?_
 refine ops_rule (C := []) [] [] 3 [] 2 (fun φ1 => [(4, .bool false), (3, .pointer (some ⟨(φ1 1), 0, none⟩)), (2, .pointer (some ⟨(φ1 0), 0, none⟩))]) (fun φ1 => [((φ1 0), .cells #[.bool ba, .pointer pa] 26), ((φ1 1), .cells #[.bool bb, .pointer pb] 26)]) (fun φ1 => []) s trivial (fun φ1 => by kernel_rfl) ?_
 intro φ1 w1 s
 refine ops_done (by kernel_rfl) ?_
 refine wp_seq ?_
 refine region_rule ?_
 refine ops_rule (C := []) [((φ1 0), .cells #[.bool ba, .pointer pa] 26), ((φ1 1), .cells #[.bool bb, .pointer pb] 26)] [] 2 [.o 0, .o 0, .o 1, .o 1] 0 (fun φ2 => [(6, .agg #[.bool bb, .pointer pb]), (5, .agg #[.bool ba, .pointer pa])]) (fun φ2 => [((φ1 0), .cells #[.bool ba, .pointer pa] 26), ((φ1 1), .cells #[.bool bb, .pointer pb] 26)]) (fun φ2 => [(φ1 0), (φ1 0), (φ1 1), (φ1 1)]) s trivial (fun φ2 => by kernel_rfl) ?_
 intro φ2 w2 s
 refine call_rule (some 7) s (covers_c A B hA hB) (by kernel_rfl) ?_
 intro v3 I3 w3 le3 h3 s
 replace hA := TRep.mono le3 hA
 replace hB := TRep.mono le3 hB
 obtain rfl := h3
 refine ops_rule (C := []) [((φ1 0), .cells #[.bool ba, .pointer pa] 26), ((φ1 1), .cells #[.bool bb, .pointer pb] 26)] [] 1 [] 0 (fun φ4 => [(8, .bool (coverT A B))]) (fun φ4 => [((φ1 0), .cells #[.bool ba, .pointer pa] 26), ((φ1 1), .cells #[.bool bb, .pointer pb] 26)]) (fun φ4 => []) s trivial (fun φ4 => by kernel_rfl) ?_
 intro φ4 w4 s
 rcases Bool.eq_false_or_eq_true (coverT A B) with hc5 | hc5
 ·
  rw [hc5]
  refine ops_rule (C := []) [((φ1 0), .cells #[.bool ba, .pointer pa] 26), ((φ1 1), .cells #[.bool bb, .pointer pb] 26)] [] 2 [.o 1, .o 1, .o 0, .o 0] 0 (fun φ6 => [(10, .agg #[.bool ba, .pointer pa]), (9, .agg #[.bool bb, .pointer pb])]) (fun φ6 => [((φ1 0), .cells #[.bool ba, .pointer pa] 26), ((φ1 1), .cells #[.bool bb, .pointer pb] 26)]) (fun φ6 => [(φ1 1), (φ1 1), (φ1 0), (φ1 0)]) s trivial (fun φ6 => by kernel_rfl) ?_
  intro φ6 w6 s
  refine call_rule (some 11) s (covers_c B A hB hA) (by kernel_rfl) ?_
  intro v7 I7 w7 le7 h7 s
  obtain rfl := h7
  refine ops_rule (C := []) [((φ1 0), .cells #[.bool ba, .pointer pa] 26), ((φ1 1), .cells #[.bool bb, .pointer pb] 26)] [] 2 [] 0 (fun φ8 => [(4, .bool (coverT B A)), (12, .bool (coverT B A))]) (fun φ8 => [((φ1 0), .cells #[.bool ba, .pointer pa] 26), ((φ1 1), .cells #[.bool bb, .pointer pb] 26)]) (fun φ8 => []) s trivial (fun φ8 => by kernel_rfl) ?_
  intro φ8 w8 s
  refine ops_done (by kernel_rfl) ?_
  refine wp_ret ?_
  refine ret_rule (C := []) [((φ1 0), .cells #[.bool ba, .pointer pa] 26), ((φ1 1), .cells #[.bool bb, .pointer pb] 26)] [] (.bool (coverT B A)) [] [] s trivial (by kernel_rfl) ?_
  exact ⟨_, _, _, rfl, s, (by simp [hc5])⟩
 ·
  rw [hc5]
  refine ops_rule (C := []) [((φ1 0), .cells #[.bool ba, .pointer pa] 26), ((φ1 1), .cells #[.bool bb, .pointer pb] 26)] [] 5 [] 0 (fun φ9 => [(4, .bool false), (12, .bool false), (11, undef), (10, undef), (9, undef)]) (fun φ9 => [((φ1 0), .cells #[.bool ba, .pointer pa] 26), ((φ1 1), .cells #[.bool bb, .pointer pb] 26)]) (fun φ9 => []) s trivial (fun φ9 => by kernel_rfl) ?_
  intro φ9 w9 s
  refine ops_done (by kernel_rfl) ?_
  refine wp_ret ?_
  refine ret_rule (C := []) [((φ1 0), .cells #[.bool ba, .pointer pa] 26), ((φ1 1), .cells #[.bool bb, .pointer pb] 26)] [] (.bool false) [] [] s trivial (by kernel_rfl) ?_
  exact ⟨_, _, _, rfl, s, (by simp [hc5])⟩

end Go.Proofs.Ytgmigcmhnmmdkaa.Ev

