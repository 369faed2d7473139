/- The program's event trees: Node, Leq, Join, Same. -/
import Derived.Test.YtgdickihjaomjaaDoorEtE2
set_option linter.all false
set_option maxRecDepth 100000
namespace Go.Proofs.YtgdickihjaomjaaDoor
open Go.RowKit Go.Sep

def nodeR (n : Nat) (l r : E) : E × Nat :=
  if 16 ≤ max l.depth r.depth then (.leaf 0, 3) else if 1048576 < n then (.leaf 0, 4) else if 1048576 < n + max l.top r.top then (.leaf 0, 4) else (E.mk n l r, 0)
def joinF : Nat → E → E → E
  | 0, A, B => if A.top ≤ B.base then B else A
  | n + 1, A, B => if A.top ≤ B.base then B else if B.top ≤ A.base then A else
      E.mk 0 (joinF n (E.up A.base A.left) (E.up B.base B.left)) (joinF n (E.up A.base A.right) (E.up B.base B.right))
theorem E.mk_top (n : Nat) (l r : E) : (E.mk n l r).top ≤ n + max l.top r.top := by
  have h1 := E.base_le l
  have h2 := E.base_le r
  unfold E.mk
  split
  · show n + l.base ≤ _; omega
  · have key : ∀ (m : Nat) (t : E), m ≤ t.base → (E.dn m t).top + m ≤ t.top := fun m t hm => by
      cases t with
      | leaf k => simp only [E.dn, E.top, E.base] at *; omega
      | node k a b => simp only [E.dn, E.top, E.base] at *; omega
    have h3 := key (min l.base r.base) l (by omega)
    have h4 := key (min l.base r.base) r (by omega)
    show n + min l.base r.base + max (E.dn (min l.base r.base) l).top (E.dn (min l.base r.base) r).top ≤ _
    omega
theorem E.mk_depth (n : Nat) (l r : E) : (E.mk n l r).depth ≤ 1 + max l.depth r.depth := by
  unfold E.mk
  split
  · show 0 ≤ _; omega
  · show 1 + max (E.dn _ l).depth (E.dn _ r).depth ≤ _
    rw [E.dn_depth, E.dn_depth]; omega
theorem E.half_top (t : E) : (E.up t.base t.left).top ≤ t.top ∧ (E.up t.base t.right).top ≤ t.top := by
  rw [E.up_top, E.up_top]
  cases t with
  | leaf n => exact ⟨show 0 + n ≤ n by omega, show 0 + n ≤ n by omega⟩
  | node n l r => exact ⟨show l.top + n ≤ n + max l.top r.top by omega, show r.top + n ≤ n + max l.top r.top by omega⟩
theorem E.half_depth (t : E) (n : Nat) (h : t.depth ≤ n + 1) : (E.up t.base t.left).depth ≤ n ∧ (E.up t.base t.right).depth ≤ n := by
  rw [E.up_depth, E.up_depth]
  cases t with
  | leaf _ => exact ⟨Nat.zero_le _, Nat.zero_le _⟩
  | node m l r =>
    have : 1 + max l.depth r.depth ≤ n + 1 := h
    exact ⟨show l.depth ≤ n by omega, show r.depth ≤ n by omega⟩
theorem joinF_top : ∀ (n : Nat) (A B : E), (joinF n A B).top ≤ max A.top B.top
  | 0, A, B => by unfold joinF; split <;> omega
  | n + 1, A, B => by
    unfold joinF
    split
    · omega
    · split
      · omega
      · have h1 := joinF_top n (E.up A.base A.left) (E.up B.base B.left)
        have h2 := joinF_top n (E.up A.base A.right) (E.up B.base B.right)
        have h3 := E.mk_top 0 (joinF n (E.up A.base A.left) (E.up B.base B.left)) (joinF n (E.up A.base A.right) (E.up B.base B.right))
        have h4 := E.half_top A
        have h5 := E.half_top B
        omega
theorem joinF_depth : ∀ (n : Nat) (A B : E), A.depth ≤ n → B.depth ≤ n → (joinF n A B).depth ≤ n
  | 0, A, B, h1, h2 => by unfold joinF; split <;> omega
  | n + 1, A, B, h1, h2 => by
    unfold joinF
    split
    · omega
    · split
      · omega
      · have ha := E.half_depth A n h1
        have hb := E.half_depth B n h2
        have h1 := joinF_depth n (E.up A.base A.left) (E.up B.base B.left) ha.1 hb.1
        have h2 := joinF_depth n (E.up A.base A.right) (E.up B.base B.right) ha.2 hb.2
        have h3 := E.mk_depth 0 (joinF n (E.up A.base A.left) (E.up B.base B.left)) (joinF n (E.up A.base A.right) (E.up B.base B.right))
        omega

set_option maxHeartbeats 1000000 in
theorem nodeR_c {I : IM} {n : Nat} {l r : E} {bl br : Nat} {pl pr : Option Addr} (hl : ERep I l bl pl) (hr : ERep I r br pr) (htl : l.top ≤ 1048576) (htr : r.top ≤ 1048576) (hdl : l.depth ≤ 1000) (hdr : r.depth ≤ 1000) : Fun Tryd.prog 18 #[.int .u64 ((n : Nat) : Int), evv bl pl, evv br pr] I (fun v J => ∃ b p, v = .tuple #[evv b p, .int .i64 (((nodeR n l r).2 : Nat) : Int)] ∧ ERep J (nodeR n l r).1 b p) := by
  refine enter_rule 32 [(0, .int .u64 ((n : Nat) : Int)), (1, .agg #[.int .u64 ((bl : Nat) : Int), .pointer pl]), (2, .agg #[.int .u64 ((br : Nat) : Int), .pointer pr])] Tryd.func18 rfl (by kernel_rfl) ?_
  intro w s
  refine wp_seq ?_
  refine region_rule ?_
  refine ops_rule (C := []) [] [] 4 [] 3 (fun φ1 => [(7, .int .i64 0), (6, .pointer (some ⟨(φ1 2), 0, none⟩)), (5, .pointer (some ⟨(φ1 1), 0, none⟩)), (4, .pointer (some ⟨(φ1 0), 0, none⟩))]) (fun φ1 => [((φ1 0), .cells #[.int .u64 ((bl : Nat) : Int), .pointer pl] 27), ((φ1 1), .cells #[.int .u64 ((br : Nat) : Int), .pointer pr] 27), ((φ1 2), .cells #[.int .u64 0, .pointer none] 27)]) (fun φ1 => []) s trivial (fun φ1 => by kernel_rfl) ?_
  intro φ1 w1 s
  refine ops_done (by kernel_rfl) ?_
  refine wp_seq ?_
  refine wp_seq ?_
  refine draw_rule (C := []) ⟨(fun φ2 xs2 => [.look 0 [.o 0, .o 0] [(φ1 0), (φ1 0)], .call 35 #[.agg #[.int .u64 ((bl : Nat) : Int), .pointer pl]], .look 0 [.o 1, .o 1] [(φ1 1), (φ1 1)], .call 35 #[.agg #[.int .u64 ((br : Nat) : Int), .pointer pr]], .sub 0 [] [] (.int .i64 (if ((E.depth r : Nat) : Int) > ((E.depth l : Nat) : Int) then ((E.depth r : Nat) : Int) else ((E.depth l : Nat) : Int))), .sub 0 [] [] (.bool (decide (((max (E.depth l) (E.depth r) : Nat) : Int) ≥ ((16 : Nat) : Int))))]), (fun φ2 xs2 => [.agg #[.int .u64 ((bl : Nat) : Int), .pointer pl], .int .i64 ((E.depth l : Nat) : Int), .agg #[.int .u64 ((br : Nat) : Int), .pointer pr], .int .i64 ((E.depth r : Nat) : Int), .int .i64 ((max (E.depth l) (E.depth r) : Nat) : Int), .bool (decide (16 ≤ (max (E.depth l) (E.depth r))))]), (fun φ2 xs2 => [[((φ1 0), .cells #[.int .u64 ((bl : Nat) : Int), .pointer pl] 27), ((φ1 1), .cells #[.int .u64 ((br : Nat) : Int), .pointer pr] 27), ((φ1 2), .cells #[.int .u64 0, .pointer none] 27)]]), (fun φ2 xs2 => [[default, default, default, default, default, default]]), [], [1, 3, 1, 3, 5, 5]⟩ (fun j => ([MP.any, MP.any, MP.any, MP.any, MP.any, MP.any] : List MP).getD j MP.any) [1, 3] [4, 5] [] (fun φ2 xs2 => []) (fun φ2 xs2 => [(8, .agg #[.int .u64 ((bl : Nat) : Int), .pointer pl]), (9, .int .i64 ((E.depth l : Nat) : Int)), (10, .agg #[.int .u64 ((br : Nat) : Int), .pointer pr]), (11, .int .i64 ((E.depth r : Nat) : Int)), (12, .int .i64 ((max (E.depth l) (E.depth r) : Nat) : Int)), (13, .bool (decide (16 ≤ (max (E.depth l) (E.depth r)))))]) (fun φ2 xs2 => [((φ1 0), .cells #[.int .u64 ((bl : Nat) : Int), .pointer pl] 27), ((φ1 1), .cells #[.int .u64 ((br : Nat) : Int), .pointer pr] 27), ((φ1 2), .cells #[.int .u64 0, .pointer none] 27)]) s trivial (by kernel_rfl) (by kernel_rfl) (fun _ _ => by kernel_rfl) (fun _ _ => by kernel_rfl) ⟨fun _ _ => by kernel_rfl, fun _ _ => by kernel_rfl, fun _ _ => by kernel_rfl, fun _ _ => by kernel_rfl⟩ (fun _ _ _ => by kernel_rfl) (fun _ _ => by kernel_rfl) (fun _ _ => by kernel_rfl) (fun _ _ => by kernel_rfl) (fun _ _ => by kernel_rfl) (fun _ _ => by kernel_rfl) ⟨kcast (A := ∀ (φ2 : Nat → Nat) (xs2 : Xs), (.int .i64 (if ((E.depth r : Nat) : Int) > ((E.depth l : Nat) : Int) then ((E.depth r : Nat) : Int) else ((E.depth l : Nat) : Int)) : Value) = .int .i64 ((max (E.depth l) (E.depth r) : Nat) : Int)) (by kernel_rfl) (fun φ2 xs2 => congrArg (Value.int .i64) ((nat_max (a := (E.depth l)) (b := (E.depth r))))), ⟨kcast (A := ∀ (φ2 : Nat → Nat) (xs2 : Xs), (.bool (decide (((max (E.depth l) (E.depth r) : Nat) : Int) ≥ ((16 : Nat) : Int))) : Value) = .bool (decide (16 ≤ (max (E.depth l) (E.depth r))))) (by kernel_rfl) (fun φ2 xs2 => congrArg Value.bool ((nat_geq (a := (max (E.depth l) (E.depth r))) (b := 16)))), trivial⟩⟩ trivial (by kernel_rfl) ⟨?c2_1, ?c2_3, trivial⟩ ?k2
  case c2_1 =>
    refine kcast (A := ∀ (φ2 : Nat → Nat) (xs2 : Xs) (J1_2 : IM), I.Le J1_2 → Fun Tryd.prog 35 #[.agg #[.int .u64 ((bl : Nat) : Int), .pointer pl]] J1_2 (fun v J' => ∃ x : UX, v = .int .i64 ((E.depth l : Nat) : Int) ∧ (True))) (by kernel_rfl) ?_
    intro φ2 xs2 J1_2 leJ
    have hl := ERep.mono leJ hl
    exact Fun.mono (depth_c hl) (fun v J' _ h => ⟨UX.d, h, trivial⟩)
  case c2_3 =>
    refine kcast (A := ∀ (φ2 : Nat → Nat) (xs2 : Xs) (J3_2 : IM), I.Le J3_2 → (True) → Fun Tryd.prog 35 #[.agg #[.int .u64 ((br : Nat) : Int), .pointer pr]] J3_2 (fun v J' => ∃ x : UX, v = .int .i64 ((E.depth r : Nat) : Int) ∧ (True))) (by kernel_rfl) ?_
    intro φ2 xs2 J3_2 leJ
    rintro _
    have hr := ERep.mono leJ hr
    exact Fun.mono (depth_c hr) (fun v J' _ h => ⟨UX.d, h, trivial⟩)
  case k2 =>
    rintro φ2 xs2 I2 w2 le2 s _ _
    replace hl := ERep.mono le2 hl
    replace hr := ERep.mono le2 hr
    rcases Bool.eq_false_or_eq_true (decide (16 ≤ (max (E.depth l) (E.depth r)))) with hc3 | hc3
    ·
      rw [hc3]
      refine cond_true_rule (b := true) (by kernel_rfl) rfl ?_
      refine wp_seq ?_
      refine region_rule ?_
      refine ops_rule (C := []) [((φ1 0), .cells #[.int .u64 ((bl : Nat) : Int), .pointer pl] 27), ((φ1 1), .cells #[.int .u64 ((br : Nat) : Int), .pointer pr] 27), ((φ1 2), .cells #[.int .u64 0, .pointer none] 27)] [] 3 [.o 2, .o 2] 0 (fun φ4 => [(7, .int .i64 3), (14, .agg #[.int .u64 0, .pointer none])]) (fun φ4 => [((φ1 0), .cells #[.int .u64 ((bl : Nat) : Int), .pointer pl] 27), ((φ1 1), .cells #[.int .u64 ((br : Nat) : Int), .pointer pr] 27), ((φ1 2), .cells #[.int .u64 0, .pointer none] 27)]) (fun φ4 => [(φ1 2), (φ1 2)]) s trivial (fun φ4 => by kernel_rfl) ?_
      intro φ4 w4 s
      refine ops_done (by kernel_rfl) ?_
      refine wp_ret ?_
      refine ret_rule (C := []) [((φ1 0), .cells #[.int .u64 ((bl : Nat) : Int), .pointer pl] 27), ((φ1 1), .cells #[.int .u64 ((br : Nat) : Int), .pointer pr] 27), ((φ1 2), .cells #[.int .u64 0, .pointer none] 27)] [] (.tuple #[.agg #[.int .u64 0, .pointer none], .int .i64 3]) [.o 2, .o 2] [(φ1 2), (φ1 2)] s trivial (by kernel_rfl) ?_
      have hR : nodeR n l r = (E.leaf 0, 3) := by unfold nodeR; rw [if_pos (of_decide_eq_true hc3)]
      rw [hR]
      exact ⟨_, _, _, rfl, s, ⟨_, _, rfl, rfl, rfl⟩⟩
    ·
      rw [hc3]
      refine cond_false_rule (b := false) (by kernel_rfl) rfl ?_
      refine wp_skip ?_
      refine wp_seq ?_
      refine wp_seq ?_
      rcases Bool.eq_false_or_eq_true (decide (1048576 < n)) with hc5 | hc5
      ·
        refine draw_rule (C := []) ⟨(fun φ6 xs6 => [.look 0 [] [], .sub 0 [] [] (.bool (decide (((n : Nat) : Int) > ((1048576 : Nat) : Int)))), .look 0 [] [], .skip, .skip, .skip, .skip, .skip, .skip, .skip, .skip, .look 0 [] []]), (fun φ6 xs6 => [.int .u64 ((n : Nat) : Int), .bool true, .bool true, undef, undef, undef, undef, undef, undef, undef, undef, .bool true]), (fun φ6 xs6 => [[((φ1 0), .cells #[.int .u64 ((bl : Nat) : Int), .pointer pl] 27), ((φ1 1), .cells #[.int .u64 ((br : Nat) : Int), .pointer pr] 27), ((φ1 2), .cells #[.int .u64 0, .pointer none] 27)]]), (fun φ6 xs6 => [[default, default, default, default, default, default, default, default, default, default, default, default]]), [], [1, 5, 1, 0, 0, 0, 0, 0, 0, 0, 0, 1]⟩ (fun j => ([MP.any, MP.any, MP.any, MP.any, MP.any, MP.any, MP.any, MP.any, MP.any, MP.any, MP.any, MP.any] : List MP).getD j MP.any) [] [1] [] (fun φ6 xs6 => []) (fun φ6 xs6 => [(15, .int .u64 ((n : Nat) : Int)), (16, .bool true), (17, .bool true), (18, undef), (19, undef), (20, undef), (21, undef), (22, undef), (23, undef), (24, undef), (25, undef), (26, .bool true)]) (fun φ6 xs6 => [((φ1 0), .cells #[.int .u64 ((bl : Nat) : Int), .pointer pl] 27), ((φ1 1), .cells #[.int .u64 ((br : Nat) : Int), .pointer pr] 27), ((φ1 2), .cells #[.int .u64 0, .pointer none] 27)]) s trivial (by kernel_rfl) (by kernel_rfl) (fun _ _ => by kernel_rfl) (fun _ _ => by kernel_rfl) ⟨fun _ _ => by kernel_rfl, fun _ _ => by kernel_rfl, fun _ _ => by kernel_rfl, fun _ _ => by kernel_rfl⟩ (fun _ _ _ => by kernel_rfl) (fun _ _ => by kernel_rfl) (fun _ _ => by kernel_rfl) (fun _ _ => by kernel_rfl) (fun _ _ => by kernel_rfl) (fun _ _ => by kernel_rfl) ⟨kcast (A := ∀ (φ6 : Nat → Nat) (xs6 : Xs), (.bool (decide (((n : Nat) : Int) > ((1048576 : Nat) : Int))) : Value) = .bool true) (by kernel_rfl) (fun φ6 xs6 => congrArg Value.bool ((nat_gtr (a := n) (b := 1048576)).trans (hc5))), trivial⟩ trivial (by kernel_rfl) trivial ?k6
        case k6 =>
          rintro φ6 xs6 I6 w6 le6 s 
          replace hl := ERep.mono le6 hl
          replace hr := ERep.mono le6 hr
          refine cond_true_rule (b := true) (by kernel_rfl) rfl ?_
          refine wp_seq ?_
          refine region_rule ?_
          refine ops_rule (C := []) [((φ1 0), .cells #[.int .u64 ((bl : Nat) : Int), .pointer pl] 27), ((φ1 1), .cells #[.int .u64 ((br : Nat) : Int), .pointer pr] 27), ((φ1 2), .cells #[.int .u64 0, .pointer none] 27)] [] 3 [.o 2, .o 2] 0 (fun φ7 => [(7, .int .i64 4), (27, .agg #[.int .u64 0, .pointer none])]) (fun φ7 => [((φ1 0), .cells #[.int .u64 ((bl : Nat) : Int), .pointer pl] 27), ((φ1 1), .cells #[.int .u64 ((br : Nat) : Int), .pointer pr] 27), ((φ1 2), .cells #[.int .u64 0, .pointer none] 27)]) (fun φ7 => [(φ1 2), (φ1 2)]) s trivial (fun φ7 => by kernel_rfl) ?_
          intro φ7 w7 s
          refine ops_done (by kernel_rfl) ?_
          refine wp_ret ?_
          refine ret_rule (C := []) [((φ1 0), .cells #[.int .u64 ((bl : Nat) : Int), .pointer pl] 27), ((φ1 1), .cells #[.int .u64 ((br : Nat) : Int), .pointer pr] 27), ((φ1 2), .cells #[.int .u64 0, .pointer none] 27)] [] (.tuple #[.agg #[.int .u64 0, .pointer none], .int .i64 4]) [.o 2, .o 2] [(φ1 2), (φ1 2)] s trivial (by kernel_rfl) ?_
          have hR : nodeR n l r = (E.leaf 0, 4) := by unfold nodeR; rw [if_neg (of_decide_eq_false hc3), if_pos (of_decide_eq_true hc5)]
          rw [hR]
          exact ⟨_, _, _, rfl, s, ⟨_, _, rfl, rfl, rfl⟩⟩
      ·
        refine draw_rule (C := []) ⟨(fun φ8 xs8 => [.look 0 [] [], .sub 0 [] [] (.bool (decide (((n : Nat) : Int) > ((1048576 : Nat) : Int)))), .look 0 [] [], .look 0 [] [], .look 0 [.o 0, .o 0] [(φ1 0), (φ1 0)], .call 34 #[.agg #[.int .u64 ((bl : Nat) : Int), .pointer pl]], .look 0 [.o 1, .o 1] [(φ1 1), (φ1 1)], .call 34 #[.agg #[.int .u64 ((br : Nat) : Int), .pointer pr]], .sub 0 [] [] (.int .u64 (if ((E.top r : Nat) : Int) > ((E.top l : Nat) : Int) then ((E.top r : Nat) : Int) else ((E.top l : Nat) : Int))), .sub 0 [] [] (.int .u64 (IntKind.wrap .u64 (((n : Nat) : Int) + ((max (E.top l) (E.top r) : Nat) : Int)))), .sub 0 [] [] (.bool (decide (((n + (max (E.top l) (E.top r)) : Nat) : Int) > ((1048576 : Nat) : Int)))), .look 0 [] []]), (fun φ8 xs8 => [.int .u64 ((n : Nat) : Int), .bool false, .bool false, .int .u64 ((n : Nat) : Int), .agg #[.int .u64 ((bl : Nat) : Int), .pointer pl], .int .u64 ((E.top l : Nat) : Int), .agg #[.int .u64 ((br : Nat) : Int), .pointer pr], .int .u64 ((E.top r : Nat) : Int), .int .u64 ((max (E.top l) (E.top r) : Nat) : Int), .int .u64 ((n + (max (E.top l) (E.top r)) : Nat) : Int), .bool (decide (1048576 < (n + (max (E.top l) (E.top r))))), .bool (decide (1048576 < (n + (max (E.top l) (E.top r)))))]), (fun φ8 xs8 => [[((φ1 0), .cells #[.int .u64 ((bl : Nat) : Int), .pointer pl] 27), ((φ1 1), .cells #[.int .u64 ((br : Nat) : Int), .pointer pr] 27), ((φ1 2), .cells #[.int .u64 0, .pointer none] 27)]]), (fun φ8 xs8 => [[default, default, default, default, default, default, default, default, default, default, default, default]]), [], [1, 5, 1, 1, 1, 3, 1, 3, 5, 5, 5, 1]⟩ (fun j => ([MP.any, MP.any, MP.any, MP.any, MP.any, MP.any, MP.any, MP.any, MP.any, MP.any, MP.any, MP.any] : List MP).getD j MP.any) [5, 7] [1, 8, 9, 10] [] (fun φ8 xs8 => []) (fun φ8 xs8 => [(15, .int .u64 ((n : Nat) : Int)), (16, .bool false), (17, .bool false), (18, .int .u64 ((n : Nat) : Int)), (19, .agg #[.int .u64 ((bl : Nat) : Int), .pointer pl]), (20, .int .u64 ((E.top l : Nat) : Int)), (21, .agg #[.int .u64 ((br : Nat) : Int), .pointer pr]), (22, .int .u64 ((E.top r : Nat) : Int)), (23, .int .u64 ((max (E.top l) (E.top r) : Nat) : Int)), (24, .int .u64 ((n + (max (E.top l) (E.top r)) : Nat) : Int)), (25, .bool (decide (1048576 < (n + (max (E.top l) (E.top r)))))), (26, .bool (decide (1048576 < (n + (max (E.top l) (E.top r))))))]) (fun φ8 xs8 => [((φ1 0), .cells #[.int .u64 ((bl : Nat) : Int), .pointer pl] 27), ((φ1 1), .cells #[.int .u64 ((br : Nat) : Int), .pointer pr] 27), ((φ1 2), .cells #[.int .u64 0, .pointer none] 27)]) s trivial (by kernel_rfl) (by kernel_rfl) (fun _ _ => by kernel_rfl) (fun _ _ => by kernel_rfl) ⟨fun _ _ => by kernel_rfl, fun _ _ => by kernel_rfl, fun _ _ => by kernel_rfl, fun _ _ => by kernel_rfl⟩ (fun _ _ _ => by kernel_rfl) (fun _ _ => by kernel_rfl) (fun _ _ => by kernel_rfl) (fun _ _ => by kernel_rfl) (fun _ _ => by kernel_rfl) (fun _ _ => by kernel_rfl) ⟨kcast (A := ∀ (φ8 : Nat → Nat) (xs8 : Xs), (.bool (decide (((n : Nat) : Int) > ((1048576 : Nat) : Int))) : Value) = .bool false) (by kernel_rfl) (fun φ8 xs8 => congrArg Value.bool ((nat_gtr (a := n) (b := 1048576)).trans (hc5))), ⟨kcast (A := ∀ (φ8 : Nat → Nat) (xs8 : Xs), (.int .u64 (if ((E.top r : Nat) : Int) > ((E.top l : Nat) : Int) then ((E.top r : Nat) : Int) else ((E.top l : Nat) : Int)) : Value) = .int .u64 ((max (E.top l) (E.top r) : Nat) : Int)) (by kernel_rfl) (fun φ8 xs8 => congrArg (Value.int .u64) ((nat_max (a := (E.top l)) (b := (E.top r))))), ⟨kcast (A := ∀ (φ8 : Nat → Nat) (xs8 : Xs), (.int .u64 (IntKind.wrap .u64 (((n : Nat) : Int) + ((max (E.top l) (E.top r) : Nat) : Int))) : Value) = .int .u64 ((n + (max (E.top l) (E.top r)) : Nat) : Int)) (by kernel_rfl) (fun φ8 xs8 => congrArg (Value.int .u64) ((nat_addU (a := n) (b := (max (E.top l) (E.top r))) (by have := of_decide_eq_false hc5; omega)))), ⟨kcast (A := ∀ (φ8 : Nat → Nat) (xs8 : Xs), (.bool (decide (((n + (max (E.top l) (E.top r)) : Nat) : Int) > ((1048576 : Nat) : Int))) : Value) = .bool (decide (1048576 < (n + (max (E.top l) (E.top r)))))) (by kernel_rfl) (fun φ8 xs8 => congrArg Value.bool ((nat_gtr (a := (n + (max (E.top l) (E.top r)))) (b := 1048576)))), trivial⟩⟩⟩⟩ trivial (by kernel_rfl) ⟨?c8_5, ?c8_7, trivial⟩ ?k8
        case c8_5 =>
          refine kcast (A := ∀ (φ8 : Nat → Nat) (xs8 : Xs) (J5_8 : IM), I2.Le J5_8 → Fun Tryd.prog 34 #[.agg #[.int .u64 ((bl : Nat) : Int), .pointer pl]] J5_8 (fun v J' => ∃ x : UX, v = .int .u64 ((E.top l : Nat) : Int) ∧ (True))) (by kernel_rfl) ?_
          intro φ8 xs8 J5_8 leJ
          have hl := ERep.mono leJ hl
          exact Fun.mono (max_c hl (by omega)) (fun v J' _ h => ⟨UX.d, h, trivial⟩)
        case c8_7 =>
          refine kcast (A := ∀ (φ8 : Nat → Nat) (xs8 : Xs) (J7_8 : IM), I2.Le J7_8 → (True) → Fun Tryd.prog 34 #[.agg #[.int .u64 ((br : Nat) : Int), .pointer pr]] J7_8 (fun v J' => ∃ x : UX, v = .int .u64 ((E.top r : Nat) : Int) ∧ (True))) (by kernel_rfl) ?_
          intro φ8 xs8 J7_8 leJ
          rintro _
          have hr := ERep.mono leJ hr
          exact Fun.mono (max_c hr (by omega)) (fun v J' _ h => ⟨UX.d, h, trivial⟩)
        case k8 =>
          rintro φ8 xs8 I8 w8 le8 s _ _
          replace hl := ERep.mono le8 hl
          replace hr := ERep.mono le8 hr
          rcases Bool.eq_false_or_eq_true (decide (1048576 < (n + (max (E.top l) (E.top r))))) with hc9 | hc9
          ·
            rw [hc9]
            refine cond_true_rule (b := true) (by kernel_rfl) rfl ?_
            refine wp_seq ?_
            refine region_rule ?_
            refine ops_rule (C := []) [((φ1 0), .cells #[.int .u64 ((bl : Nat) : Int), .pointer pl] 27), ((φ1 1), .cells #[.int .u64 ((br : Nat) : Int), .pointer pr] 27), ((φ1 2), .cells #[.int .u64 0, .pointer none] 27)] [] 3 [.o 2, .o 2] 0 (fun φ10 => [(7, .int .i64 4), (27, .agg #[.int .u64 0, .pointer none])]) (fun φ10 => [((φ1 0), .cells #[.int .u64 ((bl : Nat) : Int), .pointer pl] 27), ((φ1 1), .cells #[.int .u64 ((br : Nat) : Int), .pointer pr] 27), ((φ1 2), .cells #[.int .u64 0, .pointer none] 27)]) (fun φ10 => [(φ1 2), (φ1 2)]) s trivial (fun φ10 => by kernel_rfl) ?_
            intro φ10 w10 s
            refine ops_done (by kernel_rfl) ?_
            refine wp_ret ?_
            refine ret_rule (C := []) [((φ1 0), .cells #[.int .u64 ((bl : Nat) : Int), .pointer pl] 27), ((φ1 1), .cells #[.int .u64 ((br : Nat) : Int), .pointer pr] 27), ((φ1 2), .cells #[.int .u64 0, .pointer none] 27)] [] (.tuple #[.agg #[.int .u64 0, .pointer none], .int .i64 4]) [.o 2, .o 2] [(φ1 2), (φ1 2)] s trivial (by kernel_rfl) ?_
            have hR : nodeR n l r = (E.leaf 0, 4) := by unfold nodeR; rw [if_neg (of_decide_eq_false hc3), if_neg (of_decide_eq_false hc5), if_pos (of_decide_eq_true hc9)]
            rw [hR]
            exact ⟨_, _, _, rfl, s, ⟨_, _, rfl, rfl, rfl⟩⟩
          ·
            rw [hc9]
            refine cond_false_rule (b := false) (by kernel_rfl) rfl ?_
            refine wp_skip ?_
            refine wp_seq ?_
            refine region_rule ?_
            refine ops_rule (C := []) [((φ1 0), .cells #[.int .u64 ((bl : Nat) : Int), .pointer pl] 27), ((φ1 1), .cells #[.int .u64 ((br : Nat) : Int), .pointer pr] 27), ((φ1 2), .cells #[.int .u64 0, .pointer none] 27)] [] 3 [.o 0, .o 0, .o 1, .o 1] 0 (fun φ11 => [(30, .agg #[.int .u64 ((br : Nat) : Int), .pointer pr]), (29, .agg #[.int .u64 ((bl : Nat) : Int), .pointer pl]), (28, .int .u64 ((n : Nat) : Int))]) (fun φ11 => [((φ1 0), .cells #[.int .u64 ((bl : Nat) : Int), .pointer pl] 27), ((φ1 1), .cells #[.int .u64 ((br : Nat) : Int), .pointer pr] 27), ((φ1 2), .cells #[.int .u64 0, .pointer none] 27)]) (fun φ11 => [(φ1 0), (φ1 0), (φ1 1), (φ1 1)]) s trivial (fun φ11 => by kernel_rfl) ?_
            intro φ11 w11 s
            refine call_rule (some 31) s (node_c (n := n) hl hr (by simp only [decide_eq_false_iff_not] at *; omega) (by simp only [decide_eq_false_iff_not] at *; omega) (by simp only [decide_eq_false_iff_not] at *; omega)) (by kernel_rfl) ?_
            intro v12 I12 w12 le12 h12 s
            replace hl := ERep.mono le12 hl
            replace hr := ERep.mono le12 hr
            obtain ⟨b12, p12, rfl, h12_0⟩ := h12
            refine ops_rule (C := []) [((φ1 0), .cells #[.int .u64 ((bl : Nat) : Int), .pointer pl] 27), ((φ1 1), .cells #[.int .u64 ((br : Nat) : Int), .pointer pr] 27), ((φ1 2), .cells #[.int .u64 0, .pointer none] 27)] [] 2 [.o 2, .o 2] 0 (fun φ13 => [(7, .int .i64 0)]) (fun φ13 => [((φ1 0), .cells #[.int .u64 ((bl : Nat) : Int), .pointer pl] 27), ((φ1 1), .cells #[.int .u64 ((br : Nat) : Int), .pointer pr] 27), ((φ1 2), .cells #[.int .u64 ((b12 : Nat) : Int), .pointer p12] 27)]) (fun φ13 => [(φ1 2), (φ1 2)]) s trivial (fun φ13 => by kernel_rfl) ?_
            intro φ13 w13 s
            refine ops_done (by kernel_rfl) ?_
            refine wp_ret ?_
            refine ret_rule (C := []) [((φ1 0), .cells #[.int .u64 ((bl : Nat) : Int), .pointer pl] 27), ((φ1 1), .cells #[.int .u64 ((br : Nat) : Int), .pointer pr] 27), ((φ1 2), .cells #[.int .u64 ((b12 : Nat) : Int), .pointer p12] 27)] [] (.tuple #[.agg #[.int .u64 ((b12 : Nat) : Int), .pointer p12], .int .i64 0]) [.o 2, .o 2] [(φ1 2), (φ1 2)] s trivial (by kernel_rfl) ?_
            have hR : nodeR n l r = (E.mk n l r, 0) := by unfold nodeR; rw [if_neg (of_decide_eq_false hc3), if_neg (of_decide_eq_false hc5), if_neg (of_decide_eq_false hc9)]
            rw [hR]
            exact ⟨_, _, _, rfl, s, ⟨_, _, rfl, h12_0⟩⟩

set_option maxHeartbeats 1000000 in
theorem join_step {I : IM} {A B : E} {ba bb : Nat} {pa pb : Option Addr} (hA : ERep I A ba pa) (hB : ERep I B bb pb) (htA : A.top < 18446744073709551616) (htB : B.top < 18446744073709551616) {JL JR : E} (htJ : max JL.top JR.top < 18446744073709551616) (hdl : JL.depth ≤ 1000) (hdr : JR.depth ≤ 1000) (ihl : ¬ A.top ≤ bb → ¬ B.top ≤ ba → ∀ {J : IM} {b1 b2 : Nat} {p1 p2 : Option Addr}, ERep J (E.up ba A.left) b1 p1 → ERep J (E.up bb B.left) b2 p2 → Fun Tryd.prog 28 #[evv b1 p1, evv b2 p2] J (fun v J => ∃ b p, v = evv b p ∧ ERep J JL b p)) (ihr : ¬ A.top ≤ bb → ¬ B.top ≤ ba → ∀ {J : IM} {b1 b2 : Nat} {p1 p2 : Option Addr}, ERep J (E.up ba A.right) b1 p1 → ERep J (E.up bb B.right) b2 p2 → Fun Tryd.prog 28 #[evv b1 p1, evv b2 p2] J (fun v J => ∃ b p, v = evv b p ∧ ERep J JR b p)) : Fun Tryd.prog 28 #[evv ba pa, evv bb pb] I (fun v J => ∃ b p, v = evv b p ∧ ERep J (if A.top ≤ bb then B else if B.top ≤ ba then A else E.mk 0 JL JR) b p) := by
  refine enter_rule 38 [(0, .agg #[.int .u64 ((ba : Nat) : Int), .pointer pa]), (1, .agg #[.int .u64 ((bb : Nat) : Int), .pointer pb])] Tryd.func28 rfl (by kernel_rfl) ?_
  intro w s
  refine wp_seq ?_
  refine region_rule ?_
  refine ops_rule (C := []) [] [] 3 [] 3 (fun φ1 => [(4, .pointer (some ⟨(φ1 2), 0, none⟩)), (3, .pointer (some ⟨(φ1 1), 0, none⟩)), (2, .pointer (some ⟨(φ1 0), 0, none⟩))]) (fun φ1 => [((φ1 0), .cells #[.int .u64 ((ba : Nat) : Int), .pointer pa] 27), ((φ1 1), .cells #[.int .u64 ((bb : Nat) : Int), .pointer pb] 27), ((φ1 2), .cells #[.int .u64 0, .pointer none] 27)]) (fun φ1 => []) s trivial (fun φ1 => by kernel_rfl) ?_
  intro φ1 w1 s
  refine ops_done (by kernel_rfl) ?_
  refine wp_seq ?_
  refine wp_seq ?_
  refine draw_rule (C := []) ⟨(fun φ2 xs2 => [.look 0 [.o 0, .o 0] [(φ1 0), (φ1 0)], .call 34 #[.agg #[.int .u64 ((ba : Nat) : Int), .pointer pa]], .look 0 [.o 1, .o 1] [(φ1 1), (φ1 1)], .call 72 #[.agg #[.int .u64 ((bb : Nat) : Int), .pointer pb]], .sub 0 [] [] (.bool (decide (((E.top A : Nat) : Int) ≤ ((bb : Nat) : Int))))]), (fun φ2 xs2 => [.agg #[.int .u64 ((ba : Nat) : Int), .pointer pa], .int .u64 ((E.top A : Nat) : Int), .agg #[.int .u64 ((bb : Nat) : Int), .pointer pb], .int .u64 ((bb : Nat) : Int), .bool (decide ((E.top A) ≤ bb))]), (fun φ2 xs2 => [[((φ1 0), .cells #[.int .u64 ((ba : Nat) : Int), .pointer pa] 27), ((φ1 1), .cells #[.int .u64 ((bb : Nat) : Int), .pointer pb] 27), ((φ1 2), .cells #[.int .u64 0, .pointer none] 27)]]), (fun φ2 xs2 => [[default, default, default, default, default]]), [], [1, 3, 1, 3, 5]⟩ (fun j => ([MP.any, MP.any, MP.any, MP.any, MP.any] : List MP).getD j MP.any) [1, 3] [4] [] (fun φ2 xs2 => []) (fun φ2 xs2 => [(9, .agg #[.int .u64 ((ba : Nat) : Int), .pointer pa]), (10, .int .u64 ((E.top A : Nat) : Int)), (11, .agg #[.int .u64 ((bb : Nat) : Int), .pointer pb]), (12, .int .u64 ((bb : Nat) : Int)), (13, .bool (decide ((E.top A) ≤ bb)))]) (fun φ2 xs2 => [((φ1 0), .cells #[.int .u64 ((ba : Nat) : Int), .pointer pa] 27), ((φ1 1), .cells #[.int .u64 ((bb : Nat) : Int), .pointer pb] 27), ((φ1 2), .cells #[.int .u64 0, .pointer none] 27)]) s trivial (by kernel_rfl) (by kernel_rfl) (fun _ _ => by kernel_rfl) (fun _ _ => by kernel_rfl) ⟨fun _ _ => by kernel_rfl, fun _ _ => by kernel_rfl, fun _ _ => by kernel_rfl, fun _ _ => by kernel_rfl⟩ (fun _ _ _ => by kernel_rfl) (fun _ _ => by kernel_rfl) (fun _ _ => by kernel_rfl) (fun _ _ => by kernel_rfl) (fun _ _ => by kernel_rfl) (fun _ _ => by kernel_rfl) ⟨kcast (A := ∀ (φ2 : Nat → Nat) (xs2 : Xs), (.bool (decide (((E.top A : Nat) : Int) ≤ ((bb : Nat) : Int))) : Value) = .bool (decide ((E.top A) ≤ bb))) (by kernel_rfl) (fun φ2 xs2 => congrArg Value.bool ((nat_leq (a := (E.top A)) (b := bb)))), trivial⟩ trivial (by kernel_rfl) ⟨?c2_1, ?c2_3, trivial⟩ ?k2
  case c2_1 =>
    refine kcast (A := ∀ (φ2 : Nat → Nat) (xs2 : Xs) (J1_2 : IM), I.Le J1_2 → Fun Tryd.prog 34 #[.agg #[.int .u64 ((ba : Nat) : Int), .pointer pa]] J1_2 (fun v J' => ∃ x : UX, v = .int .u64 ((E.top A : Nat) : Int) ∧ (True))) (by kernel_rfl) ?_
    intro φ2 xs2 J1_2 leJ
    have hA := ERep.mono leJ hA
    exact Fun.mono (max_c hA (by omega)) (fun v J' _ h => ⟨UX.d, h, trivial⟩)
  case c2_3 =>
    refine kcast (A := ∀ (φ2 : Nat → Nat) (xs2 : Xs) (J3_2 : IM), I.Le J3_2 → (True) → Fun Tryd.prog 72 #[.agg #[.int .u64 ((bb : Nat) : Int), .pointer pb]] J3_2 (fun v J' => ∃ x : UX, v = .int .u64 ((bb : Nat) : Int) ∧ (True))) (by kernel_rfl) ?_
    intro φ2 xs2 J3_2 leJ
    rintro _
    have hB := ERep.mono leJ hB
    exact Fun.mono (min_c hB) (fun v J' _ h => ⟨UX.d, h, trivial⟩)
  case k2 =>
    rintro φ2 xs2 I2 w2 le2 s _ _
    replace hA := ERep.mono le2 hA
    replace hB := ERep.mono le2 hB
    rcases Bool.eq_false_or_eq_true (decide ((E.top A) ≤ bb)) with hc3 | hc3
    ·
      rw [hc3]
      refine cond_true_rule (b := true) (by kernel_rfl) rfl ?_
      refine wp_seq ?_
      refine region_rule ?_
      refine ops_rule (C := []) [((φ1 0), .cells #[.int .u64 ((ba : Nat) : Int), .pointer pa] 27), ((φ1 1), .cells #[.int .u64 ((bb : Nat) : Int), .pointer pb] 27), ((φ1 2), .cells #[.int .u64 0, .pointer none] 27)] [] 2 [.o 1, .o 1, .o 2, .o 2] 0 (fun φ4 => [(14, .agg #[.int .u64 ((bb : Nat) : Int), .pointer pb])]) (fun φ4 => [((φ1 0), .cells #[.int .u64 ((ba : Nat) : Int), .pointer pa] 27), ((φ1 1), .cells #[.int .u64 ((bb : Nat) : Int), .pointer pb] 27), ((φ1 2), .cells #[.int .u64 ((bb : Nat) : Int), .pointer pb] 27)]) (fun φ4 => [(φ1 1), (φ1 1), (φ1 2), (φ1 2)]) s trivial (fun φ4 => by kernel_rfl) ?_
      intro φ4 w4 s
      refine ops_done (by kernel_rfl) ?_
      refine wp_ret ?_
      refine ret_rule (C := []) [((φ1 0), .cells #[.int .u64 ((ba : Nat) : Int), .pointer pa] 27), ((φ1 1), .cells #[.int .u64 ((bb : Nat) : Int), .pointer pb] 27), ((φ1 2), .cells #[.int .u64 ((bb : Nat) : Int), .pointer pb] 27)] [] (.agg #[.int .u64 ((bb : Nat) : Int), .pointer pb]) [.o 2, .o 2] [(φ1 2), (φ1 2)] s trivial (by kernel_rfl) ?_
      exact ⟨_, _, _, rfl, s, ⟨_, _, rfl, by simp only [if_pos (of_decide_eq_true hc3)]; exact hB⟩⟩
    ·
      rw [hc3]
      refine cond_false_rule (b := false) (by kernel_rfl) rfl ?_
      refine wp_skip ?_
      refine wp_seq ?_
      refine wp_seq ?_
      refine draw_rule (C := []) ⟨(fun φ5 xs5 => [.look 0 [.o 1, .o 1] [(φ1 1), (φ1 1)], .call 34 #[.agg #[.int .u64 ((bb : Nat) : Int), .pointer pb]], .look 0 [.o 0, .o 0] [(φ1 0), (φ1 0)], .call 72 #[.agg #[.int .u64 ((ba : Nat) : Int), .pointer pa]], .sub 0 [] [] (.bool (decide (((E.top B : Nat) : Int) ≤ ((ba : Nat) : Int))))]), (fun φ5 xs5 => [.agg #[.int .u64 ((bb : Nat) : Int), .pointer pb], .int .u64 ((E.top B : Nat) : Int), .agg #[.int .u64 ((ba : Nat) : Int), .pointer pa], .int .u64 ((ba : Nat) : Int), .bool (decide ((E.top B) ≤ ba))]), (fun φ5 xs5 => [[((φ1 0), .cells #[.int .u64 ((ba : Nat) : Int), .pointer pa] 27), ((φ1 1), .cells #[.int .u64 ((bb : Nat) : Int), .pointer pb] 27), ((φ1 2), .cells #[.int .u64 0, .pointer none] 27)]]), (fun φ5 xs5 => [[default, default, default, default, default]]), [], [1, 3, 1, 3, 5]⟩ (fun j => ([MP.any, MP.any, MP.any, MP.any, MP.any] : List MP).getD j MP.any) [1, 3] [4] [] (fun φ5 xs5 => []) (fun φ5 xs5 => [(15, .agg #[.int .u64 ((bb : Nat) : Int), .pointer pb]), (16, .int .u64 ((E.top B : Nat) : Int)), (17, .agg #[.int .u64 ((ba : Nat) : Int), .pointer pa]), (18, .int .u64 ((ba : Nat) : Int)), (19, .bool (decide ((E.top B) ≤ ba)))]) (fun φ5 xs5 => [((φ1 0), .cells #[.int .u64 ((ba : Nat) : Int), .pointer pa] 27), ((φ1 1), .cells #[.int .u64 ((bb : Nat) : Int), .pointer pb] 27), ((φ1 2), .cells #[.int .u64 0, .pointer none] 27)]) s trivial (by kernel_rfl) (by kernel_rfl) (fun _ _ => by kernel_rfl) (fun _ _ => by kernel_rfl) ⟨fun _ _ => by kernel_rfl, fun _ _ => by kernel_rfl, fun _ _ => by kernel_rfl, fun _ _ => by kernel_rfl⟩ (fun _ _ _ => by kernel_rfl) (fun _ _ => by kernel_rfl) (fun _ _ => by kernel_rfl) (fun _ _ => by kernel_rfl) (fun _ _ => by kernel_rfl) (fun _ _ => by kernel_rfl) ⟨kcast (A := ∀ (φ5 : Nat → Nat) (xs5 : Xs), (.bool (decide (((E.top B : Nat) : Int) ≤ ((ba : Nat) : Int))) : Value) = .bool (decide ((E.top B) ≤ ba))) (by kernel_rfl) (fun φ5 xs5 => congrArg Value.bool ((nat_leq (a := (E.top B)) (b := ba)))), trivial⟩ trivial (by kernel_rfl) ⟨?c5_1, ?c5_3, trivial⟩ ?k5
      case c5_1 =>
        refine kcast (A := ∀ (φ5 : Nat → Nat) (xs5 : Xs) (J1_5 : IM), I2.Le J1_5 → Fun Tryd.prog 34 #[.agg #[.int .u64 ((bb : Nat) : Int), .pointer pb]] J1_5 (fun v J' => ∃ x : UX, v = .int .u64 ((E.top B : Nat) : Int) ∧ (True))) (by kernel_rfl) ?_
        intro φ5 xs5 J1_5 leJ
        have hB := ERep.mono leJ hB
        exact Fun.mono (max_c hB (by omega)) (fun v J' _ h => ⟨UX.d, h, trivial⟩)
      case c5_3 =>
        refine kcast (A := ∀ (φ5 : Nat → Nat) (xs5 : Xs) (J3_5 : IM), I2.Le J3_5 → (True) → Fun Tryd.prog 72 #[.agg #[.int .u64 ((ba : Nat) : Int), .pointer pa]] J3_5 (fun v J' => ∃ x : UX, v = .int .u64 ((ba : Nat) : Int) ∧ (True))) (by kernel_rfl) ?_
        intro φ5 xs5 J3_5 leJ
        rintro _
        have hA := ERep.mono leJ hA
        exact Fun.mono (min_c hA) (fun v J' _ h => ⟨UX.d, h, trivial⟩)
      case k5 =>
        rintro φ5 xs5 I5 w5 le5 s _ _
        replace hA := ERep.mono le5 hA
        replace hB := ERep.mono le5 hB
        rcases Bool.eq_false_or_eq_true (decide ((E.top B) ≤ ba)) with hc6 | hc6
        ·
          rw [hc6]
          refine cond_true_rule (b := true) (by kernel_rfl) rfl ?_
          refine wp_seq ?_
          refine region_rule ?_
          refine ops_rule (C := []) [((φ1 0), .cells #[.int .u64 ((ba : Nat) : Int), .pointer pa] 27), ((φ1 1), .cells #[.int .u64 ((bb : Nat) : Int), .pointer pb] 27), ((φ1 2), .cells #[.int .u64 0, .pointer none] 27)] [] 2 [.o 0, .o 0, .o 2, .o 2] 0 (fun φ7 => [(20, .agg #[.int .u64 ((ba : Nat) : Int), .pointer pa])]) (fun φ7 => [((φ1 0), .cells #[.int .u64 ((ba : Nat) : Int), .pointer pa] 27), ((φ1 1), .cells #[.int .u64 ((bb : Nat) : Int), .pointer pb] 27), ((φ1 2), .cells #[.int .u64 ((ba : Nat) : Int), .pointer pa] 27)]) (fun φ7 => [(φ1 0), (φ1 0), (φ1 2), (φ1 2)]) s trivial (fun φ7 => by kernel_rfl) ?_
          intro φ7 w7 s
          refine ops_done (by kernel_rfl) ?_
          refine wp_ret ?_
          refine ret_rule (C := []) [((φ1 0), .cells #[.int .u64 ((ba : Nat) : Int), .pointer pa] 27), ((φ1 1), .cells #[.int .u64 ((bb : Nat) : Int), .pointer pb] 27), ((φ1 2), .cells #[.int .u64 ((ba : Nat) : Int), .pointer pa] 27)] [] (.agg #[.int .u64 ((ba : Nat) : Int), .pointer pa]) [.o 2, .o 2] [(φ1 2), (φ1 2)] s trivial (by kernel_rfl) ?_
          exact ⟨_, _, _, rfl, s, ⟨_, _, rfl, by simp only [if_neg (of_decide_eq_false hc3), if_pos (of_decide_eq_true hc6)]; exact hA⟩⟩
        ·
          rw [hc6]
          refine cond_false_rule (b := false) (by kernel_rfl) rfl ?_
          refine wp_skip ?_
          refine wp_seq ?_
          refine region_rule ?_
          refine ops_rule (C := []) [((φ1 0), .cells #[.int .u64 ((ba : Nat) : Int), .pointer pa] 27), ((φ1 1), .cells #[.int .u64 ((bb : Nat) : Int), .pointer pb] 27), ((φ1 2), .cells #[.int .u64 0, .pointer none] 27)] [] 1 [.o 0, .o 0] 0 (fun φ8 => [(22, .agg #[.int .u64 ((ba : Nat) : Int), .pointer pa])]) (fun φ8 => [((φ1 0), .cells #[.int .u64 ((ba : Nat) : Int), .pointer pa] 27), ((φ1 1), .cells #[.int .u64 ((bb : Nat) : Int), .pointer pb] 27), ((φ1 2), .cells #[.int .u64 0, .pointer none] 27)]) (fun φ8 => [(φ1 0), (φ1 0)]) s trivial (fun φ8 => by kernel_rfl) ?_
          intro φ8 w8 s
          refine call_rule (some 23) s (whole_c hA (by omega)) (by kernel_rfl) ?_
          intro v9 I9 w9 le9 h9 s
          replace hA := ERep.mono le9 hA
          replace hB := ERep.mono le9 hB
          obtain ⟨b9, p9, d9, q9, rfl, h9_0, h9_1⟩ := h9
          refine ops_rule (C := []) [((φ1 0), .cells #[.int .u64 ((ba : Nat) : Int), .pointer pa] 27), ((φ1 1), .cells #[.int .u64 ((bb : Nat) : Int), .pointer pb] 27), ((φ1 2), .cells #[.int .u64 0, .pointer none] 27)] [] 7 [.o 3, .o 3, .o 4, .o 4] 2 (fun φ10 => [(6, .pointer (some ⟨(φ10 1), 0, none⟩)), (5, .pointer (some ⟨(φ10 0), 0, none⟩)), (25, .agg #[.int .u64 ((d9 : Nat) : Int), .pointer q9]), (24, .agg #[.int .u64 ((b9 : Nat) : Int), .pointer p9]), (21, .tuple #[.agg #[.int .u64 ((b9 : Nat) : Int), .pointer p9], .agg #[.int .u64 ((d9 : Nat) : Int), .pointer q9]])]) (fun φ10 => [((φ1 0), .cells #[.int .u64 ((ba : Nat) : Int), .pointer pa] 27), ((φ1 1), .cells #[.int .u64 ((bb : Nat) : Int), .pointer pb] 27), ((φ1 2), .cells #[.int .u64 0, .pointer none] 27), ((φ10 0), .cells #[.int .u64 ((b9 : Nat) : Int), .pointer p9] 27), ((φ10 1), .cells #[.int .u64 ((d9 : Nat) : Int), .pointer q9] 27)]) (fun φ10 => [(φ10 0), (φ10 0), (φ10 1), (φ10 1)]) s trivial (fun φ10 => by kernel_rfl) ?_
          intro φ10 w10 s
          refine ops_done (by kernel_rfl) ?_
          refine wp_seq ?_
          refine region_rule ?_
          refine ops_rule (C := []) [((φ1 0), .cells #[.int .u64 ((ba : Nat) : Int), .pointer pa] 27), ((φ1 1), .cells #[.int .u64 ((bb : Nat) : Int), .pointer pb] 27), ((φ1 2), .cells #[.int .u64 0, .pointer none] 27), ((φ10 0), .cells #[.int .u64 ((b9 : Nat) : Int), .pointer p9] 27), ((φ10 1), .cells #[.int .u64 ((d9 : Nat) : Int), .pointer q9] 27)] [] 1 [.o 1, .o 1] 0 (fun φ11 => [(27, .agg #[.int .u64 ((bb : Nat) : Int), .pointer pb])]) (fun φ11 => [((φ1 0), .cells #[.int .u64 ((ba : Nat) : Int), .pointer pa] 27), ((φ1 1), .cells #[.int .u64 ((bb : Nat) : Int), .pointer pb] 27), ((φ1 2), .cells #[.int .u64 0, .pointer none] 27), ((φ10 0), .cells #[.int .u64 ((b9 : Nat) : Int), .pointer p9] 27), ((φ10 1), .cells #[.int .u64 ((d9 : Nat) : Int), .pointer q9] 27)]) (fun φ11 => [(φ1 1), (φ1 1)]) s trivial (fun φ11 => by kernel_rfl) ?_
          intro φ11 w11 s
          refine call_rule (some 28) s (whole_c hB (by omega)) (by kernel_rfl) ?_
          intro v12 I12 w12 le12 h12 s
          replace hA := ERep.mono le12 hA
          replace hB := ERep.mono le12 hB
          replace h9_0 := ERep.mono le12 h9_0
          replace h9_1 := ERep.mono le12 h9_1
          obtain ⟨b12, p12, d12, q12, rfl, h12_0, h12_1⟩ := h12
          refine ops_rule (C := []) [((φ1 0), .cells #[.int .u64 ((ba : Nat) : Int), .pointer pa] 27), ((φ1 1), .cells #[.int .u64 ((bb : Nat) : Int), .pointer pb] 27), ((φ1 2), .cells #[.int .u64 0, .pointer none] 27), ((φ10 0), .cells #[.int .u64 ((b9 : Nat) : Int), .pointer p9] 27), ((φ10 1), .cells #[.int .u64 ((d9 : Nat) : Int), .pointer q9] 27)] [] 7 [.o 5, .o 5, .o 6, .o 6] 2 (fun φ13 => [(8, .pointer (some ⟨(φ13 1), 0, none⟩)), (7, .pointer (some ⟨(φ13 0), 0, none⟩)), (30, .agg #[.int .u64 ((d12 : Nat) : Int), .pointer q12]), (29, .agg #[.int .u64 ((b12 : Nat) : Int), .pointer p12]), (26, .tuple #[.agg #[.int .u64 ((b12 : Nat) : Int), .pointer p12], .agg #[.int .u64 ((d12 : Nat) : Int), .pointer q12]])]) (fun φ13 => [((φ1 0), .cells #[.int .u64 ((ba : Nat) : Int), .pointer pa] 27), ((φ1 1), .cells #[.int .u64 ((bb : Nat) : Int), .pointer pb] 27), ((φ1 2), .cells #[.int .u64 0, .pointer none] 27), ((φ10 0), .cells #[.int .u64 ((b9 : Nat) : Int), .pointer p9] 27), ((φ10 1), .cells #[.int .u64 ((d9 : Nat) : Int), .pointer q9] 27), ((φ13 0), .cells #[.int .u64 ((b12 : Nat) : Int), .pointer p12] 27), ((φ13 1), .cells #[.int .u64 ((d12 : Nat) : Int), .pointer q12] 27)]) (fun φ13 => [(φ13 0), (φ13 0), (φ13 1), (φ13 1)]) s trivial (fun φ13 => by kernel_rfl) ?_
          intro φ13 w13 s
          refine ops_done (by kernel_rfl) ?_
          refine wp_seq ?_
          refine draw_rule (C := []) ⟨(fun φ14 xs14 => [.look 0 [.o 3, .o 3] [(φ10 0), (φ10 0)], .look 0 [.o 5, .o 5] [(φ13 0), (φ13 0)], .call 28 #[.agg #[.int .u64 ((b9 : Nat) : Int), .pointer p9], .agg #[.int .u64 ((b12 : Nat) : Int), .pointer p12]], .look 0 [.o 4, .o 4] [(φ10 1), (φ10 1)], .look 0 [.o 6, .o 6] [(φ13 1), (φ13 1)], .call 28 #[.agg #[.int .u64 ((d9 : Nat) : Int), .pointer q9], .agg #[.int .u64 ((d12 : Nat) : Int), .pointer q12]], .call 70 #[.int .u64 0, .agg #[.int .u64 (((xs14 2).n 0 : Nat) : Int), .pointer ((xs14 2).p 0)], .agg #[.int .u64 (((xs14 5).n 0 : Nat) : Int), .pointer ((xs14 5).p 0)]], .store 0 [.o 2, .o 2] [(φ1 2), (φ1 2)]]), (fun φ14 xs14 => [.agg #[.int .u64 ((b9 : Nat) : Int), .pointer p9], .agg #[.int .u64 ((b12 : Nat) : Int), .pointer p12], .agg #[.int .u64 (((xs14 2).n 0 : Nat) : Int), .pointer ((xs14 2).p 0)], .agg #[.int .u64 ((d9 : Nat) : Int), .pointer q9], .agg #[.int .u64 ((d12 : Nat) : Int), .pointer q12], .agg #[.int .u64 (((xs14 5).n 0 : Nat) : Int), .pointer ((xs14 5).p 0)], .agg #[.int .u64 (((xs14 6).n 0 : Nat) : Int), .pointer ((xs14 6).p 0)], undef]), (fun φ14 xs14 => [[((φ1 0), .cells #[.int .u64 ((ba : Nat) : Int), .pointer pa] 27), ((φ1 1), .cells #[.int .u64 ((bb : Nat) : Int), .pointer pb] 27), ((φ1 2), .cells #[.int .u64 0, .pointer none] 27), ((φ10 0), .cells #[.int .u64 ((b9 : Nat) : Int), .pointer p9] 27), ((φ10 1), .cells #[.int .u64 ((d9 : Nat) : Int), .pointer q9] 27), ((φ13 0), .cells #[.int .u64 ((b12 : Nat) : Int), .pointer p12] 27), ((φ13 1), .cells #[.int .u64 ((d12 : Nat) : Int), .pointer q12] 27)], [((φ1 0), .cells #[.int .u64 ((ba : Nat) : Int), .pointer pa] 27), ((φ1 1), .cells #[.int .u64 ((bb : Nat) : Int), .pointer pb] 27), ((φ1 2), .cells #[.int .u64 (((xs14 6).n 0 : Nat) : Int), .pointer ((xs14 6).p 0)] 27), ((φ10 0), .cells #[.int .u64 ((b9 : Nat) : Int), .pointer p9] 27), ((φ10 1), .cells #[.int .u64 ((d9 : Nat) : Int), .pointer q9] 27), ((φ13 0), .cells #[.int .u64 ((b12 : Nat) : Int), .pointer p12] 27), ((φ13 1), .cells #[.int .u64 ((d12 : Nat) : Int), .pointer q12] 27)]]), (fun φ14 xs14 => [[default, default, default, default, default, default, default, default], [default, default, default, default, default, default, default, default]]), [7], [1, 1, 3, 1, 1, 3, 3, 4]⟩ (fun j => ([MP.any, MP.any, ⟨fun x J => ERep J JL (x.n 0) (x.p 0), fun le h => ERep.mono le h⟩, MP.any, MP.any, ⟨fun x J => ERep J JR (x.n 0) (x.p 0), fun le h => ERep.mono le h⟩, ⟨fun x J => ERep J (E.mk 0 JL JR) (x.n 0) (x.p 0), fun le h => ERep.mono le h⟩, MP.any] : List MP).getD j MP.any) [2, 5, 6] [] [] (fun φ14 xs14 => [[none, none, none, none, none, none, none, none]]) (fun φ14 xs14 => [(31, .agg #[.int .u64 ((b9 : Nat) : Int), .pointer p9]), (32, .agg #[.int .u64 ((b12 : Nat) : Int), .pointer p12]), (33, .agg #[.int .u64 (((xs14 2).n 0 : Nat) : Int), .pointer ((xs14 2).p 0)]), (34, .agg #[.int .u64 ((d9 : Nat) : Int), .pointer q9]), (35, .agg #[.int .u64 ((d12 : Nat) : Int), .pointer q12]), (36, .agg #[.int .u64 (((xs14 5).n 0 : Nat) : Int), .pointer ((xs14 5).p 0)]), (37, .agg #[.int .u64 (((xs14 6).n 0 : Nat) : Int), .pointer ((xs14 6).p 0)])]) (fun φ14 xs14 => [((φ1 0), .cells #[.int .u64 ((ba : Nat) : Int), .pointer pa] 27), ((φ1 1), .cells #[.int .u64 ((bb : Nat) : Int), .pointer pb] 27), ((φ1 2), .cells #[.int .u64 (((xs14 6).n 0 : Nat) : Int), .pointer ((xs14 6).p 0)] 27), ((φ10 0), .cells #[.int .u64 ((b9 : Nat) : Int), .pointer p9] 27), ((φ10 1), .cells #[.int .u64 ((d9 : Nat) : Int), .pointer q9] 27), ((φ13 0), .cells #[.int .u64 ((b12 : Nat) : Int), .pointer p12] 27), ((φ13 1), .cells #[.int .u64 ((d12 : Nat) : Int), .pointer q12] 27)]) s trivial (by kernel_rfl) (by kernel_rfl) (fun _ _ => by kernel_rfl) (fun _ _ => by kernel_rfl) ⟨fun _ _ => by kernel_rfl, fun _ _ => by kernel_rfl, fun _ _ => by kernel_rfl, fun _ _ => by kernel_rfl⟩ (fun _ _ _ => by kernel_rfl) (fun _ _ => by kernel_rfl) (fun _ _ => by kernel_rfl) (fun _ _ => by kernel_rfl) (fun _ _ => by kernel_rfl) (fun _ _ => by kernel_rfl) trivial trivial (by kernel_rfl) ⟨?c14_2, ?c14_5, ?c14_6, trivial⟩ ?k14
          case c14_2 =>
            refine kcast (A := ∀ (φ14 : Nat → Nat) (xs14 : Xs) (J2_14 : IM), I12.Le J2_14 → Fun Tryd.prog 28 #[.agg #[.int .u64 ((b9 : Nat) : Int), .pointer p9], .agg #[.int .u64 ((b12 : Nat) : Int), .pointer p12]] J2_14 (fun v J' => ∃ x : UX, v = .agg #[.int .u64 ((x.n 0 : Nat) : Int), .pointer (x.p 0)] ∧ (ERep J' JL (x.n 0) (x.p 0)))) (by kernel_rfl) ?_
            intro φ14 xs14 J2_14 leJ
            have h9_0 := ERep.mono leJ h9_0
            have h12_0 := ERep.mono leJ h12_0
            exact Fun.mono (ihl (of_decide_eq_false hc3) (of_decide_eq_false hc6) h9_0 h12_0) (fun v J' _ ⟨y0, y1, hv, g0⟩ => ⟨{ UX.d with n := fun j => y0, p := fun j => y1 }, hv, g0⟩)
          case c14_5 =>
            refine kcast (A := ∀ (φ14 : Nat → Nat) (xs14 : Xs) (J5_14 : IM), I12.Le J5_14 → (ERep J5_14 JL ((xs14 2).n 0) ((xs14 2).p 0)) → Fun Tryd.prog 28 #[.agg #[.int .u64 ((d9 : Nat) : Int), .pointer q9], .agg #[.int .u64 ((d12 : Nat) : Int), .pointer q12]] J5_14 (fun v J' => ∃ x : UX, v = .agg #[.int .u64 ((x.n 0 : Nat) : Int), .pointer (x.p 0)] ∧ (ERep J' JR (x.n 0) (x.p 0)))) (by kernel_rfl) ?_
            intro φ14 xs14 J5_14 leJ
            rintro h14_2_0
            have h9_1 := ERep.mono leJ h9_1
            have h12_1 := ERep.mono leJ h12_1
            exact Fun.mono (ihr (of_decide_eq_false hc3) (of_decide_eq_false hc6) h9_1 h12_1) (fun v J' _ ⟨y0, y1, hv, g0⟩ => ⟨{ UX.d with n := fun j => y0, p := fun j => y1 }, hv, g0⟩)
          case c14_6 =>
            refine kcast (A := ∀ (φ14 : Nat → Nat) (xs14 : Xs) (J6_14 : IM), I12.Le J6_14 → (ERep J6_14 JL ((xs14 2).n 0) ((xs14 2).p 0)) → (ERep J6_14 JR ((xs14 5).n 0) ((xs14 5).p 0)) → Fun Tryd.prog 70 #[.int .u64 0, .agg #[.int .u64 (((xs14 2).n 0 : Nat) : Int), .pointer ((xs14 2).p 0)], .agg #[.int .u64 (((xs14 5).n 0 : Nat) : Int), .pointer ((xs14 5).p 0)]] J6_14 (fun v J' => ∃ x : UX, v = .agg #[.int .u64 ((x.n 0 : Nat) : Int), .pointer (x.p 0)] ∧ (ERep J' (E.mk 0 JL JR) (x.n 0) (x.p 0)))) (by kernel_rfl) ?_
            intro φ14 xs14 J6_14 leJ
            rintro h14_2_0 h14_5_0
            exact Fun.mono (node_c (n := 0) h14_2_0 h14_5_0 (by omega) (by omega) (by omega)) (fun v J' _ ⟨y0, y1, hv, g0⟩ => ⟨{ UX.d with n := fun j => y0, p := fun j => y1 }, hv, g0⟩)
          case k14 =>
            rintro φ14 xs14 I14 w14 le14 s h14_2_0 h14_5_0 h14_6_0
            replace hA := ERep.mono le14 hA
            replace hB := ERep.mono le14 hB
            replace h9_0 := ERep.mono le14 h9_0
            replace h9_1 := ERep.mono le14 h9_1
            replace h12_0 := ERep.mono le14 h12_0
            replace h12_1 := ERep.mono le14 h12_1
            refine wp_ret ?_
            refine ret_rule (C := []) [((φ1 0), .cells #[.int .u64 ((ba : Nat) : Int), .pointer pa] 27), ((φ1 1), .cells #[.int .u64 ((bb : Nat) : Int), .pointer pb] 27), ((φ1 2), .cells #[.int .u64 (((xs14 6).n 0 : Nat) : Int), .pointer ((xs14 6).p 0)] 27), ((φ10 0), .cells #[.int .u64 ((b9 : Nat) : Int), .pointer p9] 27), ((φ10 1), .cells #[.int .u64 ((d9 : Nat) : Int), .pointer q9] 27), ((φ13 0), .cells #[.int .u64 ((b12 : Nat) : Int), .pointer p12] 27), ((φ13 1), .cells #[.int .u64 ((d12 : Nat) : Int), .pointer q12] 27)] [] (.agg #[.int .u64 (((xs14 6).n 0 : Nat) : Int), .pointer ((xs14 6).p 0)]) [.o 2, .o 2] [(φ1 2), (φ1 2)] s trivial (by kernel_rfl) ?_
            exact ⟨_, _, _, rfl, s, ⟨_, _, rfl, by simp only [if_neg (of_decide_eq_false hc3), if_neg (of_decide_eq_false hc6)]; exact h14_6_0⟩⟩

theorem joinF_c : ∀ (n : Nat) {I : IM} {A B : E} {ba bb : Nat} {pa pb : Option Addr}, n ≤ 900 → A.depth ≤ n → B.depth ≤ n → A.top < 18446744073709551616 → B.top < 18446744073709551616 → ERep I A ba pa → ERep I B bb pb →
    Fun Tryd.prog 28 #[evv ba pa, evv bb pb] I (fun v J => ∃ b p, v = evv b p ∧ ERep J (joinF n A B) b p)
  | 0, I, A, B, ba, bb, pa, pb, hn, hdA, hdB, htA, htB, hA, hB => by
    have hlf : ∀ t : E, t.depth ≤ 0 → t.top = t.base := fun t ht => by
      cases t with
      | leaf _ => rfl
      | node _ _ _ => have : 1 + max _ _ ≤ 0 := ht; omega
    have e1 := ERep.base hA
    have e2 := ERep.base hB
    have e3 := hlf A hdA
    have e4 := hlf B hdB
    have := join_step (JL := .leaf 0) (JR := .leaf 0) hA hB htA htB (by decide) (by decide) (by decide) (fun h1 h2 => by omega) (fun h1 h2 => by omega)
    refine this.mono fun v J _ h => ?_
    obtain ⟨b, p, hv, hr⟩ := h
    refine ⟨b, p, hv, ?_⟩
    unfold joinF
    rw [← e2]
    split
    · rename_i h; rw [if_pos h] at hr; exact hr
    · rename_i h; rw [if_neg h, if_pos (by omega)] at hr; exact hr
  | n + 1, I, A, B, ba, bb, pa, pb, hn, hdA, hdB, htA, htB, hA, hB => by
    have e1 := ERep.base hA
    have e2 := ERep.base hB
    subst e1 e2
    have ha := E.half_depth A n hdA
    have hb := E.half_depth B n hdB
    have h4 := E.half_top A
    have h5 := E.half_top B
    have j1 := joinF_top n (E.up A.base A.left) (E.up B.base B.left)
    have j2 := joinF_top n (E.up A.base A.right) (E.up B.base B.right)
    have d1 := joinF_depth n _ _ ha.1 hb.1
    have d2 := joinF_depth n _ _ ha.2 hb.2
    exact join_step hA hB htA htB (by omega) (by omega) (by omega) (fun _ _ {J} {b1} {b2} {p1} {p2} k1 k2 => joinF_c n (by omega) ha.1 hb.1 (by omega) (by omega) k1 k2) (fun _ _ {J} {b1} {b2} {p1} {p2} k1 k2 => joinF_c n (by omega) ha.2 hb.2 (by omega) (by omega) k1 k2)

end Go.Proofs.YtgdickihjaomjaaDoor
