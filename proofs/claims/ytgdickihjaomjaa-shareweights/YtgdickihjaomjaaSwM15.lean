/- The program's event trees: lift, whole, Leaf, node, Node, Leq, Join, Same. -/
import Derived.Test.YtgdickihjaomjaaSwM14
set_option linter.all false
set_option maxRecDepth 100000
namespace Go.Proofs.Ytgdickihjaomjaa.Ev
open Go.RowKit Go.Sep

def E.up (n : Nat) : E → E
  | .leaf m => .leaf (m + n)
  | .node m l r => .node (m + n) l r
def E.dn (n : Nat) : E → E
  | .leaf m => .leaf (m - n)
  | .node m l r => .node (m - n) l r
theorem ERep.up {I : IM} (n : Nat) : ∀ {t : E} {b : Nat} {p : Option Addr}, ERep I t b p → ERep I (E.up n t) (b + n) p
  | .leaf _, _, _, h => ⟨by rw [h.1], h.2⟩
  | .node _ _ _, _, _, ⟨hb, k, bl, pl, br, pr, hp, hk, hl, hr⟩ => ⟨by rw [hb], k, bl, pl, br, pr, hp, hk, hl, hr⟩
theorem ERep.dn {I : IM} (n : Nat) : ∀ {t : E} {b : Nat} {p : Option Addr}, ERep I t b p → ERep I (E.dn n t) (b - n) p
  | .leaf _, _, _, h => ⟨by rw [h.1], h.2⟩
  | .node _ _ _, _, _, ⟨hb, k, bl, pl, br, pr, hp, hk, hl, hr⟩ => ⟨by rw [hb], k, bl, pl, br, pr, hp, hk, hl, hr⟩
theorem E.base_le : ∀ t : E, t.base ≤ t.top
  | .leaf _ => Nat.le_refl _
  | .node _ _ _ => by simp only [E.base, E.top]; omega
theorem E.dn_top (n : Nat) : ∀ t : E, (E.dn n t).top ≤ t.top
  | .leaf _ => by simp only [E.dn, E.top]; omega
  | .node _ _ _ => by simp only [E.dn, E.top]; omega
theorem E.dn_depth (n : Nat) : ∀ t : E, (E.dn n t).depth = t.depth
  | .leaf _ => rfl
  | .node _ _ _ => rfl
theorem E.up_top (n : Nat) : ∀ t : E, (E.up n t).top = t.top + n
  | .leaf _ => rfl
  | .node _ _ _ => by simp only [E.up, E.top]; omega
theorem E.up_depth (n : Nat) : ∀ t : E, (E.up n t).depth = t.depth
  | .leaf _ => rfl
  | .node _ _ _ => rfl
def E.mk (n : Nat) (l r : E) : E := if l.isLeaf = true ∧ r.isLeaf = true ∧ l.base = r.base then .leaf (n + l.base) else
  .node (n + min l.base r.base) (E.dn (min l.base r.base) l) (E.dn (min l.base r.base) r)

set_option maxHeartbeats 400000 in
theorem leafOk_c {I : IM} {n : Nat} (hn : n ≤ 1048576) : Fun Try.prog 48 #[.int .u64 ((n : Nat) : Int)] I (fun v J => v = .tuple #[evv n none, .int .i64 0]) := by
  refine enter_rule 9 [(0, .int .u64 ((n : Nat) : Int))] Try.func48 rfl (by kernel_rfl) ?_
  intro w s
  refine wp_seq ?_
  refine region_rule ?_
  refine ops_rule (C := []) [] [] 2 [] 1 (fun φ1 => [(3, .int .i64 0), (2, .pointer (some ⟨(φ1 0), 0, none⟩))]) (fun φ1 => [((φ1 0), .cells #[.int .u64 0, .pointer none] 57)]) (fun φ1 => []) s trivial (fun φ1 => by kernel_rfl) ?_
  intro φ1 w1 s
  refine ops_done (by kernel_rfl) ?_
  refine wp_seq ?_
  refine wp_seq ?_
  refine region_rule ?_
  refine ops_rule (C := []) [((φ1 0), .cells #[.int .u64 0, .pointer none] 57)] [] 2 [] 0 (fun φ2 => [(5, .bool (decide (((n : Nat) : Int) > ((1048576 : Nat) : Int)))), (4, .int .u64 ((n : Nat) : Int))]) (fun φ2 => [((φ1 0), .cells #[.int .u64 0, .pointer none] 57)]) (fun φ2 => []) s trivial (fun φ2 => by kernel_rfl) ?_
  intro φ2 w2 s
  rw [nat_gtr (a := n) (b := 1048576)]
  refine ops_done (by kernel_rfl) ?_
  rcases Bool.eq_false_or_eq_true (decide (1048576 < n)) with hc3 | hc3
  ·
    simp at hc3; omega
  ·
    rw [hc3]
    refine cond_false_rule (b := false) (by kernel_rfl) rfl ?_
    refine wp_skip ?_
    refine wp_seq ?_
    refine region_rule ?_
    refine ops_rule (C := []) [((φ1 0), .cells #[.int .u64 0, .pointer none] 57)] [] 4 [.o 0, .o 0] 0 (fun φ4 => [(3, .int .i64 0), (8, .agg #[.int .u64 ((n : Nat) : Int), .pointer none]), (7, .int .u64 ((n : Nat) : Int))]) (fun φ4 => [((φ1 0), .cells #[.int .u64 ((n : Nat) : Int), .pointer none] 57)]) (fun φ4 => [(φ1 0), (φ1 0)]) s trivial (fun φ4 => by kernel_rfl) ?_
    intro φ4 w4 s
    refine ops_done (by kernel_rfl) ?_
    refine wp_ret ?_
    refine ret_rule (C := []) [((φ1 0), .cells #[.int .u64 ((n : Nat) : Int), .pointer none] 57)] [] (.tuple #[.agg #[.int .u64 ((n : Nat) : Int), .pointer none], .int .i64 0]) [.o 0, .o 0] [(φ1 0), (φ1 0)] s trivial (by kernel_rfl) ?_
    exact ⟨_, _, _, rfl, s, rfl⟩

set_option maxHeartbeats 1000000 in
theorem node_c {I : IM} {n : Nat} {l r : E} {bl br : Nat} {pl pr : Option Addr} (hl : ERep I l bl pl) (hr : ERep I r br pr) (hn : n + max l.top r.top < 18446744073709551616) (hdl : l.depth ≤ 1000) (hdr : r.depth ≤ 1000) : Fun Try.prog 63 #[.int .u64 ((n : Nat) : Int), evv bl pl, evv br pr] I (fun v J => ∃ b p, v = evv b p ∧ ERep J (E.mk n l r) b p) := by
  have hbl := ERep.base hl
  have hbr := ERep.base hr
  have hb1 := E.base_le l
  have hb2 := E.base_le r
  have hd1 := E.dn_top (min bl br) l
  have hd2 := E.dn_top (min bl br) r
  have he1 := E.dn_depth (min bl br) l
  have he2 := E.dn_depth (min bl br) r
  refine enter_rule 60 [(0, .int .u64 ((n : Nat) : Int)), (1, .agg #[.int .u64 ((bl : Nat) : Int), .pointer pl]), (2, .agg #[.int .u64 ((br : Nat) : Int), .pointer pr])] Try.func63 rfl (by kernel_rfl) ?_
  intro w s
  refine wp_seq ?_
  refine region_rule ?_
  refine ops_rule (C := []) [] [] 3 [] 3 (fun φ1 => [(6, .pointer (some ⟨(φ1 2), 0, none⟩)), (5, .pointer (some ⟨(φ1 1), 0, none⟩)), (4, .pointer (some ⟨(φ1 0), 0, none⟩))]) (fun φ1 => [((φ1 0), .cells #[.int .u64 ((bl : Nat) : Int), .pointer pl] 57), ((φ1 1), .cells #[.int .u64 ((br : Nat) : Int), .pointer pr] 57), ((φ1 2), .cells #[.int .u64 0, .pointer none] 57)]) (fun φ1 => []) s trivial (fun φ1 => by kernel_rfl) ?_
  intro φ1 w1 s
  refine ops_done (by kernel_rfl) ?_
  refine wp_seq ?_
  refine wp_seq ?_
  refine region_rule ?_
  refine ops_rule (C := []) [((φ1 0), .cells #[.int .u64 ((bl : Nat) : Int), .pointer pl] 57), ((φ1 1), .cells #[.int .u64 ((br : Nat) : Int), .pointer pr] 57), ((φ1 2), .cells #[.int .u64 0, .pointer none] 57)] [] 1 [.o 0, .o 0] 0 (fun φ2 => [(8, .agg #[.int .u64 ((bl : Nat) : Int), .pointer pl])]) (fun φ2 => [((φ1 0), .cells #[.int .u64 ((bl : Nat) : Int), .pointer pl] 57), ((φ1 1), .cells #[.int .u64 ((br : Nat) : Int), .pointer pr] 57), ((φ1 2), .cells #[.int .u64 0, .pointer none] 57)]) (fun φ2 => [(φ1 0), (φ1 0)]) s trivial (fun φ2 => by kernel_rfl) ?_
  intro φ2 w2 s
  refine call_rule (some 9) s (isLeaf_c hl) (by kernel_rfl) ?_
  intro v3 I3 w3 le3 h3 s
  replace hl := ERep.mono le3 hl
  replace hr := ERep.mono le3 hr
  obtain rfl := h3
  refine ops_rule (C := []) [((φ1 0), .cells #[.int .u64 ((bl : Nat) : Int), .pointer pl] 57), ((φ1 1), .cells #[.int .u64 ((br : Nat) : Int), .pointer pr] 57), ((φ1 2), .cells #[.int .u64 0, .pointer none] 57)] [] 1 [] 0 (fun φ4 => [(10, .bool (E.isLeaf l))]) (fun φ4 => [((φ1 0), .cells #[.int .u64 ((bl : Nat) : Int), .pointer pl] 57), ((φ1 1), .cells #[.int .u64 ((br : Nat) : Int), .pointer pr] 57), ((φ1 2), .cells #[.int .u64 0, .pointer none] 57)]) (fun φ4 => []) s trivial (fun φ4 => by kernel_rfl) ?_
  intro φ4 w4 s
  rcases Bool.eq_false_or_eq_true (E.isLeaf l) with hc5 | hc5
  ·
    rw [hc5]
    refine ops_rule (C := []) [((φ1 0), .cells #[.int .u64 ((bl : Nat) : Int), .pointer pl] 57), ((φ1 1), .cells #[.int .u64 ((br : Nat) : Int), .pointer pr] 57), ((φ1 2), .cells #[.int .u64 0, .pointer none] 57)] [] 1 [.o 1, .o 1] 0 (fun φ6 => [(11, .agg #[.int .u64 ((br : Nat) : Int), .pointer pr])]) (fun φ6 => [((φ1 0), .cells #[.int .u64 ((bl : Nat) : Int), .pointer pl] 57), ((φ1 1), .cells #[.int .u64 ((br : Nat) : Int), .pointer pr] 57), ((φ1 2), .cells #[.int .u64 0, .pointer none] 57)]) (fun φ6 => [(φ1 1), (φ1 1)]) s trivial (fun φ6 => by kernel_rfl) ?_
    intro φ6 w6 s
    refine call_rule (some 12) s (isLeaf_c hr) (by kernel_rfl) ?_
    intro v7 I7 w7 le7 h7 s
    replace hl := ERep.mono le7 hl
    replace hr := ERep.mono le7 hr
    obtain rfl := h7
    refine ops_rule (C := []) [((φ1 0), .cells #[.int .u64 ((bl : Nat) : Int), .pointer pl] 57), ((φ1 1), .cells #[.int .u64 ((br : Nat) : Int), .pointer pr] 57), ((φ1 2), .cells #[.int .u64 0, .pointer none] 57)] [] 2 [] 0 (fun φ8 => [(14, .bool (E.isLeaf r)), (13, .bool (E.isLeaf r))]) (fun φ8 => [((φ1 0), .cells #[.int .u64 ((bl : Nat) : Int), .pointer pl] 57), ((φ1 1), .cells #[.int .u64 ((br : Nat) : Int), .pointer pr] 57), ((φ1 2), .cells #[.int .u64 0, .pointer none] 57)]) (fun φ8 => []) s trivial (fun φ8 => by kernel_rfl) ?_
    intro φ8 w8 s
    rcases Bool.eq_false_or_eq_true (E.isLeaf r) with hc9 | hc9
    ·
      rw [hc9]
      refine ops_rule (C := []) [((φ1 0), .cells #[.int .u64 ((bl : Nat) : Int), .pointer pl] 57), ((φ1 1), .cells #[.int .u64 ((br : Nat) : Int), .pointer pr] 57), ((φ1 2), .cells #[.int .u64 0, .pointer none] 57)] [] 6 [.o 0, .o 1] 0 (fun φ10 => [(20, .bool (((bl : Nat) : Int) == ((br : Nat) : Int))), (19, .bool (((bl : Nat) : Int) == ((br : Nat) : Int))), (18, .int .u64 ((br : Nat) : Int)), (17, .pointer (some ⟨(φ1 1), 0, none⟩)), (16, .int .u64 ((bl : Nat) : Int)), (15, .pointer (some ⟨(φ1 0), 0, none⟩))]) (fun φ10 => [((φ1 0), .cells #[.int .u64 ((bl : Nat) : Int), .pointer pl] 57), ((φ1 1), .cells #[.int .u64 ((br : Nat) : Int), .pointer pr] 57), ((φ1 2), .cells #[.int .u64 0, .pointer none] 57)]) (fun φ10 => [(φ1 0), (φ1 1)]) s trivial (fun φ10 => by kernel_rfl) ?_
      intro φ10 w10 s
      rw [nat_eql (a := bl) (b := br)]
      refine ops_done (by kernel_rfl) ?_
      rcases Bool.eq_false_or_eq_true (decide (bl = br)) with hc11 | hc11
      ·
        rw [hc11]
        refine cond_true_rule (b := true) (by kernel_rfl) rfl ?_
        refine wp_seq ?_
        refine region_rule ?_
        refine ops_rule (C := []) [((φ1 0), .cells #[.int .u64 ((bl : Nat) : Int), .pointer pl] 57), ((φ1 1), .cells #[.int .u64 ((br : Nat) : Int), .pointer pr] 57), ((φ1 2), .cells #[.int .u64 0, .pointer none] 57)] [] 6 [.o 0, .o 2, .o 2] 0 (fun φ12 => [(25, .agg #[.int .u64 (IntKind.wrap .u64 (((n : Nat) : Int) + ((bl : Nat) : Int))), .pointer none]), (24, .int .u64 (IntKind.wrap .u64 (((n : Nat) : Int) + ((bl : Nat) : Int)))), (23, .int .u64 ((bl : Nat) : Int)), (22, .pointer (some ⟨(φ1 0), 0, none⟩)), (21, .int .u64 ((n : Nat) : Int))]) (fun φ12 => [((φ1 0), .cells #[.int .u64 ((bl : Nat) : Int), .pointer pl] 57), ((φ1 1), .cells #[.int .u64 ((br : Nat) : Int), .pointer pr] 57), ((φ1 2), .cells #[.int .u64 (IntKind.wrap .u64 (((n : Nat) : Int) + ((bl : Nat) : Int))), .pointer none] 57)]) (fun φ12 => [(φ1 0), (φ1 2), (φ1 2)]) s trivial (fun φ12 => by kernel_rfl) ?_
        intro φ12 w12 s
        rw [nat_addU (a := n) (b := bl) (by omega)] at s ⊢
        refine ops_done (by kernel_rfl) ?_
        refine wp_ret ?_
        refine ret_rule (C := []) [((φ1 0), .cells #[.int .u64 ((bl : Nat) : Int), .pointer pl] 57), ((φ1 1), .cells #[.int .u64 ((br : Nat) : Int), .pointer pr] 57), ((φ1 2), .cells #[.int .u64 ((n + bl : Nat) : Int), .pointer none] 57)] [] (.agg #[.int .u64 ((n + bl : Nat) : Int), .pointer none]) [.o 2, .o 2] [(φ1 2), (φ1 2)] s trivial (by kernel_rfl) ?_
        exact ⟨_, _, _, rfl, s, ⟨_, none, rfl, by rw [E.mk, if_pos ⟨hc5, hc9, by rw [← hbl, ← hbr]; exact of_decide_eq_true hc11⟩, ← hbl]; exact ⟨rfl, rfl⟩⟩⟩
      ·
        rw [hc11]
        refine cond_false_rule (b := false) (by kernel_rfl) rfl ?_
        refine wp_skip ?_
        refine wp_seq ?_
        refine region_rule ?_
        refine ops_rule (C := []) [((φ1 0), .cells #[.int .u64 ((bl : Nat) : Int), .pointer pl] 57), ((φ1 1), .cells #[.int .u64 ((br : Nat) : Int), .pointer pr] 57), ((φ1 2), .cells #[.int .u64 0, .pointer none] 57)] [] 6 [.o 0, .o 1] 0 (fun φ13 => [(7, .int .u64 (if ((br : Nat) : Int) < ((bl : Nat) : Int) then ((br : Nat) : Int) else ((bl : Nat) : Int))), (30, .int .u64 (if ((br : Nat) : Int) < ((bl : Nat) : Int) then ((br : Nat) : Int) else ((bl : Nat) : Int))), (29, .int .u64 ((br : Nat) : Int)), (28, .pointer (some ⟨(φ1 1), 0, none⟩)), (27, .int .u64 ((bl : Nat) : Int)), (26, .pointer (some ⟨(φ1 0), 0, none⟩))]) (fun φ13 => [((φ1 0), .cells #[.int .u64 ((bl : Nat) : Int), .pointer pl] 57), ((φ1 1), .cells #[.int .u64 ((br : Nat) : Int), .pointer pr] 57), ((φ1 2), .cells #[.int .u64 0, .pointer none] 57)]) (fun φ13 => [(φ1 0), (φ1 1)]) s trivial (fun φ13 => by kernel_rfl) ?_
        intro φ13 w13 s
        rw [nat_min (a := bl) (b := br)]
        refine ops_done (by kernel_rfl) ?_
        refine wp_seq ?_
        refine region_rule ?_
        refine ops_rule (C := []) [((φ1 0), .cells #[.int .u64 ((bl : Nat) : Int), .pointer pl] 57), ((φ1 1), .cells #[.int .u64 ((br : Nat) : Int), .pointer pr] 57), ((φ1 2), .cells #[.int .u64 0, .pointer none] 57)] [] 6 [.o 0, .o 0] 0 (fun φ14 => [(35, .pointer (some ⟨(φ1 0), 0, none⟩)), (34, .int .u64 (IntKind.wrap .u64 (((bl : Nat) : Int) - ((min bl br : Nat) : Int)))), (33, .int .u64 ((min bl br : Nat) : Int)), (32, .int .u64 ((bl : Nat) : Int)), (31, .pointer (some ⟨(φ1 0), 0, none⟩))]) (fun φ14 => [((φ1 0), .cells #[.int .u64 (IntKind.wrap .u64 (((bl : Nat) : Int) - ((min bl br : Nat) : Int))), .pointer pl] 57), ((φ1 1), .cells #[.int .u64 ((br : Nat) : Int), .pointer pr] 57), ((φ1 2), .cells #[.int .u64 0, .pointer none] 57)]) (fun φ14 => [(φ1 0), (φ1 0)]) s trivial (fun φ14 => by kernel_rfl) ?_
        intro φ14 w14 s
        rw [nat_subU (a := bl) (b := (min bl br)) (by omega) (by omega)] at s ⊢
        refine ops_done (by kernel_rfl) ?_
        refine wp_seq ?_
        refine region_rule ?_
        refine ops_rule (C := []) [((φ1 0), .cells #[.int .u64 ((bl - (min bl br) : Nat) : Int), .pointer pl] 57), ((φ1 1), .cells #[.int .u64 ((br : Nat) : Int), .pointer pr] 57), ((φ1 2), .cells #[.int .u64 0, .pointer none] 57)] [] 6 [.o 1, .o 1] 0 (fun φ15 => [(40, .pointer (some ⟨(φ1 1), 0, none⟩)), (39, .int .u64 (IntKind.wrap .u64 (((br : Nat) : Int) - ((min bl br : Nat) : Int)))), (38, .int .u64 ((min bl br : Nat) : Int)), (37, .int .u64 ((br : Nat) : Int)), (36, .pointer (some ⟨(φ1 1), 0, none⟩))]) (fun φ15 => [((φ1 0), .cells #[.int .u64 ((bl - (min bl br) : Nat) : Int), .pointer pl] 57), ((φ1 1), .cells #[.int .u64 (IntKind.wrap .u64 (((br : Nat) : Int) - ((min bl br : Nat) : Int))), .pointer pr] 57), ((φ1 2), .cells #[.int .u64 0, .pointer none] 57)]) (fun φ15 => [(φ1 1), (φ1 1)]) s trivial (fun φ15 => by kernel_rfl) ?_
        intro φ15 w15 s
        rw [nat_subU (a := br) (b := (min bl br)) (by omega) (by omega)] at s ⊢
        refine ops_done (by kernel_rfl) ?_
        refine wp_seq ?_
        refine draw_rule (C := []) ⟨(fun φ16 xs16 => [.look 0 [] [], .look 0 [] [], .sub 0 [] [] (.int .u64 (IntKind.wrap .u64 (((n : Nat) : Int) + ((min bl br : Nat) : Int)))), .look 0 [.o 0, .o 0] [(φ1 0), (φ1 0)], .look 0 [.o 1, .o 1] [(φ1 1), (φ1 1)], .look 0 [.o 0, .o 0] [(φ1 0), (φ1 0)], .call 62 #[.agg #[.int .u64 ((bl - (min bl br) : Nat) : Int), .pointer pl]], .look 0 [.o 1, .o 1] [(φ1 1), (φ1 1)], .call 62 #[.agg #[.int .u64 ((br - (min bl br) : Nat) : Int), .pointer pr]], .sub 0 [] [] (.int .u64 (if ((E.top (E.dn (min bl br) r) : Nat) : Int) > ((E.top (E.dn (min bl br) l) : Nat) : Int) then ((E.top (E.dn (min bl br) r) : Nat) : Int) else ((E.top (E.dn (min bl br) l) : Nat) : Int))), .look 0 [.o 0, .o 0] [(φ1 0), (φ1 0)], .call 61 #[.agg #[.int .u64 ((bl - (min bl br) : Nat) : Int), .pointer pl]], .look 0 [.o 1, .o 1] [(φ1 1), (φ1 1)], .call 61 #[.agg #[.int .u64 ((br - (min bl br) : Nat) : Int), .pointer pr]], .sub 0 [] [] (.int .i64 (if ((E.depth (E.dn (min bl br) r) : Nat) : Int) > ((E.depth (E.dn (min bl br) l) : Nat) : Int) then ((E.depth (E.dn (min bl br) r) : Nat) : Int) else ((E.depth (E.dn (min bl br) l) : Nat) : Int))), .sub 0 [] [] (.int .i64 (IntKind.wrap .i64 (((1 : Nat) : Int) + ((max (E.depth (E.dn (min bl br) l)) (E.depth (E.dn (min bl br) r)) : Nat) : Int)))), .look 0 [] [], .new, .look 0 [] [], .store 0 [.o 2, .o 2] [(φ1 2), (φ1 2)]]), (fun φ16 xs16 => [.int .u64 ((n : Nat) : Int), .int .u64 ((min bl br : Nat) : Int), .int .u64 ((n + (min bl br) : Nat) : Int), .agg #[.int .u64 ((bl - (min bl br) : Nat) : Int), .pointer pl], .agg #[.int .u64 ((br - (min bl br) : Nat) : Int), .pointer pr], .agg #[.int .u64 ((bl - (min bl br) : Nat) : Int), .pointer pl], .int .u64 ((E.top (E.dn (min bl br) l) : Nat) : Int), .agg #[.int .u64 ((br - (min bl br) : Nat) : Int), .pointer pr], .int .u64 ((E.top (E.dn (min bl br) r) : Nat) : Int), .int .u64 ((max (E.top (E.dn (min bl br) l)) (E.top (E.dn (min bl br) r)) : Nat) : Int), .agg #[.int .u64 ((bl - (min bl br) : Nat) : Int), .pointer pl], .int .i64 ((E.depth (E.dn (min bl br) l) : Nat) : Int), .agg #[.int .u64 ((br - (min bl br) : Nat) : Int), .pointer pr], .int .i64 ((E.depth (E.dn (min bl br) r) : Nat) : Int), .int .i64 ((max (E.depth (E.dn (min bl br) l)) (E.depth (E.dn (min bl br) r)) : Nat) : Int), .int .i64 ((1 + (max (E.depth (E.dn (min bl br) l)) (E.depth (E.dn (min bl br) r))) : Nat) : Int), .agg #[.int .u64 ((bl - (min bl br) : Nat) : Int), .pointer pl, .int .u64 ((br - (min bl br) : Nat) : Int), .pointer pr, .int .u64 ((max (E.top (E.dn (min bl br) l)) (E.top (E.dn (min bl br) r)) : Nat) : Int), .int .i64 ((1 + (max (E.depth (E.dn (min bl br) l)) (E.depth (E.dn (min bl br) r))) : Nat) : Int)], .pointer (some ⟨(φ16 17), 0, none⟩), .agg #[.int .u64 ((n + (min bl br) : Nat) : Int), .pointer (some ⟨(φ16 17), 0, none⟩)], undef]), (fun φ16 xs16 => [[((φ1 0), .cells #[.int .u64 ((bl - (min bl br) : Nat) : Int), .pointer pl] 57), ((φ1 1), .cells #[.int .u64 ((br - (min bl br) : Nat) : Int), .pointer pr] 57), ((φ1 2), .cells #[.int .u64 0, .pointer none] 57)], [((φ1 0), .cells #[.int .u64 ((bl - (min bl br) : Nat) : Int), .pointer pl] 57), ((φ1 1), .cells #[.int .u64 ((br - (min bl br) : Nat) : Int), .pointer pr] 57), ((φ1 2), .cells #[.int .u64 ((n + (min bl br) : Nat) : Int), .pointer (some ⟨(φ16 17), 0, none⟩)] 57)]]), (fun φ16 xs16 => [[default, default, default, default, default, default, default, default, default, default, default, default, default, default, default, default, default, .cells #[.int .u64 ((bl - (min bl br) : Nat) : Int), .pointer pl, .int .u64 ((br - (min bl br) : Nat) : Int), .pointer pr, .int .u64 ((max (E.top (E.dn (min bl br) l)) (E.top (E.dn (min bl br) r)) : Nat) : Int), .int .i64 ((1 + (max (E.depth (E.dn (min bl br) l)) (E.depth (E.dn (min bl br) r))) : Nat) : Int)] 111, default, default], [default, default, default, default, default, default, default, default, default, default, default, default, default, default, default, default, default, .cells #[.int .u64 ((bl - (min bl br) : Nat) : Int), .pointer pl, .int .u64 ((br - (min bl br) : Nat) : Int), .pointer pr, .int .u64 ((max (E.top (E.dn (min bl br) l)) (E.top (E.dn (min bl br) r)) : Nat) : Int), .int .i64 ((1 + (max (E.depth (E.dn (min bl br) l)) (E.depth (E.dn (min bl br) r))) : Nat) : Int)] 111, default, default]]), [19], [1, 1, 5, 1, 1, 1, 3, 1, 3, 5, 1, 3, 1, 3, 5, 5, 1, 2, 1, 4]⟩ (fun j => ([MP.any, MP.any, MP.any, MP.any, MP.any, MP.any, MP.any, MP.any, MP.any, MP.any, MP.any, MP.any, MP.any, MP.any, MP.any, MP.any, MP.any, MP.any, MP.any, MP.any] : List MP).getD j MP.any) [6, 8, 11, 13] [2, 9, 14, 15] [] (fun φ16 xs16 => [[none, none, none, none, none, none, none, none, none, none, none, none, none, none, none, none, none, none, none, none]]) (fun φ16 xs16 => [(41, .int .u64 ((n : Nat) : Int)), (42, .int .u64 ((min bl br : Nat) : Int)), (43, .int .u64 ((n + (min bl br) : Nat) : Int)), (44, .agg #[.int .u64 ((bl - (min bl br) : Nat) : Int), .pointer pl]), (45, .agg #[.int .u64 ((br - (min bl br) : Nat) : Int), .pointer pr]), (46, .agg #[.int .u64 ((bl - (min bl br) : Nat) : Int), .pointer pl]), (47, .int .u64 ((E.top (E.dn (min bl br) l) : Nat) : Int)), (48, .agg #[.int .u64 ((br - (min bl br) : Nat) : Int), .pointer pr]), (49, .int .u64 ((E.top (E.dn (min bl br) r) : Nat) : Int)), (50, .int .u64 ((max (E.top (E.dn (min bl br) l)) (E.top (E.dn (min bl br) r)) : Nat) : Int)), (51, .agg #[.int .u64 ((bl - (min bl br) : Nat) : Int), .pointer pl]), (52, .int .i64 ((E.depth (E.dn (min bl br) l) : Nat) : Int)), (53, .agg #[.int .u64 ((br - (min bl br) : Nat) : Int), .pointer pr]), (54, .int .i64 ((E.depth (E.dn (min bl br) r) : Nat) : Int)), (55, .int .i64 ((max (E.depth (E.dn (min bl br) l)) (E.depth (E.dn (min bl br) r)) : Nat) : Int)), (56, .int .i64 ((1 + (max (E.depth (E.dn (min bl br) l)) (E.depth (E.dn (min bl br) r))) : Nat) : Int)), (57, .agg #[.int .u64 ((bl - (min bl br) : Nat) : Int), .pointer pl, .int .u64 ((br - (min bl br) : Nat) : Int), .pointer pr, .int .u64 ((max (E.top (E.dn (min bl br) l)) (E.top (E.dn (min bl br) r)) : Nat) : Int), .int .i64 ((1 + (max (E.depth (E.dn (min bl br) l)) (E.depth (E.dn (min bl br) r))) : Nat) : Int)]), (58, .pointer (some ⟨(φ16 17), 0, none⟩)), (59, .agg #[.int .u64 ((n + (min bl br) : Nat) : Int), .pointer (some ⟨(φ16 17), 0, none⟩)])]) (fun φ16 xs16 => [((φ1 0), .cells #[.int .u64 ((bl - (min bl br) : Nat) : Int), .pointer pl] 57), ((φ1 1), .cells #[.int .u64 ((br - (min bl br) : Nat) : Int), .pointer pr] 57), ((φ1 2), .cells #[.int .u64 ((n + (min bl br) : Nat) : Int), .pointer (some ⟨(φ16 17), 0, none⟩)] 57), ((φ16 17), .cells #[.int .u64 ((bl - (min bl br) : Nat) : Int), .pointer pl, .int .u64 ((br - (min bl br) : Nat) : Int), .pointer pr, .int .u64 ((max (E.top (E.dn (min bl br) l)) (E.top (E.dn (min bl br) r)) : Nat) : Int), .int .i64 ((1 + (max (E.depth (E.dn (min bl br) l)) (E.depth (E.dn (min bl br) r))) : Nat) : Int)] 111)]) s trivial (by kernel_rfl) (by kernel_rfl) (fun _ _ => by kernel_rfl) (fun _ _ => by kernel_rfl) ⟨fun _ _ => by kernel_rfl, fun _ _ => by kernel_rfl, fun _ _ => by kernel_rfl, fun _ _ => by kernel_rfl⟩ (fun _ _ _ => by kernel_rfl) (fun _ _ => by kernel_rfl) (fun _ _ => by kernel_rfl) (fun _ _ => by kernel_rfl) (fun _ _ => by kernel_rfl) (fun _ _ => by kernel_rfl) ⟨kcast (A := ∀ (φ16 : Nat → Nat) (xs16 : Xs), (.int .u64 (IntKind.wrap .u64 (((n : Nat) : Int) + ((min bl br : Nat) : Int))) : Value) = .int .u64 ((n + (min bl br) : Nat) : Int)) (by kernel_rfl) (fun φ16 xs16 => congrArg (Value.int .u64) ((nat_addU (a := n) (b := (min bl br)) (by omega)))), ⟨kcast (A := ∀ (φ16 : Nat → Nat) (xs16 : Xs), (.int .u64 (if ((E.top (E.dn (min bl br) r) : Nat) : Int) > ((E.top (E.dn (min bl br) l) : Nat) : Int) then ((E.top (E.dn (min bl br) r) : Nat) : Int) else ((E.top (E.dn (min bl br) l) : Nat) : Int)) : Value) = .int .u64 ((max (E.top (E.dn (min bl br) l)) (E.top (E.dn (min bl br) r)) : Nat) : Int)) (by kernel_rfl) (fun φ16 xs16 => congrArg (Value.int .u64) ((nat_max (a := (E.top (E.dn (min bl br) l))) (b := (E.top (E.dn (min bl br) r)))))), ⟨kcast (A := ∀ (φ16 : Nat → Nat) (xs16 : Xs), (.int .i64 (if ((E.depth (E.dn (min bl br) r) : Nat) : Int) > ((E.depth (E.dn (min bl br) l) : Nat) : Int) then ((E.depth (E.dn (min bl br) r) : Nat) : Int) else ((E.depth (E.dn (min bl br) l) : Nat) : Int)) : Value) = .int .i64 ((max (E.depth (E.dn (min bl br) l)) (E.depth (E.dn (min bl br) r)) : Nat) : Int)) (by kernel_rfl) (fun φ16 xs16 => congrArg (Value.int .i64) ((nat_max (a := (E.depth (E.dn (min bl br) l))) (b := (E.depth (E.dn (min bl br) r)))))), ⟨kcast (A := ∀ (φ16 : Nat → Nat) (xs16 : Xs), (.int .i64 (IntKind.wrap .i64 (((1 : Nat) : Int) + ((max (E.depth (E.dn (min bl br) l)) (E.depth (E.dn (min bl br) r)) : Nat) : Int))) : Value) = .int .i64 ((1 + (max (E.depth (E.dn (min bl br) l)) (E.depth (E.dn (min bl br) r))) : Nat) : Int)) (by kernel_rfl) (fun φ16 xs16 => congrArg (Value.int .i64) ((nat_addI (a := 1) (b := (max (E.depth (E.dn (min bl br) l)) (E.depth (E.dn (min bl br) r)))) (by omega)))), trivial⟩⟩⟩⟩ trivial (by kernel_rfl) ⟨?c16_6, ?c16_8, ?c16_11, ?c16_13, trivial⟩ ?k16
        case c16_6 =>
          refine kcast (A := ∀ (φ16 : Nat → Nat) (xs16 : Xs) (J6_16 : IM), I7.Le J6_16 → Fun Try.prog 62 #[.agg #[.int .u64 ((bl - (min bl br) : Nat) : Int), .pointer pl]] J6_16 (fun v J' => ∃ x : UX, v = .int .u64 ((E.top (E.dn (min bl br) l) : Nat) : Int) ∧ (True))) (by kernel_rfl) ?_
          intro φ16 xs16 J6_16 leJ
          have hl := ERep.mono leJ hl
          exact Fun.mono (max_c (ERep.dn (min bl br) hl) (by omega)) (fun v J' _ h => ⟨UX.d, h, trivial⟩)
        case c16_8 =>
          refine kcast (A := ∀ (φ16 : Nat → Nat) (xs16 : Xs) (J8_16 : IM), I7.Le J8_16 → (True) → Fun Try.prog 62 #[.agg #[.int .u64 ((br - (min bl br) : Nat) : Int), .pointer pr]] J8_16 (fun v J' => ∃ x : UX, v = .int .u64 ((E.top (E.dn (min bl br) r) : Nat) : Int) ∧ (True))) (by kernel_rfl) ?_
          intro φ16 xs16 J8_16 leJ
          rintro _
          have hr := ERep.mono leJ hr
          exact Fun.mono (max_c (ERep.dn (min bl br) hr) (by omega)) (fun v J' _ h => ⟨UX.d, h, trivial⟩)
        case c16_11 =>
          refine kcast (A := ∀ (φ16 : Nat → Nat) (xs16 : Xs) (J11_16 : IM), I7.Le J11_16 → (True) → (True) → Fun Try.prog 61 #[.agg #[.int .u64 ((bl - (min bl br) : Nat) : Int), .pointer pl]] J11_16 (fun v J' => ∃ x : UX, v = .int .i64 ((E.depth (E.dn (min bl br) l) : Nat) : Int) ∧ (True))) (by kernel_rfl) ?_
          intro φ16 xs16 J11_16 leJ
          rintro _ _
          have hl := ERep.mono leJ hl
          exact Fun.mono (depth_c (ERep.dn (min bl br) hl)) (fun v J' _ h => ⟨UX.d, h, trivial⟩)
        case c16_13 =>
          refine kcast (A := ∀ (φ16 : Nat → Nat) (xs16 : Xs) (J13_16 : IM), I7.Le J13_16 → (True) → (True) → (True) → Fun Try.prog 61 #[.agg #[.int .u64 ((br - (min bl br) : Nat) : Int), .pointer pr]] J13_16 (fun v J' => ∃ x : UX, v = .int .i64 ((E.depth (E.dn (min bl br) r) : Nat) : Int) ∧ (True))) (by kernel_rfl) ?_
          intro φ16 xs16 J13_16 leJ
          rintro _ _ _
          have hr := ERep.mono leJ hr
          exact Fun.mono (depth_c (ERep.dn (min bl br) hr)) (fun v J' _ h => ⟨UX.d, h, trivial⟩)
        case k16 =>
          rintro φ16 xs16 I16 w16 le16 s _ _ _ _
          replace hl := ERep.mono le16 hl
          replace hr := ERep.mono le16 hr
          refine wp_ret ?_
          refine ret_rule (C := []) [((φ1 0), .cells #[.int .u64 ((bl - (min bl br) : Nat) : Int), .pointer pl] 57), ((φ1 1), .cells #[.int .u64 ((br - (min bl br) : Nat) : Int), .pointer pr] 57), ((φ1 2), .cells #[.int .u64 ((n + (min bl br) : Nat) : Int), .pointer (some ⟨(φ16 17), 0, none⟩)] 57), ((φ16 17), .cells #[.int .u64 ((bl - (min bl br) : Nat) : Int), .pointer pl, .int .u64 ((br - (min bl br) : Nat) : Int), .pointer pr, .int .u64 ((max (E.top (E.dn (min bl br) l)) (E.top (E.dn (min bl br) r)) : Nat) : Int), .int .i64 ((1 + (max (E.depth (E.dn (min bl br) l)) (E.depth (E.dn (min bl br) r))) : Nat) : Int)] 111)] [] (.agg #[.int .u64 ((n + (min bl br) : Nat) : Int), .pointer (some ⟨(φ16 17), 0, none⟩)]) [.o 2, .o 2] [(φ1 2), (φ1 2)] s trivial (by kernel_rfl) ?_
          obtain ⟨I17, le17, hk17, s⟩ := s.freezeAt 3 (φ16 17) (.cells #[.int .u64 ((bl - (min bl br) : Nat) : Int), .pointer pl, .int .u64 ((br - (min bl br) : Nat) : Int), .pointer pr, .int .u64 ((max (E.top (E.dn (min bl br) l)) (E.top (E.dn (min bl br) r)) : Nat) : Int), .int .i64 ((1 + (max (E.depth (E.dn (min bl br) l)) (E.depth (E.dn (min bl br) r))) : Nat) : Int)] 111) [((φ1 0), .cells #[.int .u64 ((bl - (min bl br) : Nat) : Int), .pointer pl] 57), ((φ1 1), .cells #[.int .u64 ((br - (min bl br) : Nat) : Int), .pointer pr] 57), ((φ1 2), .cells #[.int .u64 ((n + (min bl br) : Nat) : Int), .pointer (some ⟨(φ16 17), 0, none⟩)] 57)] (by kernel_rfl) (by kernel_rfl)
          replace hl := ERep.mono le17 hl
          replace hr := ERep.mono le17 hr
          exact ⟨_, _, _, rfl, s, ⟨_, _, rfl, by rw [E.mk, if_neg (fun h => of_decide_eq_false hc11 (by rw [hbl, hbr]; exact h.2.2)), ← hbl, ← hbr]; exact ⟨rfl, _, _, _, _, _, rfl, hk17, ERep.dn _ hl, ERep.dn _ hr⟩⟩⟩
    ·
      rw [hc9]
      refine ops_rule (C := []) [((φ1 0), .cells #[.int .u64 ((bl : Nat) : Int), .pointer pl] 57), ((φ1 1), .cells #[.int .u64 ((br : Nat) : Int), .pointer pr] 57), ((φ1 2), .cells #[.int .u64 0, .pointer none] 57)] [] 6 [] 0 (fun φ18 => [(20, .bool false), (19, undef), (18, undef), (17, undef), (16, undef), (15, undef)]) (fun φ18 => [((φ1 0), .cells #[.int .u64 ((bl : Nat) : Int), .pointer pl] 57), ((φ1 1), .cells #[.int .u64 ((br : Nat) : Int), .pointer pr] 57), ((φ1 2), .cells #[.int .u64 0, .pointer none] 57)]) (fun φ18 => []) s trivial (fun φ18 => by kernel_rfl) ?_
      intro φ18 w18 s
      refine ops_done (by kernel_rfl) ?_
      refine cond_false_rule (b := false) (by kernel_rfl) rfl ?_
      refine wp_skip ?_
      refine wp_seq ?_
      refine region_rule ?_
      refine ops_rule (C := []) [((φ1 0), .cells #[.int .u64 ((bl : Nat) : Int), .pointer pl] 57), ((φ1 1), .cells #[.int .u64 ((br : Nat) : Int), .pointer pr] 57), ((φ1 2), .cells #[.int .u64 0, .pointer none] 57)] [] 6 [.o 0, .o 1] 0 (fun φ19 => [(7, .int .u64 (if ((br : Nat) : Int) < ((bl : Nat) : Int) then ((br : Nat) : Int) else ((bl : Nat) : Int))), (30, .int .u64 (if ((br : Nat) : Int) < ((bl : Nat) : Int) then ((br : Nat) : Int) else ((bl : Nat) : Int))), (29, .int .u64 ((br : Nat) : Int)), (28, .pointer (some ⟨(φ1 1), 0, none⟩)), (27, .int .u64 ((bl : Nat) : Int)), (26, .pointer (some ⟨(φ1 0), 0, none⟩))]) (fun φ19 => [((φ1 0), .cells #[.int .u64 ((bl : Nat) : Int), .pointer pl] 57), ((φ1 1), .cells #[.int .u64 ((br : Nat) : Int), .pointer pr] 57), ((φ1 2), .cells #[.int .u64 0, .pointer none] 57)]) (fun φ19 => [(φ1 0), (φ1 1)]) s trivial (fun φ19 => by kernel_rfl) ?_
      intro φ19 w19 s
      rw [nat_min (a := bl) (b := br)]
      refine ops_done (by kernel_rfl) ?_
      refine wp_seq ?_
      refine region_rule ?_
      refine ops_rule (C := []) [((φ1 0), .cells #[.int .u64 ((bl : Nat) : Int), .pointer pl] 57), ((φ1 1), .cells #[.int .u64 ((br : Nat) : Int), .pointer pr] 57), ((φ1 2), .cells #[.int .u64 0, .pointer none] 57)] [] 6 [.o 0, .o 0] 0 (fun φ20 => [(35, .pointer (some ⟨(φ1 0), 0, none⟩)), (34, .int .u64 (IntKind.wrap .u64 (((bl : Nat) : Int) - ((min bl br : Nat) : Int)))), (33, .int .u64 ((min bl br : Nat) : Int)), (32, .int .u64 ((bl : Nat) : Int)), (31, .pointer (some ⟨(φ1 0), 0, none⟩))]) (fun φ20 => [((φ1 0), .cells #[.int .u64 (IntKind.wrap .u64 (((bl : Nat) : Int) - ((min bl br : Nat) : Int))), .pointer pl] 57), ((φ1 1), .cells #[.int .u64 ((br : Nat) : Int), .pointer pr] 57), ((φ1 2), .cells #[.int .u64 0, .pointer none] 57)]) (fun φ20 => [(φ1 0), (φ1 0)]) s trivial (fun φ20 => by kernel_rfl) ?_
      intro φ20 w20 s
      rw [nat_subU (a := bl) (b := (min bl br)) (by omega) (by omega)] at s ⊢
      refine ops_done (by kernel_rfl) ?_
      refine wp_seq ?_
      refine region_rule ?_
      refine ops_rule (C := []) [((φ1 0), .cells #[.int .u64 ((bl - (min bl br) : Nat) : Int), .pointer pl] 57), ((φ1 1), .cells #[.int .u64 ((br : Nat) : Int), .pointer pr] 57), ((φ1 2), .cells #[.int .u64 0, .pointer none] 57)] [] 6 [.o 1, .o 1] 0 (fun φ21 => [(40, .pointer (some ⟨(φ1 1), 0, none⟩)), (39, .int .u64 (IntKind.wrap .u64 (((br : Nat) : Int) - ((min bl br : Nat) : Int)))), (38, .int .u64 ((min bl br : Nat) : Int)), (37, .int .u64 ((br : Nat) : Int)), (36, .pointer (some ⟨(φ1 1), 0, none⟩))]) (fun φ21 => [((φ1 0), .cells #[.int .u64 ((bl - (min bl br) : Nat) : Int), .pointer pl] 57), ((φ1 1), .cells #[.int .u64 (IntKind.wrap .u64 (((br : Nat) : Int) - ((min bl br : Nat) : Int))), .pointer pr] 57), ((φ1 2), .cells #[.int .u64 0, .pointer none] 57)]) (fun φ21 => [(φ1 1), (φ1 1)]) s trivial (fun φ21 => by kernel_rfl) ?_
      intro φ21 w21 s
      rw [nat_subU (a := br) (b := (min bl br)) (by omega) (by omega)] at s ⊢
      refine ops_done (by kernel_rfl) ?_
      refine wp_seq ?_
      refine draw_rule (C := []) ⟨(fun φ22 xs22 => [.look 0 [] [], .look 0 [] [], .sub 0 [] [] (.int .u64 (IntKind.wrap .u64 (((n : Nat) : Int) + ((min bl br : Nat) : Int)))), .look 0 [.o 0, .o 0] [(φ1 0), (φ1 0)], .look 0 [.o 1, .o 1] [(φ1 1), (φ1 1)], .look 0 [.o 0, .o 0] [(φ1 0), (φ1 0)], .call 62 #[.agg #[.int .u64 ((bl - (min bl br) : Nat) : Int), .pointer pl]], .look 0 [.o 1, .o 1] [(φ1 1), (φ1 1)], .call 62 #[.agg #[.int .u64 ((br - (min bl br) : Nat) : Int), .pointer pr]], .sub 0 [] [] (.int .u64 (if ((E.top (E.dn (min bl br) r) : Nat) : Int) > ((E.top (E.dn (min bl br) l) : Nat) : Int) then ((E.top (E.dn (min bl br) r) : Nat) : Int) else ((E.top (E.dn (min bl br) l) : Nat) : Int))), .look 0 [.o 0, .o 0] [(φ1 0), (φ1 0)], .call 61 #[.agg #[.int .u64 ((bl - (min bl br) : Nat) : Int), .pointer pl]], .look 0 [.o 1, .o 1] [(φ1 1), (φ1 1)], .call 61 #[.agg #[.int .u64 ((br - (min bl br) : Nat) : Int), .pointer pr]], .sub 0 [] [] (.int .i64 (if ((E.depth (E.dn (min bl br) r) : Nat) : Int) > ((E.depth (E.dn (min bl br) l) : Nat) : Int) then ((E.depth (E.dn (min bl br) r) : Nat) : Int) else ((E.depth (E.dn (min bl br) l) : Nat) : Int))), .sub 0 [] [] (.int .i64 (IntKind.wrap .i64 (((1 : Nat) : Int) + ((max (E.depth (E.dn (min bl br) l)) (E.depth (E.dn (min bl br) r)) : Nat) : Int)))), .look 0 [] [], .new, .look 0 [] [], .store 0 [.o 2, .o 2] [(φ1 2), (φ1 2)]]), (fun φ22 xs22 => [.int .u64 ((n : Nat) : Int), .int .u64 ((min bl br : Nat) : Int), .int .u64 ((n + (min bl br) : Nat) : Int), .agg #[.int .u64 ((bl - (min bl br) : Nat) : Int), .pointer pl], .agg #[.int .u64 ((br - (min bl br) : Nat) : Int), .pointer pr], .agg #[.int .u64 ((bl - (min bl br) : Nat) : Int), .pointer pl], .int .u64 ((E.top (E.dn (min bl br) l) : Nat) : Int), .agg #[.int .u64 ((br - (min bl br) : Nat) : Int), .pointer pr], .int .u64 ((E.top (E.dn (min bl br) r) : Nat) : Int), .int .u64 ((max (E.top (E.dn (min bl br) l)) (E.top (E.dn (min bl br) r)) : Nat) : Int), .agg #[.int .u64 ((bl - (min bl br) : Nat) : Int), .pointer pl], .int .i64 ((E.depth (E.dn (min bl br) l) : Nat) : Int), .agg #[.int .u64 ((br - (min bl br) : Nat) : Int), .pointer pr], .int .i64 ((E.depth (E.dn (min bl br) r) : Nat) : Int), .int .i64 ((max (E.depth (E.dn (min bl br) l)) (E.depth (E.dn (min bl br) r)) : Nat) : Int), .int .i64 ((1 + (max (E.depth (E.dn (min bl br) l)) (E.depth (E.dn (min bl br) r))) : Nat) : Int), .agg #[.int .u64 ((bl - (min bl br) : Nat) : Int), .pointer pl, .int .u64 ((br - (min bl br) : Nat) : Int), .pointer pr, .int .u64 ((max (E.top (E.dn (min bl br) l)) (E.top (E.dn (min bl br) r)) : Nat) : Int), .int .i64 ((1 + (max (E.depth (E.dn (min bl br) l)) (E.depth (E.dn (min bl br) r))) : Nat) : Int)], .pointer (some ⟨(φ22 17), 0, none⟩), .agg #[.int .u64 ((n + (min bl br) : Nat) : Int), .pointer (some ⟨(φ22 17), 0, none⟩)], undef]), (fun φ22 xs22 => [[((φ1 0), .cells #[.int .u64 ((bl - (min bl br) : Nat) : Int), .pointer pl] 57), ((φ1 1), .cells #[.int .u64 ((br - (min bl br) : Nat) : Int), .pointer pr] 57), ((φ1 2), .cells #[.int .u64 0, .pointer none] 57)], [((φ1 0), .cells #[.int .u64 ((bl - (min bl br) : Nat) : Int), .pointer pl] 57), ((φ1 1), .cells #[.int .u64 ((br - (min bl br) : Nat) : Int), .pointer pr] 57), ((φ1 2), .cells #[.int .u64 ((n + (min bl br) : Nat) : Int), .pointer (some ⟨(φ22 17), 0, none⟩)] 57)]]), (fun φ22 xs22 => [[default, default, default, default, default, default, default, default, default, default, default, default, default, default, default, default, default, .cells #[.int .u64 ((bl - (min bl br) : Nat) : Int), .pointer pl, .int .u64 ((br - (min bl br) : Nat) : Int), .pointer pr, .int .u64 ((max (E.top (E.dn (min bl br) l)) (E.top (E.dn (min bl br) r)) : Nat) : Int), .int .i64 ((1 + (max (E.depth (E.dn (min bl br) l)) (E.depth (E.dn (min bl br) r))) : Nat) : Int)] 111, default, default], [default, default, default, default, default, default, default, default, default, default, default, default, default, default, default, default, default, .cells #[.int .u64 ((bl - (min bl br) : Nat) : Int), .pointer pl, .int .u64 ((br - (min bl br) : Nat) : Int), .pointer pr, .int .u64 ((max (E.top (E.dn (min bl br) l)) (E.top (E.dn (min bl br) r)) : Nat) : Int), .int .i64 ((1 + (max (E.depth (E.dn (min bl br) l)) (E.depth (E.dn (min bl br) r))) : Nat) : Int)] 111, default, default]]), [19], [1, 1, 5, 1, 1, 1, 3, 1, 3, 5, 1, 3, 1, 3, 5, 5, 1, 2, 1, 4]⟩ (fun j => ([MP.any, MP.any, MP.any, MP.any, MP.any, MP.any, MP.any, MP.any, MP.any, MP.any, MP.any, MP.any, MP.any, MP.any, MP.any, MP.any, MP.any, MP.any, MP.any, MP.any] : List MP).getD j MP.any) [6, 8, 11, 13] [2, 9, 14, 15] [] (fun φ22 xs22 => [[none, none, none, none, none, none, none, none, none, none, none, none, none, none, none, none, none, none, none, none]]) (fun φ22 xs22 => [(41, .int .u64 ((n : Nat) : Int)), (42, .int .u64 ((min bl br : Nat) : Int)), (43, .int .u64 ((n + (min bl br) : Nat) : Int)), (44, .agg #[.int .u64 ((bl - (min bl br) : Nat) : Int), .pointer pl]), (45, .agg #[.int .u64 ((br - (min bl br) : Nat) : Int), .pointer pr]), (46, .agg #[.int .u64 ((bl - (min bl br) : Nat) : Int), .pointer pl]), (47, .int .u64 ((E.top (E.dn (min bl br) l) : Nat) : Int)), (48, .agg #[.int .u64 ((br - (min bl br) : Nat) : Int), .pointer pr]), (49, .int .u64 ((E.top (E.dn (min bl br) r) : Nat) : Int)), (50, .int .u64 ((max (E.top (E.dn (min bl br) l)) (E.top (E.dn (min bl br) r)) : Nat) : Int)), (51, .agg #[.int .u64 ((bl - (min bl br) : Nat) : Int), .pointer pl]), (52, .int .i64 ((E.depth (E.dn (min bl br) l) : Nat) : Int)), (53, .agg #[.int .u64 ((br - (min bl br) : Nat) : Int), .pointer pr]), (54, .int .i64 ((E.depth (E.dn (min bl br) r) : Nat) : Int)), (55, .int .i64 ((max (E.depth (E.dn (min bl br) l)) (E.depth (E.dn (min bl br) r)) : Nat) : Int)), (56, .int .i64 ((1 + (max (E.depth (E.dn (min bl br) l)) (E.depth (E.dn (min bl br) r))) : Nat) : Int)), (57, .agg #[.int .u64 ((bl - (min bl br) : Nat) : Int), .pointer pl, .int .u64 ((br - (min bl br) : Nat) : Int), .pointer pr, .int .u64 ((max (E.top (E.dn (min bl br) l)) (E.top (E.dn (min bl br) r)) : Nat) : Int), .int .i64 ((1 + (max (E.depth (E.dn (min bl br) l)) (E.depth (E.dn (min bl br) r))) : Nat) : Int)]), (58, .pointer (some ⟨(φ22 17), 0, none⟩)), (59, .agg #[.int .u64 ((n + (min bl br) : Nat) : Int), .pointer (some ⟨(φ22 17), 0, none⟩)])]) (fun φ22 xs22 => [((φ1 0), .cells #[.int .u64 ((bl - (min bl br) : Nat) : Int), .pointer pl] 57), ((φ1 1), .cells #[.int .u64 ((br - (min bl br) : Nat) : Int), .pointer pr] 57), ((φ1 2), .cells #[.int .u64 ((n + (min bl br) : Nat) : Int), .pointer (some ⟨(φ22 17), 0, none⟩)] 57), ((φ22 17), .cells #[.int .u64 ((bl - (min bl br) : Nat) : Int), .pointer pl, .int .u64 ((br - (min bl br) : Nat) : Int), .pointer pr, .int .u64 ((max (E.top (E.dn (min bl br) l)) (E.top (E.dn (min bl br) r)) : Nat) : Int), .int .i64 ((1 + (max (E.depth (E.dn (min bl br) l)) (E.depth (E.dn (min bl br) r))) : Nat) : Int)] 111)]) s trivial (by kernel_rfl) (by kernel_rfl) (fun _ _ => by kernel_rfl) (fun _ _ => by kernel_rfl) ⟨fun _ _ => by kernel_rfl, fun _ _ => by kernel_rfl, fun _ _ => by kernel_rfl, fun _ _ => by kernel_rfl⟩ (fun _ _ _ => by kernel_rfl) (fun _ _ => by kernel_rfl) (fun _ _ => by kernel_rfl) (fun _ _ => by kernel_rfl) (fun _ _ => by kernel_rfl) (fun _ _ => by kernel_rfl) ⟨kcast (A := ∀ (φ22 : Nat → Nat) (xs22 : Xs), (.int .u64 (IntKind.wrap .u64 (((n : Nat) : Int) + ((min bl br : Nat) : Int))) : Value) = .int .u64 ((n + (min bl br) : Nat) : Int)) (by kernel_rfl) (fun φ22 xs22 => congrArg (Value.int .u64) ((nat_addU (a := n) (b := (min bl br)) (by omega)))), ⟨kcast (A := ∀ (φ22 : Nat → Nat) (xs22 : Xs), (.int .u64 (if ((E.top (E.dn (min bl br) r) : Nat) : Int) > ((E.top (E.dn (min bl br) l) : Nat) : Int) then ((E.top (E.dn (min bl br) r) : Nat) : Int) else ((E.top (E.dn (min bl br) l) : Nat) : Int)) : Value) = .int .u64 ((max (E.top (E.dn (min bl br) l)) (E.top (E.dn (min bl br) r)) : Nat) : Int)) (by kernel_rfl) (fun φ22 xs22 => congrArg (Value.int .u64) ((nat_max (a := (E.top (E.dn (min bl br) l))) (b := (E.top (E.dn (min bl br) r)))))), ⟨kcast (A := ∀ (φ22 : Nat → Nat) (xs22 : Xs), (.int .i64 (if ((E.depth (E.dn (min bl br) r) : Nat) : Int) > ((E.depth (E.dn (min bl br) l) : Nat) : Int) then ((E.depth (E.dn (min bl br) r) : Nat) : Int) else ((E.depth (E.dn (min bl br) l) : Nat) : Int)) : Value) = .int .i64 ((max (E.depth (E.dn (min bl br) l)) (E.depth (E.dn (min bl br) r)) : Nat) : Int)) (by kernel_rfl) (fun φ22 xs22 => congrArg (Value.int .i64) ((nat_max (a := (E.depth (E.dn (min bl br) l))) (b := (E.depth (E.dn (min bl br) r)))))), ⟨kcast (A := ∀ (φ22 : Nat → Nat) (xs22 : Xs), (.int .i64 (IntKind.wrap .i64 (((1 : Nat) : Int) + ((max (E.depth (E.dn (min bl br) l)) (E.depth (E.dn (min bl br) r)) : Nat) : Int))) : Value) = .int .i64 ((1 + (max (E.depth (E.dn (min bl br) l)) (E.depth (E.dn (min bl br) r))) : Nat) : Int)) (by kernel_rfl) (fun φ22 xs22 => congrArg (Value.int .i64) ((nat_addI (a := 1) (b := (max (E.depth (E.dn (min bl br) l)) (E.depth (E.dn (min bl br) r)))) (by omega)))), trivial⟩⟩⟩⟩ trivial (by kernel_rfl) ⟨?c22_6, ?c22_8, ?c22_11, ?c22_13, trivial⟩ ?k22
      case c22_6 =>
        refine kcast (A := ∀ (φ22 : Nat → Nat) (xs22 : Xs) (J6_22 : IM), I7.Le J6_22 → Fun Try.prog 62 #[.agg #[.int .u64 ((bl - (min bl br) : Nat) : Int), .pointer pl]] J6_22 (fun v J' => ∃ x : UX, v = .int .u64 ((E.top (E.dn (min bl br) l) : Nat) : Int) ∧ (True))) (by kernel_rfl) ?_
        intro φ22 xs22 J6_22 leJ
        have hl := ERep.mono leJ hl
        exact Fun.mono (max_c (ERep.dn (min bl br) hl) (by omega)) (fun v J' _ h => ⟨UX.d, h, trivial⟩)
      case c22_8 =>
        refine kcast (A := ∀ (φ22 : Nat → Nat) (xs22 : Xs) (J8_22 : IM), I7.Le J8_22 → (True) → Fun Try.prog 62 #[.agg #[.int .u64 ((br - (min bl br) : Nat) : Int), .pointer pr]] J8_22 (fun v J' => ∃ x : UX, v = .int .u64 ((E.top (E.dn (min bl br) r) : Nat) : Int) ∧ (True))) (by kernel_rfl) ?_
        intro φ22 xs22 J8_22 leJ
        rintro _
        have hr := ERep.mono leJ hr
        exact Fun.mono (max_c (ERep.dn (min bl br) hr) (by omega)) (fun v J' _ h => ⟨UX.d, h, trivial⟩)
      case c22_11 =>
        refine kcast (A := ∀ (φ22 : Nat → Nat) (xs22 : Xs) (J11_22 : IM), I7.Le J11_22 → (True) → (True) → Fun Try.prog 61 #[.agg #[.int .u64 ((bl - (min bl br) : Nat) : Int), .pointer pl]] J11_22 (fun v J' => ∃ x : UX, v = .int .i64 ((E.depth (E.dn (min bl br) l) : Nat) : Int) ∧ (True))) (by kernel_rfl) ?_
        intro φ22 xs22 J11_22 leJ
        rintro _ _
        have hl := ERep.mono leJ hl
        exact Fun.mono (depth_c (ERep.dn (min bl br) hl)) (fun v J' _ h => ⟨UX.d, h, trivial⟩)
      case c22_13 =>
        refine kcast (A := ∀ (φ22 : Nat → Nat) (xs22 : Xs) (J13_22 : IM), I7.Le J13_22 → (True) → (True) → (True) → Fun Try.prog 61 #[.agg #[.int .u64 ((br - (min bl br) : Nat) : Int), .pointer pr]] J13_22 (fun v J' => ∃ x : UX, v = .int .i64 ((E.depth (E.dn (min bl br) r) : Nat) : Int) ∧ (True))) (by kernel_rfl) ?_
        intro φ22 xs22 J13_22 leJ
        rintro _ _ _
        have hr := ERep.mono leJ hr
        exact Fun.mono (depth_c (ERep.dn (min bl br) hr)) (fun v J' _ h => ⟨UX.d, h, trivial⟩)
      case k22 =>
        rintro φ22 xs22 I22 w22 le22 s _ _ _ _
        replace hl := ERep.mono le22 hl
        replace hr := ERep.mono le22 hr
        refine wp_ret ?_
        refine ret_rule (C := []) [((φ1 0), .cells #[.int .u64 ((bl - (min bl br) : Nat) : Int), .pointer pl] 57), ((φ1 1), .cells #[.int .u64 ((br - (min bl br) : Nat) : Int), .pointer pr] 57), ((φ1 2), .cells #[.int .u64 ((n + (min bl br) : Nat) : Int), .pointer (some ⟨(φ22 17), 0, none⟩)] 57), ((φ22 17), .cells #[.int .u64 ((bl - (min bl br) : Nat) : Int), .pointer pl, .int .u64 ((br - (min bl br) : Nat) : Int), .pointer pr, .int .u64 ((max (E.top (E.dn (min bl br) l)) (E.top (E.dn (min bl br) r)) : Nat) : Int), .int .i64 ((1 + (max (E.depth (E.dn (min bl br) l)) (E.depth (E.dn (min bl br) r))) : Nat) : Int)] 111)] [] (.agg #[.int .u64 ((n + (min bl br) : Nat) : Int), .pointer (some ⟨(φ22 17), 0, none⟩)]) [.o 2, .o 2] [(φ1 2), (φ1 2)] s trivial (by kernel_rfl) ?_
        obtain ⟨I23, le23, hk23, s⟩ := s.freezeAt 3 (φ22 17) (.cells #[.int .u64 ((bl - (min bl br) : Nat) : Int), .pointer pl, .int .u64 ((br - (min bl br) : Nat) : Int), .pointer pr, .int .u64 ((max (E.top (E.dn (min bl br) l)) (E.top (E.dn (min bl br) r)) : Nat) : Int), .int .i64 ((1 + (max (E.depth (E.dn (min bl br) l)) (E.depth (E.dn (min bl br) r))) : Nat) : Int)] 111) [((φ1 0), .cells #[.int .u64 ((bl - (min bl br) : Nat) : Int), .pointer pl] 57), ((φ1 1), .cells #[.int .u64 ((br - (min bl br) : Nat) : Int), .pointer pr] 57), ((φ1 2), .cells #[.int .u64 ((n + (min bl br) : Nat) : Int), .pointer (some ⟨(φ22 17), 0, none⟩)] 57)] (by kernel_rfl) (by kernel_rfl)
        replace hl := ERep.mono le23 hl
        replace hr := ERep.mono le23 hr
        exact ⟨_, _, _, rfl, s, ⟨_, _, rfl, by rw [E.mk, if_neg (fun h => by rw [hc9] at h; cases h.2.1), ← hbl, ← hbr]; exact ⟨rfl, _, _, _, _, _, rfl, hk23, ERep.dn _ hl, ERep.dn _ hr⟩⟩⟩
  ·
    rw [hc5]
    refine ops_rule (C := []) [((φ1 0), .cells #[.int .u64 ((bl : Nat) : Int), .pointer pl] 57), ((φ1 1), .cells #[.int .u64 ((br : Nat) : Int), .pointer pr] 57), ((φ1 2), .cells #[.int .u64 0, .pointer none] 57)] [] 10 [] 0 (fun φ24 => [(20, .bool false), (19, undef), (18, undef), (17, undef), (16, undef), (15, undef), (14, .bool false), (13, .bool false), (12, undef), (11, undef)]) (fun φ24 => [((φ1 0), .cells #[.int .u64 ((bl : Nat) : Int), .pointer pl] 57), ((φ1 1), .cells #[.int .u64 ((br : Nat) : Int), .pointer pr] 57), ((φ1 2), .cells #[.int .u64 0, .pointer none] 57)]) (fun φ24 => []) s trivial (fun φ24 => by kernel_rfl) ?_
    intro φ24 w24 s
    refine ops_done (by kernel_rfl) ?_
    refine cond_false_rule (b := false) (by kernel_rfl) rfl ?_
    refine wp_skip ?_
    refine wp_seq ?_
    refine region_rule ?_
    refine ops_rule (C := []) [((φ1 0), .cells #[.int .u64 ((bl : Nat) : Int), .pointer pl] 57), ((φ1 1), .cells #[.int .u64 ((br : Nat) : Int), .pointer pr] 57), ((φ1 2), .cells #[.int .u64 0, .pointer none] 57)] [] 6 [.o 0, .o 1] 0 (fun φ25 => [(7, .int .u64 (if ((br : Nat) : Int) < ((bl : Nat) : Int) then ((br : Nat) : Int) else ((bl : Nat) : Int))), (30, .int .u64 (if ((br : Nat) : Int) < ((bl : Nat) : Int) then ((br : Nat) : Int) else ((bl : Nat) : Int))), (29, .int .u64 ((br : Nat) : Int)), (28, .pointer (some ⟨(φ1 1), 0, none⟩)), (27, .int .u64 ((bl : Nat) : Int)), (26, .pointer (some ⟨(φ1 0), 0, none⟩))]) (fun φ25 => [((φ1 0), .cells #[.int .u64 ((bl : Nat) : Int), .pointer pl] 57), ((φ1 1), .cells #[.int .u64 ((br : Nat) : Int), .pointer pr] 57), ((φ1 2), .cells #[.int .u64 0, .pointer none] 57)]) (fun φ25 => [(φ1 0), (φ1 1)]) s trivial (fun φ25 => by kernel_rfl) ?_
    intro φ25 w25 s
    rw [nat_min (a := bl) (b := br)]
    refine ops_done (by kernel_rfl) ?_
    refine wp_seq ?_
    refine region_rule ?_
    refine ops_rule (C := []) [((φ1 0), .cells #[.int .u64 ((bl : Nat) : Int), .pointer pl] 57), ((φ1 1), .cells #[.int .u64 ((br : Nat) : Int), .pointer pr] 57), ((φ1 2), .cells #[.int .u64 0, .pointer none] 57)] [] 6 [.o 0, .o 0] 0 (fun φ26 => [(35, .pointer (some ⟨(φ1 0), 0, none⟩)), (34, .int .u64 (IntKind.wrap .u64 (((bl : Nat) : Int) - ((min bl br : Nat) : Int)))), (33, .int .u64 ((min bl br : Nat) : Int)), (32, .int .u64 ((bl : Nat) : Int)), (31, .pointer (some ⟨(φ1 0), 0, none⟩))]) (fun φ26 => [((φ1 0), .cells #[.int .u64 (IntKind.wrap .u64 (((bl : Nat) : Int) - ((min bl br : Nat) : Int))), .pointer pl] 57), ((φ1 1), .cells #[.int .u64 ((br : Nat) : Int), .pointer pr] 57), ((φ1 2), .cells #[.int .u64 0, .pointer none] 57)]) (fun φ26 => [(φ1 0), (φ1 0)]) s trivial (fun φ26 => by kernel_rfl) ?_
    intro φ26 w26 s
    rw [nat_subU (a := bl) (b := (min bl br)) (by omega) (by omega)] at s ⊢
    refine ops_done (by kernel_rfl) ?_
    refine wp_seq ?_
    refine region_rule ?_
    refine ops_rule (C := []) [((φ1 0), .cells #[.int .u64 ((bl - (min bl br) : Nat) : Int), .pointer pl] 57), ((φ1 1), .cells #[.int .u64 ((br : Nat) : Int), .pointer pr] 57), ((φ1 2), .cells #[.int .u64 0, .pointer none] 57)] [] 6 [.o 1, .o 1] 0 (fun φ27 => [(40, .pointer (some ⟨(φ1 1), 0, none⟩)), (39, .int .u64 (IntKind.wrap .u64 (((br : Nat) : Int) - ((min bl br : Nat) : Int)))), (38, .int .u64 ((min bl br : Nat) : Int)), (37, .int .u64 ((br : Nat) : Int)), (36, .pointer (some ⟨(φ1 1), 0, none⟩))]) (fun φ27 => [((φ1 0), .cells #[.int .u64 ((bl - (min bl br) : Nat) : Int), .pointer pl] 57), ((φ1 1), .cells #[.int .u64 (IntKind.wrap .u64 (((br : Nat) : Int) - ((min bl br : Nat) : Int))), .pointer pr] 57), ((φ1 2), .cells #[.int .u64 0, .pointer none] 57)]) (fun φ27 => [(φ1 1), (φ1 1)]) s trivial (fun φ27 => by kernel_rfl) ?_
    intro φ27 w27 s
    rw [nat_subU (a := br) (b := (min bl br)) (by omega) (by omega)] at s ⊢
    refine ops_done (by kernel_rfl) ?_
    refine wp_seq ?_
    refine draw_rule (C := []) ⟨(fun φ28 xs28 => [.look 0 [] [], .look 0 [] [], .sub 0 [] [] (.int .u64 (IntKind.wrap .u64 (((n : Nat) : Int) + ((min bl br : Nat) : Int)))), .look 0 [.o 0, .o 0] [(φ1 0), (φ1 0)], .look 0 [.o 1, .o 1] [(φ1 1), (φ1 1)], .look 0 [.o 0, .o 0] [(φ1 0), (φ1 0)], .call 62 #[.agg #[.int .u64 ((bl - (min bl br) : Nat) : Int), .pointer pl]], .look 0 [.o 1, .o 1] [(φ1 1), (φ1 1)], .call 62 #[.agg #[.int .u64 ((br - (min bl br) : Nat) : Int), .pointer pr]], .sub 0 [] [] (.int .u64 (if ((E.top (E.dn (min bl br) r) : Nat) : Int) > ((E.top (E.dn (min bl br) l) : Nat) : Int) then ((E.top (E.dn (min bl br) r) : Nat) : Int) else ((E.top (E.dn (min bl br) l) : Nat) : Int))), .look 0 [.o 0, .o 0] [(φ1 0), (φ1 0)], .call 61 #[.agg #[.int .u64 ((bl - (min bl br) : Nat) : Int), .pointer pl]], .look 0 [.o 1, .o 1] [(φ1 1), (φ1 1)], .call 61 #[.agg #[.int .u64 ((br - (min bl br) : Nat) : Int), .pointer pr]], .sub 0 [] [] (.int .i64 (if ((E.depth (E.dn (min bl br) r) : Nat) : Int) > ((E.depth (E.dn (min bl br) l) : Nat) : Int) then ((E.depth (E.dn (min bl br) r) : Nat) : Int) else ((E.depth (E.dn (min bl br) l) : Nat) : Int))), .sub 0 [] [] (.int .i64 (IntKind.wrap .i64 (((1 : Nat) : Int) + ((max (E.depth (E.dn (min bl br) l)) (E.depth (E.dn (min bl br) r)) : Nat) : Int)))), .look 0 [] [], .new, .look 0 [] [], .store 0 [.o 2, .o 2] [(φ1 2), (φ1 2)]]), (fun φ28 xs28 => [.int .u64 ((n : Nat) : Int), .int .u64 ((min bl br : Nat) : Int), .int .u64 ((n + (min bl br) : Nat) : Int), .agg #[.int .u64 ((bl - (min bl br) : Nat) : Int), .pointer pl], .agg #[.int .u64 ((br - (min bl br) : Nat) : Int), .pointer pr], .agg #[.int .u64 ((bl - (min bl br) : Nat) : Int), .pointer pl], .int .u64 ((E.top (E.dn (min bl br) l) : Nat) : Int), .agg #[.int .u64 ((br - (min bl br) : Nat) : Int), .pointer pr], .int .u64 ((E.top (E.dn (min bl br) r) : Nat) : Int), .int .u64 ((max (E.top (E.dn (min bl br) l)) (E.top (E.dn (min bl br) r)) : Nat) : Int), .agg #[.int .u64 ((bl - (min bl br) : Nat) : Int), .pointer pl], .int .i64 ((E.depth (E.dn (min bl br) l) : Nat) : Int), .agg #[.int .u64 ((br - (min bl br) : Nat) : Int), .pointer pr], .int .i64 ((E.depth (E.dn (min bl br) r) : Nat) : Int), .int .i64 ((max (E.depth (E.dn (min bl br) l)) (E.depth (E.dn (min bl br) r)) : Nat) : Int), .int .i64 ((1 + (max (E.depth (E.dn (min bl br) l)) (E.depth (E.dn (min bl br) r))) : Nat) : Int), .agg #[.int .u64 ((bl - (min bl br) : Nat) : Int), .pointer pl, .int .u64 ((br - (min bl br) : Nat) : Int), .pointer pr, .int .u64 ((max (E.top (E.dn (min bl br) l)) (E.top (E.dn (min bl br) r)) : Nat) : Int), .int .i64 ((1 + (max (E.depth (E.dn (min bl br) l)) (E.depth (E.dn (min bl br) r))) : Nat) : Int)], .pointer (some ⟨(φ28 17), 0, none⟩), .agg #[.int .u64 ((n + (min bl br) : Nat) : Int), .pointer (some ⟨(φ28 17), 0, none⟩)], undef]), (fun φ28 xs28 => [[((φ1 0), .cells #[.int .u64 ((bl - (min bl br) : Nat) : Int), .pointer pl] 57), ((φ1 1), .cells #[.int .u64 ((br - (min bl br) : Nat) : Int), .pointer pr] 57), ((φ1 2), .cells #[.int .u64 0, .pointer none] 57)], [((φ1 0), .cells #[.int .u64 ((bl - (min bl br) : Nat) : Int), .pointer pl] 57), ((φ1 1), .cells #[.int .u64 ((br - (min bl br) : Nat) : Int), .pointer pr] 57), ((φ1 2), .cells #[.int .u64 ((n + (min bl br) : Nat) : Int), .pointer (some ⟨(φ28 17), 0, none⟩)] 57)]]), (fun φ28 xs28 => [[default, default, default, default, default, default, default, default, default, default, default, default, default, default, default, default, default, .cells #[.int .u64 ((bl - (min bl br) : Nat) : Int), .pointer pl, .int .u64 ((br - (min bl br) : Nat) : Int), .pointer pr, .int .u64 ((max (E.top (E.dn (min bl br) l)) (E.top (E.dn (min bl br) r)) : Nat) : Int), .int .i64 ((1 + (max (E.depth (E.dn (min bl br) l)) (E.depth (E.dn (min bl br) r))) : Nat) : Int)] 111, default, default], [default, default, default, default, default, default, default, default, default, default, default, default, default, default, default, default, default, .cells #[.int .u64 ((bl - (min bl br) : Nat) : Int), .pointer pl, .int .u64 ((br - (min bl br) : Nat) : Int), .pointer pr, .int .u64 ((max (E.top (E.dn (min bl br) l)) (E.top (E.dn (min bl br) r)) : Nat) : Int), .int .i64 ((1 + (max (E.depth (E.dn (min bl br) l)) (E.depth (E.dn (min bl br) r))) : Nat) : Int)] 111, default, default]]), [19], [1, 1, 5, 1, 1, 1, 3, 1, 3, 5, 1, 3, 1, 3, 5, 5, 1, 2, 1, 4]⟩ (fun j => ([MP.any, MP.any, MP.any, MP.any, MP.any, MP.any, MP.any, MP.any, MP.any, MP.any, MP.any, MP.any, MP.any, MP.any, MP.any, MP.any, MP.any, MP.any, MP.any, MP.any] : List MP).getD j MP.any) [6, 8, 11, 13] [2, 9, 14, 15] [] (fun φ28 xs28 => [[none, none, none, none, none, none, none, none, none, none, none, none, none, none, none, none, none, none, none, none]]) (fun φ28 xs28 => [(41, .int .u64 ((n : Nat) : Int)), (42, .int .u64 ((min bl br : Nat) : Int)), (43, .int .u64 ((n + (min bl br) : Nat) : Int)), (44, .agg #[.int .u64 ((bl - (min bl br) : Nat) : Int), .pointer pl]), (45, .agg #[.int .u64 ((br - (min bl br) : Nat) : Int), .pointer pr]), (46, .agg #[.int .u64 ((bl - (min bl br) : Nat) : Int), .pointer pl]), (47, .int .u64 ((E.top (E.dn (min bl br) l) : Nat) : Int)), (48, .agg #[.int .u64 ((br - (min bl br) : Nat) : Int), .pointer pr]), (49, .int .u64 ((E.top (E.dn (min bl br) r) : Nat) : Int)), (50, .int .u64 ((max (E.top (E.dn (min bl br) l)) (E.top (E.dn (min bl br) r)) : Nat) : Int)), (51, .agg #[.int .u64 ((bl - (min bl br) : Nat) : Int), .pointer pl]), (52, .int .i64 ((E.depth (E.dn (min bl br) l) : Nat) : Int)), (53, .agg #[.int .u64 ((br - (min bl br) : Nat) : Int), .pointer pr]), (54, .int .i64 ((E.depth (E.dn (min bl br) r) : Nat) : Int)), (55, .int .i64 ((max (E.depth (E.dn (min bl br) l)) (E.depth (E.dn (min bl br) r)) : Nat) : Int)), (56, .int .i64 ((1 + (max (E.depth (E.dn (min bl br) l)) (E.depth (E.dn (min bl br) r))) : Nat) : Int)), (57, .agg #[.int .u64 ((bl - (min bl br) : Nat) : Int), .pointer pl, .int .u64 ((br - (min bl br) : Nat) : Int), .pointer pr, .int .u64 ((max (E.top (E.dn (min bl br) l)) (E.top (E.dn (min bl br) r)) : Nat) : Int), .int .i64 ((1 + (max (E.depth (E.dn (min bl br) l)) (E.depth (E.dn (min bl br) r))) : Nat) : Int)]), (58, .pointer (some ⟨(φ28 17), 0, none⟩)), (59, .agg #[.int .u64 ((n + (min bl br) : Nat) : Int), .pointer (some ⟨(φ28 17), 0, none⟩)])]) (fun φ28 xs28 => [((φ1 0), .cells #[.int .u64 ((bl - (min bl br) : Nat) : Int), .pointer pl] 57), ((φ1 1), .cells #[.int .u64 ((br - (min bl br) : Nat) : Int), .pointer pr] 57), ((φ1 2), .cells #[.int .u64 ((n + (min bl br) : Nat) : Int), .pointer (some ⟨(φ28 17), 0, none⟩)] 57), ((φ28 17), .cells #[.int .u64 ((bl - (min bl br) : Nat) : Int), .pointer pl, .int .u64 ((br - (min bl br) : Nat) : Int), .pointer pr, .int .u64 ((max (E.top (E.dn (min bl br) l)) (E.top (E.dn (min bl br) r)) : Nat) : Int), .int .i64 ((1 + (max (E.depth (E.dn (min bl br) l)) (E.depth (E.dn (min bl br) r))) : Nat) : Int)] 111)]) s trivial (by kernel_rfl) (by kernel_rfl) (fun _ _ => by kernel_rfl) (fun _ _ => by kernel_rfl) ⟨fun _ _ => by kernel_rfl, fun _ _ => by kernel_rfl, fun _ _ => by kernel_rfl, fun _ _ => by kernel_rfl⟩ (fun _ _ _ => by kernel_rfl) (fun _ _ => by kernel_rfl) (fun _ _ => by kernel_rfl) (fun _ _ => by kernel_rfl) (fun _ _ => by kernel_rfl) (fun _ _ => by kernel_rfl) ⟨kcast (A := ∀ (φ28 : Nat → Nat) (xs28 : Xs), (.int .u64 (IntKind.wrap .u64 (((n : Nat) : Int) + ((min bl br : Nat) : Int))) : Value) = .int .u64 ((n + (min bl br) : Nat) : Int)) (by kernel_rfl) (fun φ28 xs28 => congrArg (Value.int .u64) ((nat_addU (a := n) (b := (min bl br)) (by omega)))), ⟨kcast (A := ∀ (φ28 : Nat → Nat) (xs28 : Xs), (.int .u64 (if ((E.top (E.dn (min bl br) r) : Nat) : Int) > ((E.top (E.dn (min bl br) l) : Nat) : Int) then ((E.top (E.dn (min bl br) r) : Nat) : Int) else ((E.top (E.dn (min bl br) l) : Nat) : Int)) : Value) = .int .u64 ((max (E.top (E.dn (min bl br) l)) (E.top (E.dn (min bl br) r)) : Nat) : Int)) (by kernel_rfl) (fun φ28 xs28 => congrArg (Value.int .u64) ((nat_max (a := (E.top (E.dn (min bl br) l))) (b := (E.top (E.dn (min bl br) r)))))), ⟨kcast (A := ∀ (φ28 : Nat → Nat) (xs28 : Xs), (.int .i64 (if ((E.depth (E.dn (min bl br) r) : Nat) : Int) > ((E.depth (E.dn (min bl br) l) : Nat) : Int) then ((E.depth (E.dn (min bl br) r) : Nat) : Int) else ((E.depth (E.dn (min bl br) l) : Nat) : Int)) : Value) = .int .i64 ((max (E.depth (E.dn (min bl br) l)) (E.depth (E.dn (min bl br) r)) : Nat) : Int)) (by kernel_rfl) (fun φ28 xs28 => congrArg (Value.int .i64) ((nat_max (a := (E.depth (E.dn (min bl br) l))) (b := (E.depth (E.dn (min bl br) r)))))), ⟨kcast (A := ∀ (φ28 : Nat → Nat) (xs28 : Xs), (.int .i64 (IntKind.wrap .i64 (((1 : Nat) : Int) + ((max (E.depth (E.dn (min bl br) l)) (E.depth (E.dn (min bl br) r)) : Nat) : Int))) : Value) = .int .i64 ((1 + (max (E.depth (E.dn (min bl br) l)) (E.depth (E.dn (min bl br) r))) : Nat) : Int)) (by kernel_rfl) (fun φ28 xs28 => congrArg (Value.int .i64) ((nat_addI (a := 1) (b := (max (E.depth (E.dn (min bl br) l)) (E.depth (E.dn (min bl br) r)))) (by omega)))), trivial⟩⟩⟩⟩ trivial (by kernel_rfl) ⟨?c28_6, ?c28_8, ?c28_11, ?c28_13, trivial⟩ ?k28
    case c28_6 =>
      refine kcast (A := ∀ (φ28 : Nat → Nat) (xs28 : Xs) (J6_28 : IM), I3.Le J6_28 → Fun Try.prog 62 #[.agg #[.int .u64 ((bl - (min bl br) : Nat) : Int), .pointer pl]] J6_28 (fun v J' => ∃ x : UX, v = .int .u64 ((E.top (E.dn (min bl br) l) : Nat) : Int) ∧ (True))) (by kernel_rfl) ?_
      intro φ28 xs28 J6_28 leJ
      have hl := ERep.mono leJ hl
      exact Fun.mono (max_c (ERep.dn (min bl br) hl) (by omega)) (fun v J' _ h => ⟨UX.d, h, trivial⟩)
    case c28_8 =>
      refine kcast (A := ∀ (φ28 : Nat → Nat) (xs28 : Xs) (J8_28 : IM), I3.Le J8_28 → (True) → Fun Try.prog 62 #[.agg #[.int .u64 ((br - (min bl br) : Nat) : Int), .pointer pr]] J8_28 (fun v J' => ∃ x : UX, v = .int .u64 ((E.top (E.dn (min bl br) r) : Nat) : Int) ∧ (True))) (by kernel_rfl) ?_
      intro φ28 xs28 J8_28 leJ
      rintro _
      have hr := ERep.mono leJ hr
      exact Fun.mono (max_c (ERep.dn (min bl br) hr) (by omega)) (fun v J' _ h => ⟨UX.d, h, trivial⟩)
    case c28_11 =>
      refine kcast (A := ∀ (φ28 : Nat → Nat) (xs28 : Xs) (J11_28 : IM), I3.Le J11_28 → (True) → (True) → Fun Try.prog 61 #[.agg #[.int .u64 ((bl - (min bl br) : Nat) : Int), .pointer pl]] J11_28 (fun v J' => ∃ x : UX, v = .int .i64 ((E.depth (E.dn (min bl br) l) : Nat) : Int) ∧ (True))) (by kernel_rfl) ?_
      intro φ28 xs28 J11_28 leJ
      rintro _ _
      have hl := ERep.mono leJ hl
      exact Fun.mono (depth_c (ERep.dn (min bl br) hl)) (fun v J' _ h => ⟨UX.d, h, trivial⟩)
    case c28_13 =>
      refine kcast (A := ∀ (φ28 : Nat → Nat) (xs28 : Xs) (J13_28 : IM), I3.Le J13_28 → (True) → (True) → (True) → Fun Try.prog 61 #[.agg #[.int .u64 ((br - (min bl br) : Nat) : Int), .pointer pr]] J13_28 (fun v J' => ∃ x : UX, v = .int .i64 ((E.depth (E.dn (min bl br) r) : Nat) : Int) ∧ (True))) (by kernel_rfl) ?_
      intro φ28 xs28 J13_28 leJ
      rintro _ _ _
      have hr := ERep.mono leJ hr
      exact Fun.mono (depth_c (ERep.dn (min bl br) hr)) (fun v J' _ h => ⟨UX.d, h, trivial⟩)
    case k28 =>
      rintro φ28 xs28 I28 w28 le28 s _ _ _ _
      replace hl := ERep.mono le28 hl
      replace hr := ERep.mono le28 hr
      refine wp_ret ?_
      refine ret_rule (C := []) [((φ1 0), .cells #[.int .u64 ((bl - (min bl br) : Nat) : Int), .pointer pl] 57), ((φ1 1), .cells #[.int .u64 ((br - (min bl br) : Nat) : Int), .pointer pr] 57), ((φ1 2), .cells #[.int .u64 ((n + (min bl br) : Nat) : Int), .pointer (some ⟨(φ28 17), 0, none⟩)] 57), ((φ28 17), .cells #[.int .u64 ((bl - (min bl br) : Nat) : Int), .pointer pl, .int .u64 ((br - (min bl br) : Nat) : Int), .pointer pr, .int .u64 ((max (E.top (E.dn (min bl br) l)) (E.top (E.dn (min bl br) r)) : Nat) : Int), .int .i64 ((1 + (max (E.depth (E.dn (min bl br) l)) (E.depth (E.dn (min bl br) r))) : Nat) : Int)] 111)] [] (.agg #[.int .u64 ((n + (min bl br) : Nat) : Int), .pointer (some ⟨(φ28 17), 0, none⟩)]) [.o 2, .o 2] [(φ1 2), (φ1 2)] s trivial (by kernel_rfl) ?_
      obtain ⟨I29, le29, hk29, s⟩ := s.freezeAt 3 (φ28 17) (.cells #[.int .u64 ((bl - (min bl br) : Nat) : Int), .pointer pl, .int .u64 ((br - (min bl br) : Nat) : Int), .pointer pr, .int .u64 ((max (E.top (E.dn (min bl br) l)) (E.top (E.dn (min bl br) r)) : Nat) : Int), .int .i64 ((1 + (max (E.depth (E.dn (min bl br) l)) (E.depth (E.dn (min bl br) r))) : Nat) : Int)] 111) [((φ1 0), .cells #[.int .u64 ((bl - (min bl br) : Nat) : Int), .pointer pl] 57), ((φ1 1), .cells #[.int .u64 ((br - (min bl br) : Nat) : Int), .pointer pr] 57), ((φ1 2), .cells #[.int .u64 ((n + (min bl br) : Nat) : Int), .pointer (some ⟨(φ28 17), 0, none⟩)] 57)] (by kernel_rfl) (by kernel_rfl)
      replace hl := ERep.mono le29 hl
      replace hr := ERep.mono le29 hr
      exact ⟨_, _, _, rfl, s, ⟨_, _, rfl, by rw [E.mk, if_neg (fun h => by rw [hc5] at h; cases h.1), ← hbl, ← hbr]; exact ⟨rfl, _, _, _, _, _, rfl, hk29, ERep.dn _ hl, ERep.dn _ hr⟩⟩⟩

end Go.Proofs.Ytgdickihjaomjaa.Ev

/- The program's event trees: Node, Leq, Join, Same. -/
set_option linter.all false
set_option maxRecDepth 100000
namespace Go.Proofs.Ytgdickihjaomjaa.Ev
open Go.RowKit Go.Sep

def nodeR (n : Nat) (l r : E) : E × Nat :=
  if 16 ≤ max l.depth r.depth then (.leaf 0, 3) else if 1048576 < n then (.leaf 0, 4) else if 1048576 < n + max l.top r.top then (.leaf 0, 4) else (E.mk n l r, 0)
theorem E.mk_top (n : Nat) (l r : E) : (E.mk n l r).top ≤ n + max l.top r.top := by
  have h1 := E.base_le l
  have h2 := E.base_le r
  unfold E.mk
  split
  · show n + l.base ≤ _; omega
  · have key : ∀ (m : Nat) (t : E), m ≤ t.base → (E.dn m t).top + m ≤ t.top := fun m t hm => by
      cases t with
      | leaf k => simp only [E.dn, E.top, E.base] at *; omega
      | node k a b => simp only [E.dn, E.top, E.base] at *; omega
    have h3 := key (min l.base r.base) l (by omega)
    have h4 := key (min l.base r.base) r (by omega)
    show n + min l.base r.base + max (E.dn (min l.base r.base) l).top (E.dn (min l.base r.base) r).top ≤ _
    omega
theorem E.mk_depth (n : Nat) (l r : E) : (E.mk n l r).depth ≤ 1 + max l.depth r.depth := by
  unfold E.mk
  split
  · show 0 ≤ _; omega
  · show 1 + max (E.dn _ l).depth (E.dn _ r).depth ≤ _
    rw [E.dn_depth, E.dn_depth]; omega
set_option maxHeartbeats 1000000 in
theorem nodeR_c {I : IM} {n : Nat} {l r : E} {bl br : Nat} {pl pr : Option Addr} (hl : ERep I l bl pl) (hr : ERep I r br pr) (htl : l.top ≤ 1048576) (htr : r.top ≤ 1048576) (hdl : l.depth ≤ 1000) (hdr : r.depth ≤ 1000) : Fun Try.prog 49 #[.int .u64 ((n : Nat) : Int), evv bl pl, evv br pr] I (fun v J => ∃ b p, v = .tuple #[evv b p, .int .i64 (((nodeR n l r).2 : Nat) : Int)] ∧ ERep J (nodeR n l r).1 b p) := by
  refine enter_rule 32 [(0, .int .u64 ((n : Nat) : Int)), (1, .agg #[.int .u64 ((bl : Nat) : Int), .pointer pl]), (2, .agg #[.int .u64 ((br : Nat) : Int), .pointer pr])] Try.func49 rfl (by kernel_rfl) ?_
  intro w s
  refine wp_seq ?_
  refine region_rule ?_
  refine ops_rule (C := []) [] [] 4 [] 3 (fun φ1 => [(7, .int .i64 0), (6, .pointer (some ⟨(φ1 2), 0, none⟩)), (5, .pointer (some ⟨(φ1 1), 0, none⟩)), (4, .pointer (some ⟨(φ1 0), 0, none⟩))]) (fun φ1 => [((φ1 0), .cells #[.int .u64 ((bl : Nat) : Int), .pointer pl] 57), ((φ1 1), .cells #[.int .u64 ((br : Nat) : Int), .pointer pr] 57), ((φ1 2), .cells #[.int .u64 0, .pointer none] 57)]) (fun φ1 => []) s trivial (fun φ1 => by kernel_rfl) ?_
  intro φ1 w1 s
  refine ops_done (by kernel_rfl) ?_
  refine wp_seq ?_
  refine wp_seq ?_
  refine draw_rule (C := []) ⟨(fun φ2 xs2 => [.look 0 [.o 0, .o 0] [(φ1 0), (φ1 0)], .call 61 #[.agg #[.int .u64 ((bl : Nat) : Int), .pointer pl]], .look 0 [.o 1, .o 1] [(φ1 1), (φ1 1)], .call 61 #[.agg #[.int .u64 ((br : Nat) : Int), .pointer pr]], .sub 0 [] [] (.int .i64 (if ((E.depth r : Nat) : Int) > ((E.depth l : Nat) : Int) then ((E.depth r : Nat) : Int) else ((E.depth l : Nat) : Int))), .sub 0 [] [] (.bool (decide (((max (E.depth l) (E.depth r) : Nat) : Int) ≥ ((16 : Nat) : Int))))]), (fun φ2 xs2 => [.agg #[.int .u64 ((bl : Nat) : Int), .pointer pl], .int .i64 ((E.depth l : Nat) : Int), .agg #[.int .u64 ((br : Nat) : Int), .pointer pr], .int .i64 ((E.depth r : Nat) : Int), .int .i64 ((max (E.depth l) (E.depth r) : Nat) : Int), .bool (decide (16 ≤ (max (E.depth l) (E.depth r))))]), (fun φ2 xs2 => [[((φ1 0), .cells #[.int .u64 ((bl : Nat) : Int), .pointer pl] 57), ((φ1 1), .cells #[.int .u64 ((br : Nat) : Int), .pointer pr] 57), ((φ1 2), .cells #[.int .u64 0, .pointer none] 57)]]), (fun φ2 xs2 => [[default, default, default, default, default, default]]), [], [1, 3, 1, 3, 5, 5]⟩ (fun j => ([MP.any, MP.any, MP.any, MP.any, MP.any, MP.any] : List MP).getD j MP.any) [1, 3] [4, 5] [] (fun φ2 xs2 => []) (fun φ2 xs2 => [(8, .agg #[.int .u64 ((bl : Nat) : Int), .pointer pl]), (9, .int .i64 ((E.depth l : Nat) : Int)), (10, .agg #[.int .u64 ((br : Nat) : Int), .pointer pr]), (11, .int .i64 ((E.depth r : Nat) : Int)), (12, .int .i64 ((max (E.depth l) (E.depth r) : Nat) : Int)), (13, .bool (decide (16 ≤ (max (E.depth l) (E.depth r)))))]) (fun φ2 xs2 => [((φ1 0), .cells #[.int .u64 ((bl : Nat) : Int), .pointer pl] 57), ((φ1 1), .cells #[.int .u64 ((br : Nat) : Int), .pointer pr] 57), ((φ1 2), .cells #[.int .u64 0, .pointer none] 57)]) s trivial (by kernel_rfl) (by kernel_rfl) (fun _ _ => by kernel_rfl) (fun _ _ => by kernel_rfl) ⟨fun _ _ => by kernel_rfl, fun _ _ => by kernel_rfl, fun _ _ => by kernel_rfl, fun _ _ => by kernel_rfl⟩ (fun _ _ _ => by kernel_rfl) (fun _ _ => by kernel_rfl) (fun _ _ => by kernel_rfl) (fun _ _ => by kernel_rfl) (fun _ _ => by kernel_rfl) (fun _ _ => by kernel_rfl) ⟨kcast (A := ∀ (φ2 : Nat → Nat) (xs2 : Xs), (.int .i64 (if ((E.depth r : Nat) : Int) > ((E.depth l : Nat) : Int) then ((E.depth r : Nat) : Int) else ((E.depth l : Nat) : Int)) : Value) = .int .i64 ((max (E.depth l) (E.depth r) : Nat) : Int)) (by kernel_rfl) (fun φ2 xs2 => congrArg (Value.int .i64) ((nat_max (a := (E.depth l)) (b := (E.depth r))))), ⟨kcast (A := ∀ (φ2 : Nat → Nat) (xs2 : Xs), (.bool (decide (((max (E.depth l) (E.depth r) : Nat) : Int) ≥ ((16 : Nat) : Int))) : Value) = .bool (decide (16 ≤ (max (E.depth l) (E.depth r))))) (by kernel_rfl) (fun φ2 xs2 => congrArg Value.bool ((nat_geq (a := (max (E.depth l) (E.depth r))) (b := 16)))), trivial⟩⟩ trivial (by kernel_rfl) ⟨?c2_1, ?c2_3, trivial⟩ ?k2
  case c2_1 =>
    refine kcast (A := ∀ (φ2 : Nat → Nat) (xs2 : Xs) (J1_2 : IM), I.Le J1_2 → Fun Try.prog 61 #[.agg #[.int .u64 ((bl : Nat) : Int), .pointer pl]] J1_2 (fun v J' => ∃ x : UX, v = .int .i64 ((E.depth l : Nat) : Int) ∧ (True))) (by kernel_rfl) ?_
    intro φ2 xs2 J1_2 leJ
    have hl := ERep.mono leJ hl
    exact Fun.mono (depth_c hl) (fun v J' _ h => ⟨UX.d, h, trivial⟩)
  case c2_3 =>
    refine kcast (A := ∀ (φ2 : Nat → Nat) (xs2 : Xs) (J3_2 : IM), I.Le J3_2 → (True) → Fun Try.prog 61 #[.agg #[.int .u64 ((br : Nat) : Int), .pointer pr]] J3_2 (fun v J' => ∃ x : UX, v = .int .i64 ((E.depth r : Nat) : Int) ∧ (True))) (by kernel_rfl) ?_
    intro φ2 xs2 J3_2 leJ
    rintro _
    have hr := ERep.mono leJ hr
    exact Fun.mono (depth_c hr) (fun v J' _ h => ⟨UX.d, h, trivial⟩)
  case k2 =>
    rintro φ2 xs2 I2 w2 le2 s _ _
    replace hl := ERep.mono le2 hl
    replace hr := ERep.mono le2 hr
    rcases Bool.eq_false_or_eq_true (decide (16 ≤ (max (E.depth l) (E.depth r)))) with hc3 | hc3
    ·
      rw [hc3]
      refine cond_true_rule (b := true) (by kernel_rfl) rfl ?_
      refine wp_seq ?_
      refine region_rule ?_
      refine ops_rule (C := []) [((φ1 0), .cells #[.int .u64 ((bl : Nat) : Int), .pointer pl] 57), ((φ1 1), .cells #[.int .u64 ((br : Nat) : Int), .pointer pr] 57), ((φ1 2), .cells #[.int .u64 0, .pointer none] 57)] [] 3 [.o 2, .o 2] 0 (fun φ4 => [(7, .int .i64 3), (14, .agg #[.int .u64 0, .pointer none])]) (fun φ4 => [((φ1 0), .cells #[.int .u64 ((bl : Nat) : Int), .pointer pl] 57), ((φ1 1), .cells #[.int .u64 ((br : Nat) : Int), .pointer pr] 57), ((φ1 2), .cells #[.int .u64 0, .pointer none] 57)]) (fun φ4 => [(φ1 2), (φ1 2)]) s trivial (fun φ4 => by kernel_rfl) ?_
      intro φ4 w4 s
      refine ops_done (by kernel_rfl) ?_
      refine wp_ret ?_
      refine ret_rule (C := []) [((φ1 0), .cells #[.int .u64 ((bl : Nat) : Int), .pointer pl] 57), ((φ1 1), .cells #[.int .u64 ((br : Nat) : Int), .pointer pr] 57), ((φ1 2), .cells #[.int .u64 0, .pointer none] 57)] [] (.tuple #[.agg #[.int .u64 0, .pointer none], .int .i64 3]) [.o 2, .o 2] [(φ1 2), (φ1 2)] s trivial (by kernel_rfl) ?_
      have hR : nodeR n l r = (E.leaf 0, 3) := by unfold nodeR; rw [if_pos (of_decide_eq_true hc3)]
      rw [hR]
      exact ⟨_, _, _, rfl, s, ⟨_, _, rfl, rfl, rfl⟩⟩
    ·
      rw [hc3]
      refine cond_false_rule (b := false) (by kernel_rfl) rfl ?_
      refine wp_skip ?_
      refine wp_seq ?_
      refine wp_seq ?_
      rcases Bool.eq_false_or_eq_true (decide (1048576 < n)) with hc5 | hc5
      ·
        refine draw_rule (C := []) ⟨(fun φ6 xs6 => [.look 0 [] [], .sub 0 [] [] (.bool (decide (((n : Nat) : Int) > ((1048576 : Nat) : Int)))), .look 0 [] [], .skip, .skip, .skip, .skip, .skip, .skip, .skip, .skip, .look 0 [] []]), (fun φ6 xs6 => [.int .u64 ((n : Nat) : Int), .bool true, .bool true, undef, undef, undef, undef, undef, undef, undef, undef, .bool true]), (fun φ6 xs6 => [[((φ1 0), .cells #[.int .u64 ((bl : Nat) : Int), .pointer pl] 57), ((φ1 1), .cells #[.int .u64 ((br : Nat) : Int), .pointer pr] 57), ((φ1 2), .cells #[.int .u64 0, .pointer none] 57)]]), (fun φ6 xs6 => [[default, default, default, default, default, default, default, default, default, default, default, default]]), [], [1, 5, 1, 0, 0, 0, 0, 0, 0, 0, 0, 1]⟩ (fun j => ([MP.any, MP.any, MP.any, MP.any, MP.any, MP.any, MP.any, MP.any, MP.any, MP.any, MP.any, MP.any] : List MP).getD j MP.any) [] [1] [] (fun φ6 xs6 => []) (fun φ6 xs6 => [(15, .int .u64 ((n : Nat) : Int)), (16, .bool true), (17, .bool true), (18, undef), (19, undef), (20, undef), (21, undef), (22, undef), (23, undef), (24, undef), (25, undef), (26, .bool true)]) (fun φ6 xs6 => [((φ1 0), .cells #[.int .u64 ((bl : Nat) : Int), .pointer pl] 57), ((φ1 1), .cells #[.int .u64 ((br : Nat) : Int), .pointer pr] 57), ((φ1 2), .cells #[.int .u64 0, .pointer none] 57)]) s trivial (by kernel_rfl) (by kernel_rfl) (fun _ _ => by kernel_rfl) (fun _ _ => by kernel_rfl) ⟨fun _ _ => by kernel_rfl, fun _ _ => by kernel_rfl, fun _ _ => by kernel_rfl, fun _ _ => by kernel_rfl⟩ (fun _ _ _ => by kernel_rfl) (fun _ _ => by kernel_rfl) (fun _ _ => by kernel_rfl) (fun _ _ => by kernel_rfl) (fun _ _ => by kernel_rfl) (fun _ _ => by kernel_rfl) ⟨kcast (A := ∀ (φ6 : Nat → Nat) (xs6 : Xs), (.bool (decide (((n : Nat) : Int) > ((1048576 : Nat) : Int))) : Value) = .bool true) (by kernel_rfl) (fun φ6 xs6 => congrArg Value.bool ((nat_gtr (a := n) (b := 1048576)).trans (hc5))), trivial⟩ trivial (by kernel_rfl) trivial ?k6
        case k6 =>
          rintro φ6 xs6 I6 w6 le6 s 
          replace hl := ERep.mono le6 hl
          replace hr := ERep.mono le6 hr
          refine cond_true_rule (b := true) (by kernel_rfl) rfl ?_
          refine wp_seq ?_
          refine region_rule ?_
          refine ops_rule (C := []) [((φ1 0), .cells #[.int .u64 ((bl : Nat) : Int), .pointer pl] 57), ((φ1 1), .cells #[.int .u64 ((br : Nat) : Int), .pointer pr] 57), ((φ1 2), .cells #[.int .u64 0, .pointer none] 57)] [] 3 [.o 2, .o 2] 0 (fun φ7 => [(7, .int .i64 4), (27, .agg #[.int .u64 0, .pointer none])]) (fun φ7 => [((φ1 0), .cells #[.int .u64 ((bl : Nat) : Int), .pointer pl] 57), ((φ1 1), .cells #[.int .u64 ((br : Nat) : Int), .pointer pr] 57), ((φ1 2), .cells #[.int .u64 0, .pointer none] 57)]) (fun φ7 => [(φ1 2), (φ1 2)]) s trivial (fun φ7 => by kernel_rfl) ?_
          intro φ7 w7 s
          refine ops_done (by kernel_rfl) ?_
          refine wp_ret ?_
          refine ret_rule (C := []) [((φ1 0), .cells #[.int .u64 ((bl : Nat) : Int), .pointer pl] 57), ((φ1 1), .cells #[.int .u64 ((br : Nat) : Int), .pointer pr] 57), ((φ1 2), .cells #[.int .u64 0, .pointer none] 57)] [] (.tuple #[.agg #[.int .u64 0, .pointer none], .int .i64 4]) [.o 2, .o 2] [(φ1 2), (φ1 2)] s trivial (by kernel_rfl) ?_
          have hR : nodeR n l r = (E.leaf 0, 4) := by unfold nodeR; rw [if_neg (of_decide_eq_false hc3), if_pos (of_decide_eq_true hc5)]
          rw [hR]
          exact ⟨_, _, _, rfl, s, ⟨_, _, rfl, rfl, rfl⟩⟩
      ·
        refine draw_rule (C := []) ⟨(fun φ8 xs8 => [.look 0 [] [], .sub 0 [] [] (.bool (decide (((n : Nat) : Int) > ((1048576 : Nat) : Int)))), .look 0 [] [], .look 0 [] [], .look 0 [.o 0, .o 0] [(φ1 0), (φ1 0)], .call 62 #[.agg #[.int .u64 ((bl : Nat) : Int), .pointer pl]], .look 0 [.o 1, .o 1] [(φ1 1), (φ1 1)], .call 62 #[.agg #[.int .u64 ((br : Nat) : Int), .pointer pr]], .sub 0 [] [] (.int .u64 (if ((E.top r : Nat) : Int) > ((E.top l : Nat) : Int) then ((E.top r : Nat) : Int) else ((E.top l : Nat) : Int))), .sub 0 [] [] (.int .u64 (IntKind.wrap .u64 (((n : Nat) : Int) + ((max (E.top l) (E.top r) : Nat) : Int)))), .sub 0 [] [] (.bool (decide (((n + (max (E.top l) (E.top r)) : Nat) : Int) > ((1048576 : Nat) : Int)))), .look 0 [] []]), (fun φ8 xs8 => [.int .u64 ((n : Nat) : Int), .bool false, .bool false, .int .u64 ((n : Nat) : Int), .agg #[.int .u64 ((bl : Nat) : Int), .pointer pl], .int .u64 ((E.top l : Nat) : Int), .agg #[.int .u64 ((br : Nat) : Int), .pointer pr], .int .u64 ((E.top r : Nat) : Int), .int .u64 ((max (E.top l) (E.top r) : Nat) : Int), .int .u64 ((n + (max (E.top l) (E.top r)) : Nat) : Int), .bool (decide (1048576 < (n + (max (E.top l) (E.top r))))), .bool (decide (1048576 < (n + (max (E.top l) (E.top r)))))]), (fun φ8 xs8 => [[((φ1 0), .cells #[.int .u64 ((bl : Nat) : Int), .pointer pl] 57), ((φ1 1), .cells #[.int .u64 ((br : Nat) : Int), .pointer pr] 57), ((φ1 2), .cells #[.int .u64 0, .pointer none] 57)]]), (fun φ8 xs8 => [[default, default, default, default, default, default, default, default, default, default, default, default]]), [], [1, 5, 1, 1, 1, 3, 1, 3, 5, 5, 5, 1]⟩ (fun j => ([MP.any, MP.any, MP.any, MP.any, MP.any, MP.any, MP.any, MP.any, MP.any, MP.any, MP.any, MP.any] : List MP).getD j MP.any) [5, 7] [1, 8, 9, 10] [] (fun φ8 xs8 => []) (fun φ8 xs8 => [(15, .int .u64 ((n : Nat) : Int)), (16, .bool false), (17, .bool false), (18, .int .u64 ((n : Nat) : Int)), (19, .agg #[.int .u64 ((bl : Nat) : Int), .pointer pl]), (20, .int .u64 ((E.top l : Nat) : Int)), (21, .agg #[.int .u64 ((br : Nat) : Int), .pointer pr]), (22, .int .u64 ((E.top r : Nat) : Int)), (23, .int .u64 ((max (E.top l) (E.top r) : Nat) : Int)), (24, .int .u64 ((n + (max (E.top l) (E.top r)) : Nat) : Int)), (25, .bool (decide (1048576 < (n + (max (E.top l) (E.top r)))))), (26, .bool (decide (1048576 < (n + (max (E.top l) (E.top r))))))]) (fun φ8 xs8 => [((φ1 0), .cells #[.int .u64 ((bl : Nat) : Int), .pointer pl] 57), ((φ1 1), .cells #[.int .u64 ((br : Nat) : Int), .pointer pr] 57), ((φ1 2), .cells #[.int .u64 0, .pointer none] 57)]) s trivial (by kernel_rfl) (by kernel_rfl) (fun _ _ => by kernel_rfl) (fun _ _ => by kernel_rfl) ⟨fun _ _ => by kernel_rfl, fun _ _ => by kernel_rfl, fun _ _ => by kernel_rfl, fun _ _ => by kernel_rfl⟩ (fun _ _ _ => by kernel_rfl) (fun _ _ => by kernel_rfl) (fun _ _ => by kernel_rfl) (fun _ _ => by kernel_rfl) (fun _ _ => by kernel_rfl) (fun _ _ => by kernel_rfl) ⟨kcast (A := ∀ (φ8 : Nat → Nat) (xs8 : Xs), (.bool (decide (((n : Nat) : Int) > ((1048576 : Nat) : Int))) : Value) = .bool false) (by kernel_rfl) (fun φ8 xs8 => congrArg Value.bool ((nat_gtr (a := n) (b := 1048576)).trans (hc5))), ⟨kcast (A := ∀ (φ8 : Nat → Nat) (xs8 : Xs), (.int .u64 (if ((E.top r : Nat) : Int) > ((E.top l : Nat) : Int) then ((E.top r : Nat) : Int) else ((E.top l : Nat) : Int)) : Value) = .int .u64 ((max (E.top l) (E.top r) : Nat) : Int)) (by kernel_rfl) (fun φ8 xs8 => congrArg (Value.int .u64) ((nat_max (a := (E.top l)) (b := (E.top r))))), ⟨kcast (A := ∀ (φ8 : Nat → Nat) (xs8 : Xs), (.int .u64 (IntKind.wrap .u64 (((n : Nat) : Int) + ((max (E.top l) (E.top r) : Nat) : Int))) : Value) = .int .u64 ((n + (max (E.top l) (E.top r)) : Nat) : Int)) (by kernel_rfl) (fun φ8 xs8 => congrArg (Value.int .u64) ((nat_addU (a := n) (b := (max (E.top l) (E.top r))) (by have := of_decide_eq_false hc5; omega)))), ⟨kcast (A := ∀ (φ8 : Nat → Nat) (xs8 : Xs), (.bool (decide (((n + (max (E.top l) (E.top r)) : Nat) : Int) > ((1048576 : Nat) : Int))) : Value) = .bool (decide (1048576 < (n + (max (E.top l) (E.top r)))))) (by kernel_rfl) (fun φ8 xs8 => congrArg Value.bool ((nat_gtr (a := (n + (max (E.top l) (E.top r)))) (b := 1048576)))), trivial⟩⟩⟩⟩ trivial (by kernel_rfl) ⟨?c8_5, ?c8_7, trivial⟩ ?k8
        case c8_5 =>
          refine kcast (A := ∀ (φ8 : Nat → Nat) (xs8 : Xs) (J5_8 : IM), I2.Le J5_8 → Fun Try.prog 62 #[.agg #[.int .u64 ((bl : Nat) : Int), .pointer pl]] J5_8 (fun v J' => ∃ x : UX, v = .int .u64 ((E.top l : Nat) : Int) ∧ (True))) (by kernel_rfl) ?_
          intro φ8 xs8 J5_8 leJ
          have hl := ERep.mono leJ hl
          exact Fun.mono (max_c hl (by omega)) (fun v J' _ h => ⟨UX.d, h, trivial⟩)
        case c8_7 =>
          refine kcast (A := ∀ (φ8 : Nat → Nat) (xs8 : Xs) (J7_8 : IM), I2.Le J7_8 → (True) → Fun Try.prog 62 #[.agg #[.int .u64 ((br : Nat) : Int), .pointer pr]] J7_8 (fun v J' => ∃ x : UX, v = .int .u64 ((E.top r : Nat) : Int) ∧ (True))) (by kernel_rfl) ?_
          intro φ8 xs8 J7_8 leJ
          rintro _
          have hr := ERep.mono leJ hr
          exact Fun.mono (max_c hr (by omega)) (fun v J' _ h => ⟨UX.d, h, trivial⟩)
        case k8 =>
          rintro φ8 xs8 I8 w8 le8 s _ _
          replace hl := ERep.mono le8 hl
          replace hr := ERep.mono le8 hr
          rcases Bool.eq_false_or_eq_true (decide (1048576 < (n + (max (E.top l) (E.top r))))) with hc9 | hc9
          ·
            rw [hc9]
            refine cond_true_rule (b := true) (by kernel_rfl) rfl ?_
            refine wp_seq ?_
            refine region_rule ?_
            refine ops_rule (C := []) [((φ1 0), .cells #[.int .u64 ((bl : Nat) : Int), .pointer pl] 57), ((φ1 1), .cells #[.int .u64 ((br : Nat) : Int), .pointer pr] 57), ((φ1 2), .cells #[.int .u64 0, .pointer none] 57)] [] 3 [.o 2, .o 2] 0 (fun φ10 => [(7, .int .i64 4), (27, .agg #[.int .u64 0, .pointer none])]) (fun φ10 => [((φ1 0), .cells #[.int .u64 ((bl : Nat) : Int), .pointer pl] 57), ((φ1 1), .cells #[.int .u64 ((br : Nat) : Int), .pointer pr] 57), ((φ1 2), .cells #[.int .u64 0, .pointer none] 57)]) (fun φ10 => [(φ1 2), (φ1 2)]) s trivial (fun φ10 => by kernel_rfl) ?_
            intro φ10 w10 s
            refine ops_done (by kernel_rfl) ?_
            refine wp_ret ?_
            refine ret_rule (C := []) [((φ1 0), .cells #[.int .u64 ((bl : Nat) : Int), .pointer pl] 57), ((φ1 1), .cells #[.int .u64 ((br : Nat) : Int), .pointer pr] 57), ((φ1 2), .cells #[.int .u64 0, .pointer none] 57)] [] (.tuple #[.agg #[.int .u64 0, .pointer none], .int .i64 4]) [.o 2, .o 2] [(φ1 2), (φ1 2)] s trivial (by kernel_rfl) ?_
            have hR : nodeR n l r = (E.leaf 0, 4) := by unfold nodeR; rw [if_neg (of_decide_eq_false hc3), if_neg (of_decide_eq_false hc5), if_pos (of_decide_eq_true hc9)]
            rw [hR]
            exact ⟨_, _, _, rfl, s, ⟨_, _, rfl, rfl, rfl⟩⟩
          ·
            rw [hc9]
            refine cond_false_rule (b := false) (by kernel_rfl) rfl ?_
            refine wp_skip ?_
            refine wp_seq ?_
            refine region_rule ?_
            refine ops_rule (C := []) [((φ1 0), .cells #[.int .u64 ((bl : Nat) : Int), .pointer pl] 57), ((φ1 1), .cells #[.int .u64 ((br : Nat) : Int), .pointer pr] 57), ((φ1 2), .cells #[.int .u64 0, .pointer none] 57)] [] 3 [.o 0, .o 0, .o 1, .o 1] 0 (fun φ11 => [(30, .agg #[.int .u64 ((br : Nat) : Int), .pointer pr]), (29, .agg #[.int .u64 ((bl : Nat) : Int), .pointer pl]), (28, .int .u64 ((n : Nat) : Int))]) (fun φ11 => [((φ1 0), .cells #[.int .u64 ((bl : Nat) : Int), .pointer pl] 57), ((φ1 1), .cells #[.int .u64 ((br : Nat) : Int), .pointer pr] 57), ((φ1 2), .cells #[.int .u64 0, .pointer none] 57)]) (fun φ11 => [(φ1 0), (φ1 0), (φ1 1), (φ1 1)]) s trivial (fun φ11 => by kernel_rfl) ?_
            intro φ11 w11 s
            refine call_rule (some 31) s (node_c (n := n) hl hr (by simp only [decide_eq_false_iff_not] at *; omega) (by simp only [decide_eq_false_iff_not] at *; omega) (by simp only [decide_eq_false_iff_not] at *; omega)) (by kernel_rfl) ?_
            intro v12 I12 w12 le12 h12 s
            replace hl := ERep.mono le12 hl
            replace hr := ERep.mono le12 hr
            obtain ⟨b12, p12, rfl, h12_0⟩ := h12
            refine ops_rule (C := []) [((φ1 0), .cells #[.int .u64 ((bl : Nat) : Int), .pointer pl] 57), ((φ1 1), .cells #[.int .u64 ((br : Nat) : Int), .pointer pr] 57), ((φ1 2), .cells #[.int .u64 0, .pointer none] 57)] [] 2 [.o 2, .o 2] 0 (fun φ13 => [(7, .int .i64 0)]) (fun φ13 => [((φ1 0), .cells #[.int .u64 ((bl : Nat) : Int), .pointer pl] 57), ((φ1 1), .cells #[.int .u64 ((br : Nat) : Int), .pointer pr] 57), ((φ1 2), .cells #[.int .u64 ((b12 : Nat) : Int), .pointer p12] 57)]) (fun φ13 => [(φ1 2), (φ1 2)]) s trivial (fun φ13 => by kernel_rfl) ?_
            intro φ13 w13 s
            refine ops_done (by kernel_rfl) ?_
            refine wp_ret ?_
            refine ret_rule (C := []) [((φ1 0), .cells #[.int .u64 ((bl : Nat) : Int), .pointer pl] 57), ((φ1 1), .cells #[.int .u64 ((br : Nat) : Int), .pointer pr] 57), ((φ1 2), .cells #[.int .u64 ((b12 : Nat) : Int), .pointer p12] 57)] [] (.tuple #[.agg #[.int .u64 ((b12 : Nat) : Int), .pointer p12], .int .i64 0]) [.o 2, .o 2] [(φ1 2), (φ1 2)] s trivial (by kernel_rfl) ?_
            have hR : nodeR n l r = (E.mk n l r, 0) := by unfold nodeR; rw [if_neg (of_decide_eq_false hc3), if_neg (of_decide_eq_false hc5), if_neg (of_decide_eq_false hc9)]
            rw [hR]
            exact ⟨_, _, _, rfl, s, ⟨_, _, rfl, h12_0⟩⟩

end Go.Proofs.Ytgdickihjaomjaa.Ev

