/- The program's ids: union, Sum, Pair, Text. -/
import Derived.Test.YtgdickihjaomjaaDoorTkI2
set_option linter.all false
set_option maxRecDepth 100000
namespace Go.Proofs.YtgdickihjaomjaaDoor
open Go.RowKit Go.Sep

def pairT (l r : T) : T × Nat := if 16 < (T.mk l r).depth then (.zero, 3) else (T.mk l r, 0)

set_option maxHeartbeats 1000000 in
theorem pair_c {I : IM} {l r : T} {bl br : Bool} {pl pr : Option Addr} (hl : TRep I l bl pl) (hr : TRep I r br pr) (hdl : l.depth ≤ 1000) (hdr : r.depth ≤ 1000) : Fun Tryd.prog 111 #[idv bl pl, idv br pr] I (fun v J => ∃ b p, v = .tuple #[idv b p, .int .i64 (((pairT l r).2 : Nat) : Int)] ∧ TRep J (pairT l r).1 b p) := by
  refine enter_rule 15 [(0, .agg #[.bool bl, .pointer pl]), (1, .agg #[.bool br, .pointer pr])] Tryd.func111 rfl (by kernel_rfl) ?_
  intro w s
  refine wp_seq ?_
  refine region_rule ?_
  refine ops_rule (C := []) [] [] 4 [] 3 (fun φ1 => [(5, .int .i64 0), (4, .pointer (some ⟨(φ1 2), 0, none⟩)), (3, .pointer (some ⟨(φ1 1), 0, none⟩)), (2, .pointer (some ⟨(φ1 0), 0, none⟩))]) (fun φ1 => [((φ1 0), .cells #[.bool bl, .pointer pl] 62), ((φ1 1), .cells #[.bool br, .pointer pr] 62), ((φ1 2), .cells #[.bool false, .pointer none] 62)]) (fun φ1 => []) s trivial (fun φ1 => by kernel_rfl) ?_
  intro φ1 w1 s
  refine ops_done (by kernel_rfl) ?_
  refine wp_seq ?_
  refine region_rule ?_
  refine ops_rule (C := []) [((φ1 0), .cells #[.bool bl, .pointer pl] 62), ((φ1 1), .cells #[.bool br, .pointer pr] 62), ((φ1 2), .cells #[.bool false, .pointer none] 62)] [] 2 [.o 0, .o 0, .o 1, .o 1] 0 (fun φ2 => [(8, .agg #[.bool br, .pointer pr]), (7, .agg #[.bool bl, .pointer pl])]) (fun φ2 => [((φ1 0), .cells #[.bool bl, .pointer pl] 62), ((φ1 1), .cells #[.bool br, .pointer pr] 62), ((φ1 2), .cells #[.bool false, .pointer none] 62)]) (fun φ2 => [(φ1 0), (φ1 0), (φ1 1), (φ1 1)]) s trivial (fun φ2 => by kernel_rfl) ?_
  intro φ2 w2 s
  refine call_rule (some 9) s (merge_c hl hr (by omega) (by omega)) (by kernel_rfl) ?_
  intro v3 I3 w3 le3 h3 s
  replace hl := TRep.mono le3 hl
  replace hr := TRep.mono le3 hr
  obtain ⟨b3, p3, rfl, h3_0⟩ := h3
  refine ops_rule (C := []) [((φ1 0), .cells #[.bool bl, .pointer pl] 62), ((φ1 1), .cells #[.bool br, .pointer pr] 62), ((φ1 2), .cells #[.bool false, .pointer none] 62)] [] 2 [.o 3, .o 3] 1 (fun φ4 => [(6, .pointer (some ⟨(φ4 0), 0, none⟩))]) (fun φ4 => [((φ1 0), .cells #[.bool bl, .pointer pl] 62), ((φ1 1), .cells #[.bool br, .pointer pr] 62), ((φ1 2), .cells #[.bool false, .pointer none] 62), ((φ4 0), .cells #[.bool b3, .pointer p3] 62)]) (fun φ4 => [(φ4 0), (φ4 0)]) s trivial (fun φ4 => by kernel_rfl) ?_
  intro φ4 w4 s
  refine ops_done (by kernel_rfl) ?_
  refine wp_seq ?_
  refine wp_seq ?_
  refine region_rule ?_
  refine ops_rule (C := []) [((φ1 0), .cells #[.bool bl, .pointer pl] 62), ((φ1 1), .cells #[.bool br, .pointer pr] 62), ((φ1 2), .cells #[.bool false, .pointer none] 62), ((φ4 0), .cells #[.bool b3, .pointer p3] 62)] [] 1 [.o 3, .o 3] 0 (fun φ5 => [(10, .agg #[.bool b3, .pointer p3])]) (fun φ5 => [((φ1 0), .cells #[.bool bl, .pointer pl] 62), ((φ1 1), .cells #[.bool br, .pointer pr] 62), ((φ1 2), .cells #[.bool false, .pointer none] 62), ((φ4 0), .cells #[.bool b3, .pointer p3] 62)]) (fun φ5 => [(φ4 0), (φ4 0)]) s trivial (fun φ5 => by kernel_rfl) ?_
  intro φ5 w5 s
  refine call_rule (some 11) s (tdepth_c h3_0) (by kernel_rfl) ?_
  intro v6 I6 w6 le6 h6 s
  replace hl := TRep.mono le6 hl
  replace hr := TRep.mono le6 hr
  replace h3_0 := TRep.mono le6 h3_0
  obtain rfl := h6
  refine ops_rule (C := []) [((φ1 0), .cells #[.bool bl, .pointer pl] 62), ((φ1 1), .cells #[.bool br, .pointer pr] 62), ((φ1 2), .cells #[.bool false, .pointer none] 62), ((φ4 0), .cells #[.bool b3, .pointer p3] 62)] [] 1 [] 0 (fun φ7 => [(12, .bool (decide (((T.depth (T.mk l r) : Nat) : Int) > ((16 : Nat) : Int))))]) (fun φ7 => [((φ1 0), .cells #[.bool bl, .pointer pl] 62), ((φ1 1), .cells #[.bool br, .pointer pr] 62), ((φ1 2), .cells #[.bool false, .pointer none] 62), ((φ4 0), .cells #[.bool b3, .pointer p3] 62)]) (fun φ7 => []) s trivial (fun φ7 => by kernel_rfl) ?_
  intro φ7 w7 s
  rw [nat_gtr (a := (T.depth (T.mk l r))) (b := 16)]
  refine ops_done (by kernel_rfl) ?_
  rcases Bool.eq_false_or_eq_true (decide (16 < (T.depth (T.mk l r)))) with hc8 | hc8
  ·
    rw [hc8]
    refine cond_true_rule (b := true) (by kernel_rfl) rfl ?_
    refine wp_seq ?_
    refine region_rule ?_
    refine call_rule (some 13) s (tzero_c) (by kernel_rfl) ?_
    intro v9 I9 w9 le9 h9 s
    replace hl := TRep.mono le9 hl
    replace hr := TRep.mono le9 hr
    replace h3_0 := TRep.mono le9 h3_0
    obtain rfl := h9
    refine ops_rule (C := []) [((φ1 0), .cells #[.bool bl, .pointer pl] 62), ((φ1 1), .cells #[.bool br, .pointer pr] 62), ((φ1 2), .cells #[.bool false, .pointer none] 62), ((φ4 0), .cells #[.bool b3, .pointer p3] 62)] [] 2 [.o 2, .o 2] 0 (fun φ10 => [(5, .int .i64 3)]) (fun φ10 => [((φ1 0), .cells #[.bool bl, .pointer pl] 62), ((φ1 1), .cells #[.bool br, .pointer pr] 62), ((φ1 2), .cells #[.bool false, .pointer none] 62), ((φ4 0), .cells #[.bool b3, .pointer p3] 62)]) (fun φ10 => [(φ1 2), (φ1 2)]) s trivial (fun φ10 => by kernel_rfl) ?_
    intro φ10 w10 s
    refine ops_done (by kernel_rfl) ?_
    refine wp_ret ?_
    refine ret_rule (C := []) [((φ1 0), .cells #[.bool bl, .pointer pl] 62), ((φ1 1), .cells #[.bool br, .pointer pr] 62), ((φ1 2), .cells #[.bool false, .pointer none] 62), ((φ4 0), .cells #[.bool b3, .pointer p3] 62)] [] (.tuple #[.agg #[.bool false, .pointer none], .int .i64 3]) [.o 2, .o 2] [(φ1 2), (φ1 2)] s trivial (by kernel_rfl) ?_
    exact ⟨_, _, _, rfl, s, (by rw [pairT, if_pos (of_decide_eq_true hc8)]; exact ⟨_, _, rfl, rfl, rfl⟩)⟩
  ·
    rw [hc8]
    refine cond_false_rule (b := false) (by kernel_rfl) rfl ?_
    refine wp_skip ?_
    refine wp_seq ?_
    refine region_rule ?_
    refine ops_rule (C := []) [((φ1 0), .cells #[.bool bl, .pointer pl] 62), ((φ1 1), .cells #[.bool br, .pointer pr] 62), ((φ1 2), .cells #[.bool false, .pointer none] 62), ((φ4 0), .cells #[.bool b3, .pointer p3] 62)] [] 3 [.o 3, .o 3, .o 2, .o 2] 0 (fun φ11 => [(5, .int .i64 0), (14, .agg #[.bool b3, .pointer p3])]) (fun φ11 => [((φ1 0), .cells #[.bool bl, .pointer pl] 62), ((φ1 1), .cells #[.bool br, .pointer pr] 62), ((φ1 2), .cells #[.bool b3, .pointer p3] 62), ((φ4 0), .cells #[.bool b3, .pointer p3] 62)]) (fun φ11 => [(φ4 0), (φ4 0), (φ1 2), (φ1 2)]) s trivial (fun φ11 => by kernel_rfl) ?_
    intro φ11 w11 s
    refine ops_done (by kernel_rfl) ?_
    refine wp_ret ?_
    refine ret_rule (C := []) [((φ1 0), .cells #[.bool bl, .pointer pl] 62), ((φ1 1), .cells #[.bool br, .pointer pr] 62), ((φ1 2), .cells #[.bool b3, .pointer p3] 62), ((φ4 0), .cells #[.bool b3, .pointer p3] 62)] [] (.tuple #[.agg #[.bool b3, .pointer p3], .int .i64 0]) [.o 2, .o 2] [(φ1 2), (φ1 2)] s trivial (by kernel_rfl) ?_
    exact ⟨_, _, _, rfl, s, (by rw [pairT, if_neg (of_decide_eq_false hc8)]; exact ⟨_, _, rfl, h3_0⟩)⟩

theorem pairOk_c {I : IM} {l r : T} {bl br : Bool} {pl pr : Option Addr} (hl : TRep I l bl pl) (hr : TRep I r br pr) (h : (T.mk l r).depth ≤ 16) (hdl : l.depth ≤ 1000) (hdr : r.depth ≤ 1000) : Fun Tryd.prog 111 #[idv bl pl, idv br pr] I (fun v J => ∃ b p, v = .tuple #[idv b p, .int .i64 0] ∧ TRep J (T.mk l r) b p) := by
  have h1 := pair_c hl hr hdl hdr
  rw [pairT, if_neg (by omega)] at h1; exact h1

set_option maxHeartbeats 1000000 in
theorem idText_zero {I : IM} {b : Bool} {n : Nat} {p : Option Addr} {v : Value} {xs : List Value} {F : List OB} (h : TRep I .zero b p) (hrow : RowH 5 1 v n xs F) (hlim : n + (textT .zero).length + 20 ≤ 140737488355328) : FunM Tryd.prog 123 #[idv b p, v] I F (fun v' J F' => RowH 5 1 v' (n + (textT .zero).length) (xs ++ bcs (textT .zero)) F') := by
  obtain ⟨rfl, rfl⟩ := h
  have hlim1 : n + 1 + 20 ≤ 140737488355328 := hlim
  refine enterM_rule 32 [(0, .agg #[.bool false, .pointer none]), (1, v)] Tryd.func123 rfl (by kernel_rfl) ?_
  intro w s
  refine wp_seq ?_
  refine region_rule ?_
  refine ops_rule (C := []) [] F 2 [] 1 (fun φ1 => [(4, .slice none 0 0), (2, .pointer (some ⟨(φ1 0), 0, none⟩))]) (fun φ1 => [((φ1 0), .cells #[.bool false, .pointer none] 62)]) (fun φ1 => []) s trivial (fun φ1 => by kernel_rfl) ?_
  intro φ1 w1 s
  refine ops_done (by kernel_rfl) ?_
  refine wp_seq ?_
  refine wp_seq ?_
  refine region_rule ?_
  refine ops_rule (C := []) [((φ1 0), .cells #[.bool false, .pointer none] 62)] F 1 [.o 0, .o 0] 0 (fun φ2 => [(5, .agg #[.bool false, .pointer none])]) (fun φ2 => [((φ1 0), .cells #[.bool false, .pointer none] 62)]) (fun φ2 => [(φ1 0), (φ1 0)]) s trivial (fun φ2 => by kernel_rfl) ?_
  intro φ2 w2 s
  refine call_rule (some 6) s (isZero_c (TRep.z _)) (by kernel_rfl) ?_
  intro v3 I3 w3 le3 h3 s
  obtain rfl := h3
  refine ops_done (by kernel_rfl) ?_
  refine cond_true_rule (b := true) (by kernel_rfl) rfl ?_
  refine wp_seq ?_
  refine region_rule ?_
  refine ops_rule (C := []) [((φ1 0), .cells #[.bool false, .pointer none] 62)] F 2 [] 1 (fun φ4 => [(8, .slice (some ⟨(φ4 0), 0, none⟩) 1 1), (7, v)]) (fun φ4 => [((φ1 0), .cells #[.bool false, .pointer none] 62), ((φ4 0), .cells #[.int .u8 48] 5)]) (fun φ4 => []) s trivial (fun φ4 => by kernel_rfl) ?_
  intro φ4 w4 s
  refine append_rule (H := [((φ1 0), .cells #[.bool false, .pointer none] 62), ((φ4 0), .cells #[.int .u8 48] 5)]) (F := F) 22 22 5 Tryd.t5 (.int .u8 0) 1 1 (some 9) s Tryd.underlying22 (by kernel_rfl) (by kernel_rfl) (by kernel_rfl) (by kernel_rfl) (by kernel_rfl) (by decide) hrow (src_own s 1 (φ4 0) #[.int .u8 48] 5 22 5 1 1 1 [.int .u8 48] (by kernel_rfl) Tryd.underlying22 (by kernel_rfl) (by kernel_rfl) (by kernel_rfl)) (by simp only [maxLen]; omega) (by omega) (by kernel_rfl) ?_
  intro v5 w5 F5 s h5
  refine ops_rule (C := []) [((φ1 0), .cells #[.bool false, .pointer none] 62), ((φ4 0), .cells #[.int .u8 48] 5)] F5 1 [] 0 (fun φ6 => [(4, v5)]) (fun φ6 => [((φ1 0), .cells #[.bool false, .pointer none] 62), ((φ4 0), .cells #[.int .u8 48] 5)]) (fun φ6 => []) s trivial (fun φ6 => by kernel_rfl) ?_
  intro φ6 w6 s
  refine ops_done (by kernel_rfl) ?_
  refine wp_ret ?_
  refine ret_rule (C := []) [((φ1 0), .cells #[.bool false, .pointer none] 62), ((φ4 0), .cells #[.int .u8 48] 5)] F5 (v5) [] [] s trivial (by kernel_rfl) ?_
  replace s := s.drop (List.sublist_append_right [((φ1 0), .cells #[.bool false, .pointer none] 62), ((φ4 0), .cells #[.int .u8 48] 5)] F5)
  exact ⟨_, _, _, rfl, s, (by have e := h5; simp only [textT, Lib.byteCells_append, List.append_assoc, List.length_append, Nat.add_assoc, List.length_cons, List.length_nil, Nat.zero_add] at e ⊢; exact e)⟩

set_option maxHeartbeats 1000000 in
theorem idText_one {I : IM} {b : Bool} {n : Nat} {p : Option Addr} {v : Value} {xs : List Value} {F : List OB} (h : TRep I .one b p) (hrow : RowH 5 1 v n xs F) (hlim : n + (textT .one).length + 20 ≤ 140737488355328) : FunM Tryd.prog 123 #[idv b p, v] I F (fun v' J F' => RowH 5 1 v' (n + (textT .one).length) (xs ++ bcs (textT .one)) F') := by
  obtain ⟨rfl, rfl⟩ := h
  have hlim1 : n + 1 + 20 ≤ 140737488355328 := hlim
  refine enterM_rule 32 [(0, .agg #[.bool true, .pointer none]), (1, v)] Tryd.func123 rfl (by kernel_rfl) ?_
  intro w s
  refine wp_seq ?_
  refine region_rule ?_
  refine ops_rule (C := []) [] F 2 [] 1 (fun φ1 => [(4, .slice none 0 0), (2, .pointer (some ⟨(φ1 0), 0, none⟩))]) (fun φ1 => [((φ1 0), .cells #[.bool true, .pointer none] 62)]) (fun φ1 => []) s trivial (fun φ1 => by kernel_rfl) ?_
  intro φ1 w1 s
  refine ops_done (by kernel_rfl) ?_
  refine wp_seq ?_
  refine wp_seq ?_
  refine region_rule ?_
  refine ops_rule (C := []) [((φ1 0), .cells #[.bool true, .pointer none] 62)] F 1 [.o 0, .o 0] 0 (fun φ2 => [(5, .agg #[.bool true, .pointer none])]) (fun φ2 => [((φ1 0), .cells #[.bool true, .pointer none] 62)]) (fun φ2 => [(φ1 0), (φ1 0)]) s trivial (fun φ2 => by kernel_rfl) ?_
  intro φ2 w2 s
  refine call_rule (some 6) s (isZero_c (TRep.o _)) (by kernel_rfl) ?_
  intro v3 I3 w3 le3 h3 s
  obtain rfl := h3
  refine ops_done (by kernel_rfl) ?_
  refine cond_false_rule (b := false) (by kernel_rfl) rfl ?_
  refine wp_skip ?_
  refine wp_seq ?_
  refine wp_seq ?_
  refine region_rule ?_
  refine ops_rule (C := []) [((φ1 0), .cells #[.bool true, .pointer none] 62)] F 1 [.o 0, .o 0] 0 (fun φ4 => [(10, .agg #[.bool true, .pointer none])]) (fun φ4 => [((φ1 0), .cells #[.bool true, .pointer none] 62)]) (fun φ4 => [(φ1 0), (φ1 0)]) s trivial (fun φ4 => by kernel_rfl) ?_
  intro φ4 w4 s
  refine call_rule (some 11) s (isOne_c (TRep.o _)) (by kernel_rfl) ?_
  intro v5 I5 w5 le5 h5 s
  obtain rfl := h5
  refine ops_done (by kernel_rfl) ?_
  refine cond_true_rule (b := true) (by kernel_rfl) rfl ?_
  refine wp_seq ?_
  refine region_rule ?_
  refine ops_rule (C := []) [((φ1 0), .cells #[.bool true, .pointer none] 62)] F 2 [] 1 (fun φ6 => [(13, .slice (some ⟨(φ6 0), 0, none⟩) 1 1), (12, v)]) (fun φ6 => [((φ1 0), .cells #[.bool true, .pointer none] 62), ((φ6 0), .cells #[.int .u8 49] 5)]) (fun φ6 => []) s trivial (fun φ6 => by kernel_rfl) ?_
  intro φ6 w6 s
  refine append_rule (H := [((φ1 0), .cells #[.bool true, .pointer none] 62), ((φ6 0), .cells #[.int .u8 49] 5)]) (F := F) 22 22 5 Tryd.t5 (.int .u8 0) 1 1 (some 14) s Tryd.underlying22 (by kernel_rfl) (by kernel_rfl) (by kernel_rfl) (by kernel_rfl) (by kernel_rfl) (by decide) hrow (src_own s 1 (φ6 0) #[.int .u8 49] 5 22 5 1 1 1 [.int .u8 49] (by kernel_rfl) Tryd.underlying22 (by kernel_rfl) (by kernel_rfl) (by kernel_rfl)) (by simp only [maxLen]; omega) (by omega) (by kernel_rfl) ?_
  intro v7 w7 F7 s h7
  refine ops_rule (C := []) [((φ1 0), .cells #[.bool true, .pointer none] 62), ((φ6 0), .cells #[.int .u8 49] 5)] F7 1 [] 0 (fun φ8 => [(4, v7)]) (fun φ8 => [((φ1 0), .cells #[.bool true, .pointer none] 62), ((φ6 0), .cells #[.int .u8 49] 5)]) (fun φ8 => []) s trivial (fun φ8 => by kernel_rfl) ?_
  intro φ8 w8 s
  refine ops_done (by kernel_rfl) ?_
  refine wp_ret ?_
  refine ret_rule (C := []) [((φ1 0), .cells #[.bool true, .pointer none] 62), ((φ6 0), .cells #[.int .u8 49] 5)] F7 (v7) [] [] s trivial (by kernel_rfl) ?_
  replace s := s.drop (List.sublist_append_right [((φ1 0), .cells #[.bool true, .pointer none] 62), ((φ6 0), .cells #[.int .u8 49] 5)] F7)
  exact ⟨_, _, _, rfl, s, (by have e := h7; simp only [textT, Lib.byteCells_append, List.append_assoc, List.length_append, Nat.add_assoc, List.length_cons, List.length_nil, Nat.zero_add] at e ⊢; exact e)⟩

set_option maxHeartbeats 2000000 in
theorem idText_node {l r : T} {I : IM} {b : Bool} {n : Nat} {p : Option Addr} {v : Value} {xs : List Value} {F : List OB} (h : TRep I (.node l r) b p) (hrow : RowH 5 1 v n xs F) (hlim : n + (textT (.node l r)).length + 20 ≤ 140737488355328) (ihl : ∀ {I : IM} {b : Bool} {n : Nat} {p : Option Addr} {v : Value} {xs : List Value} {F : List OB}, TRep I l b p → RowH 5 1 v n xs F → n + (textT l).length + 20 ≤ 140737488355328 → FunM Tryd.prog 123 #[idv b p, v] I F (fun v' J F' => RowH 5 1 v' (n + (textT l).length) (xs ++ bcs (textT l)) F')) (ihr : ∀ {I : IM} {b : Bool} {n : Nat} {p : Option Addr} {v : Value} {xs : List Value} {F : List OB}, TRep I r b p → RowH 5 1 v n xs F → n + (textT r).length + 20 ≤ 140737488355328 → FunM Tryd.prog 123 #[idv b p, v] I F (fun v' J F' => RowH 5 1 v' (n + (textT r).length) (xs ++ bcs (textT r)) F')) : FunM Tryd.prog 123 #[idv b p, v] I F (fun v' J F' => RowH 5 1 v' (n + (textT (.node l r)).length) (xs ++ bcs (textT (.node l r))) F') := by
  have hn := h
  obtain ⟨rfl, k, bl, pl, br, pr, rfl, hk, hl, hr⟩ := h
  have hlim1 : n + (textT l).length + (textT r).length + 3 + 20 ≤ 140737488355328 := by simp only [textT, List.length_append, List.length_cons, List.length_nil] at hlim; omega
  refine enterM_rule 32 [(0, .agg #[.bool false, .pointer (some ⟨k, 0, none⟩)]), (1, v)] Tryd.func123 rfl (by kernel_rfl) ?_
  intro w s
  refine wp_seq ?_
  refine region_rule ?_
  refine ops_rule (C := []) [] F 2 [] 1 (fun φ1 => [(4, .slice none 0 0), (2, .pointer (some ⟨(φ1 0), 0, none⟩))]) (fun φ1 => [((φ1 0), .cells #[.bool false, .pointer (some ⟨k, 0, none⟩)] 62)]) (fun φ1 => []) s trivial (fun φ1 => by kernel_rfl) ?_
  intro φ1 w1 s
  refine ops_done (by kernel_rfl) ?_
  refine wp_seq ?_
  refine wp_seq ?_
  refine region_rule ?_
  refine ops_rule (C := []) [((φ1 0), .cells #[.bool false, .pointer (some ⟨k, 0, none⟩)] 62)] F 1 [.o 0, .o 0] 0 (fun φ2 => [(5, .agg #[.bool false, .pointer (some ⟨k, 0, none⟩)])]) (fun φ2 => [((φ1 0), .cells #[.bool false, .pointer (some ⟨k, 0, none⟩)] 62)]) (fun φ2 => [(φ1 0), (φ1 0)]) s trivial (fun φ2 => by kernel_rfl) ?_
  intro φ2 w2 s
  refine call_rule (some 6) s (isZero_c hn) (by kernel_rfl) ?_
  intro v3 I3 w3 le3 h3 s
  replace hl := TRep.mono le3 hl
  replace hr := TRep.mono le3 hr
  replace hn := TRep.mono le3 hn
  replace hk := le3 _ _ hk
  obtain rfl := h3
  refine ops_done (by kernel_rfl) ?_
  refine cond_false_rule (b := false) (by kernel_rfl) rfl ?_
  refine wp_skip ?_
  refine wp_seq ?_
  refine wp_seq ?_
  refine region_rule ?_
  refine ops_rule (C := []) [((φ1 0), .cells #[.bool false, .pointer (some ⟨k, 0, none⟩)] 62)] F 1 [.o 0, .o 0] 0 (fun φ4 => [(10, .agg #[.bool false, .pointer (some ⟨k, 0, none⟩)])]) (fun φ4 => [((φ1 0), .cells #[.bool false, .pointer (some ⟨k, 0, none⟩)] 62)]) (fun φ4 => [(φ1 0), (φ1 0)]) s trivial (fun φ4 => by kernel_rfl) ?_
  intro φ4 w4 s
  refine call_rule (some 11) s (isOne_c hn) (by kernel_rfl) ?_
  intro v5 I5 w5 le5 h5 s
  replace hl := TRep.mono le5 hl
  replace hr := TRep.mono le5 hr
  replace hn := TRep.mono le5 hn
  replace hk := le5 _ _ hk
  obtain rfl := h5
  refine ops_done (by kernel_rfl) ?_
  refine cond_false_rule (b := false) (by kernel_rfl) rfl ?_
  refine wp_skip ?_
  refine wp_seq ?_
  refine region_rule ?_
  refine ops_rule (C := []) [((φ1 0), .cells #[.bool false, .pointer (some ⟨k, 0, none⟩)] 62)] F 2 [] 1 (fun φ6 => [(16, .slice (some ⟨(φ6 0), 0, none⟩) 1 1), (15, v)]) (fun φ6 => [((φ1 0), .cells #[.bool false, .pointer (some ⟨k, 0, none⟩)] 62), ((φ6 0), .cells #[.int .u8 40] 5)]) (fun φ6 => []) s trivial (fun φ6 => by kernel_rfl) ?_
  intro φ6 w6 s
  refine append_rule (H := [((φ1 0), .cells #[.bool false, .pointer (some ⟨k, 0, none⟩)] 62), ((φ6 0), .cells #[.int .u8 40] 5)]) (F := F) 22 22 5 Tryd.t5 (.int .u8 0) 1 1 (some 17) s Tryd.underlying22 (by kernel_rfl) (by kernel_rfl) (by kernel_rfl) (by kernel_rfl) (by kernel_rfl) (by decide) hrow (src_own s 1 (φ6 0) #[.int .u8 40] 5 22 5 1 1 1 [.int .u8 40] (by kernel_rfl) Tryd.underlying22 (by kernel_rfl) (by kernel_rfl) (by kernel_rfl)) (by simp only [maxLen]; omega) (by omega) (by kernel_rfl) ?_
  intro v7 w7 F7 s h7
  refine ops_rule (C := []) [((φ1 0), .cells #[.bool false, .pointer (some ⟨k, 0, none⟩)] 62), ((φ6 0), .cells #[.int .u8 40] 5)] F7 1 [] 0 (fun φ8 => [(1, v7)]) (fun φ8 => [((φ1 0), .cells #[.bool false, .pointer (some ⟨k, 0, none⟩)] 62), ((φ6 0), .cells #[.int .u8 40] 5)]) (fun φ8 => []) s trivial (fun φ8 => by kernel_rfl) ?_
  intro φ8 w8 s
  refine ops_done (by kernel_rfl) ?_
  refine wp_seq ?_
  refine region_rule ?_
  refine ops_rule (C := []) [((φ1 0), .cells #[.bool false, .pointer (some ⟨k, 0, none⟩)] 62), ((φ6 0), .cells #[.int .u8 40] 5)] F7 1 [.o 0, .o 0] 0 (fun φ9 => [(18, .agg #[.bool false, .pointer (some ⟨k, 0, none⟩)])]) (fun φ9 => [((φ1 0), .cells #[.bool false, .pointer (some ⟨k, 0, none⟩)] 62), ((φ6 0), .cells #[.int .u8 40] 5)]) (fun φ9 => [(φ1 0), (φ1 0)]) s trivial (fun φ9 => by kernel_rfl) ?_
  intro φ9 w9 s
  refine call_rule (some 19) s (tleft_c hn) (by kernel_rfl) ?_
  intro v10 I10 w10 le10 h10 s
  replace hl := TRep.mono le10 hl
  replace hr := TRep.mono le10 hr
  replace hn := TRep.mono le10 hn
  replace hk := le10 _ _ hk
  obtain ⟨b10, p10, rfl, h10_0⟩ := h10
  refine ops_rule (C := []) [((φ1 0), .cells #[.bool false, .pointer (some ⟨k, 0, none⟩)] 62), ((φ6 0), .cells #[.int .u8 40] 5)] F7 1 [] 0 (fun φ11 => [(20, v7)]) (fun φ11 => [((φ1 0), .cells #[.bool false, .pointer (some ⟨k, 0, none⟩)] 62), ((φ6 0), .cells #[.int .u8 40] 5)]) (fun φ11 => []) s trivial (fun φ11 => by kernel_rfl) ?_
  intro φ11 w11 s
  refine callF_rule (H := [((φ1 0), .cells #[.bool false, .pointer (some ⟨k, 0, none⟩)] 62), ((φ6 0), .cells #[.int .u8 40] 5)]) (F := F7) (some 21) s (ihl h10_0 h7 (by omega)) (by kernel_rfl) ?_
  intro v12 I12 w12 F12 le12 h12 s
  replace hl := TRep.mono le12 hl
  replace hr := TRep.mono le12 hr
  replace hn := TRep.mono le12 hn
  replace h10_0 := TRep.mono le12 h10_0
  replace hk := le12 _ _ hk
  refine ops_rule (C := []) [((φ1 0), .cells #[.bool false, .pointer (some ⟨k, 0, none⟩)] 62), ((φ6 0), .cells #[.int .u8 40] 5)] F12 1 [] 0 (fun φ13 => [(1, v12)]) (fun φ13 => [((φ1 0), .cells #[.bool false, .pointer (some ⟨k, 0, none⟩)] 62), ((φ6 0), .cells #[.int .u8 40] 5)]) (fun φ13 => []) s trivial (fun φ13 => by kernel_rfl) ?_
  intro φ13 w13 s
  refine ops_done (by kernel_rfl) ?_
  refine wp_seq ?_
  refine region_rule ?_
  refine ops_rule (C := []) [((φ1 0), .cells #[.bool false, .pointer (some ⟨k, 0, none⟩)] 62), ((φ6 0), .cells #[.int .u8 40] 5)] F12 2 [] 1 (fun φ14 => [(23, .slice (some ⟨(φ14 0), 0, none⟩) 1 1), (22, v12)]) (fun φ14 => [((φ1 0), .cells #[.bool false, .pointer (some ⟨k, 0, none⟩)] 62), ((φ6 0), .cells #[.int .u8 40] 5), ((φ14 0), .cells #[.int .u8 44] 5)]) (fun φ14 => []) s trivial (fun φ14 => by kernel_rfl) ?_
  intro φ14 w14 s
  refine append_rule (H := [((φ1 0), .cells #[.bool false, .pointer (some ⟨k, 0, none⟩)] 62), ((φ6 0), .cells #[.int .u8 40] 5), ((φ14 0), .cells #[.int .u8 44] 5)]) (F := F12) 22 22 5 Tryd.t5 (.int .u8 0) 1 1 (some 24) s Tryd.underlying22 (by kernel_rfl) (by kernel_rfl) (by kernel_rfl) (by kernel_rfl) (by kernel_rfl) (by decide) h12 (src_own s 2 (φ14 0) #[.int .u8 44] 5 22 5 1 1 1 [.int .u8 44] (by kernel_rfl) Tryd.underlying22 (by kernel_rfl) (by kernel_rfl) (by kernel_rfl)) (by simp only [maxLen]; omega) (by omega) (by kernel_rfl) ?_
  intro v15 w15 F15 s h15
  refine ops_rule (C := []) [((φ1 0), .cells #[.bool false, .pointer (some ⟨k, 0, none⟩)] 62), ((φ6 0), .cells #[.int .u8 40] 5), ((φ14 0), .cells #[.int .u8 44] 5)] F15 1 [] 0 (fun φ16 => [(1, v15)]) (fun φ16 => [((φ1 0), .cells #[.bool false, .pointer (some ⟨k, 0, none⟩)] 62), ((φ6 0), .cells #[.int .u8 40] 5), ((φ14 0), .cells #[.int .u8 44] 5)]) (fun φ16 => []) s trivial (fun φ16 => by kernel_rfl) ?_
  intro φ16 w16 s
  refine ops_done (by kernel_rfl) ?_
  refine wp_seq ?_
  refine region_rule ?_
  refine ops_rule (C := []) [((φ1 0), .cells #[.bool false, .pointer (some ⟨k, 0, none⟩)] 62), ((φ6 0), .cells #[.int .u8 40] 5), ((φ14 0), .cells #[.int .u8 44] 5)] F15 1 [.o 0, .o 0] 0 (fun φ17 => [(25, .agg #[.bool false, .pointer (some ⟨k, 0, none⟩)])]) (fun φ17 => [((φ1 0), .cells #[.bool false, .pointer (some ⟨k, 0, none⟩)] 62), ((φ6 0), .cells #[.int .u8 40] 5), ((φ14 0), .cells #[.int .u8 44] 5)]) (fun φ17 => [(φ1 0), (φ1 0)]) s trivial (fun φ17 => by kernel_rfl) ?_
  intro φ17 w17 s
  refine call_rule (some 26) s (tright_c hn) (by kernel_rfl) ?_
  intro v18 I18 w18 le18 h18 s
  replace hl := TRep.mono le18 hl
  replace hr := TRep.mono le18 hr
  replace hn := TRep.mono le18 hn
  replace h10_0 := TRep.mono le18 h10_0
  replace hk := le18 _ _ hk
  obtain ⟨b18, p18, rfl, h18_0⟩ := h18
  refine ops_rule (C := []) [((φ1 0), .cells #[.bool false, .pointer (some ⟨k, 0, none⟩)] 62), ((φ6 0), .cells #[.int .u8 40] 5), ((φ14 0), .cells #[.int .u8 44] 5)] F15 1 [] 0 (fun φ19 => [(27, v15)]) (fun φ19 => [((φ1 0), .cells #[.bool false, .pointer (some ⟨k, 0, none⟩)] 62), ((φ6 0), .cells #[.int .u8 40] 5), ((φ14 0), .cells #[.int .u8 44] 5)]) (fun φ19 => []) s trivial (fun φ19 => by kernel_rfl) ?_
  intro φ19 w19 s
  refine callF_rule (H := [((φ1 0), .cells #[.bool false, .pointer (some ⟨k, 0, none⟩)] 62), ((φ6 0), .cells #[.int .u8 40] 5), ((φ14 0), .cells #[.int .u8 44] 5)]) (F := F15) (some 28) s (ihr h18_0 h15 (by omega)) (by kernel_rfl) ?_
  intro v20 I20 w20 F20 le20 h20 s
  replace hl := TRep.mono le20 hl
  replace hr := TRep.mono le20 hr
  replace hn := TRep.mono le20 hn
  replace h10_0 := TRep.mono le20 h10_0
  replace h18_0 := TRep.mono le20 h18_0
  replace hk := le20 _ _ hk
  refine ops_rule (C := []) [((φ1 0), .cells #[.bool false, .pointer (some ⟨k, 0, none⟩)] 62), ((φ6 0), .cells #[.int .u8 40] 5), ((φ14 0), .cells #[.int .u8 44] 5)] F20 1 [] 0 (fun φ21 => [(1, v20)]) (fun φ21 => [((φ1 0), .cells #[.bool false, .pointer (some ⟨k, 0, none⟩)] 62), ((φ6 0), .cells #[.int .u8 40] 5), ((φ14 0), .cells #[.int .u8 44] 5)]) (fun φ21 => []) s trivial (fun φ21 => by kernel_rfl) ?_
  intro φ21 w21 s
  refine ops_done (by kernel_rfl) ?_
  refine wp_seq ?_
  refine region_rule ?_
  refine ops_rule (C := []) [((φ1 0), .cells #[.bool false, .pointer (some ⟨k, 0, none⟩)] 62), ((φ6 0), .cells #[.int .u8 40] 5), ((φ14 0), .cells #[.int .u8 44] 5)] F20 2 [] 1 (fun φ22 => [(30, .slice (some ⟨(φ22 0), 0, none⟩) 1 1), (29, v20)]) (fun φ22 => [((φ1 0), .cells #[.bool false, .pointer (some ⟨k, 0, none⟩)] 62), ((φ6 0), .cells #[.int .u8 40] 5), ((φ14 0), .cells #[.int .u8 44] 5), ((φ22 0), .cells #[.int .u8 41] 5)]) (fun φ22 => []) s trivial (fun φ22 => by kernel_rfl) ?_
  intro φ22 w22 s
  refine append_rule (H := [((φ1 0), .cells #[.bool false, .pointer (some ⟨k, 0, none⟩)] 62), ((φ6 0), .cells #[.int .u8 40] 5), ((φ14 0), .cells #[.int .u8 44] 5), ((φ22 0), .cells #[.int .u8 41] 5)]) (F := F20) 22 22 5 Tryd.t5 (.int .u8 0) 1 1 (some 31) s Tryd.underlying22 (by kernel_rfl) (by kernel_rfl) (by kernel_rfl) (by kernel_rfl) (by kernel_rfl) (by decide) h20 (src_own s 3 (φ22 0) #[.int .u8 41] 5 22 5 1 1 1 [.int .u8 41] (by kernel_rfl) Tryd.underlying22 (by kernel_rfl) (by kernel_rfl) (by kernel_rfl)) (by simp only [maxLen]; omega) (by omega) (by kernel_rfl) ?_
  intro v23 w23 F23 s h23
  refine ops_rule (C := []) [((φ1 0), .cells #[.bool false, .pointer (some ⟨k, 0, none⟩)] 62), ((φ6 0), .cells #[.int .u8 40] 5), ((φ14 0), .cells #[.int .u8 44] 5), ((φ22 0), .cells #[.int .u8 41] 5)] F23 1 [] 0 (fun φ24 => [(4, v23)]) (fun φ24 => [((φ1 0), .cells #[.bool false, .pointer (some ⟨k, 0, none⟩)] 62), ((φ6 0), .cells #[.int .u8 40] 5), ((φ14 0), .cells #[.int .u8 44] 5), ((φ22 0), .cells #[.int .u8 41] 5)]) (fun φ24 => []) s trivial (fun φ24 => by kernel_rfl) ?_
  intro φ24 w24 s
  refine ops_done (by kernel_rfl) ?_
  refine wp_ret ?_
  refine ret_rule (C := []) [((φ1 0), .cells #[.bool false, .pointer (some ⟨k, 0, none⟩)] 62), ((φ6 0), .cells #[.int .u8 40] 5), ((φ14 0), .cells #[.int .u8 44] 5), ((φ22 0), .cells #[.int .u8 41] 5)] F23 (v23) [] [] s trivial (by kernel_rfl) ?_
  replace s := s.drop (List.sublist_append_right [((φ1 0), .cells #[.bool false, .pointer (some ⟨k, 0, none⟩)] 62), ((φ6 0), .cells #[.int .u8 40] 5), ((φ14 0), .cells #[.int .u8 44] 5), ((φ22 0), .cells #[.int .u8 41] 5)] F23)
  exact ⟨_, _, _, rfl, s, (by have e := h23; simp only [textT, Lib.byteCells_append, List.append_assoc, List.length_append, Nat.add_assoc, List.length_cons, List.length_nil, Nat.zero_add] at e ⊢; exact e)⟩

theorem idText_c : ∀ (t : T) {I : IM} {b : Bool} {n : Nat} {p : Option Addr} {v : Value} {xs : List Value} {F : List OB}, TRep I t b p → RowH 5 1 v n xs F → n + (textT t).length + 20 ≤ 140737488355328 →
    FunM Tryd.prog 123 #[idv b p, v] I F (fun v' J F' => RowH 5 1 v' (n + (textT t).length) (xs ++ bcs (textT t)) F')
  | .zero, _, _, _, _, _, _, _, h, hrow, hlim => idText_zero h hrow hlim
  | .one, _, _, _, _, _, _, _, h, hrow, hlim => idText_one h hrow hlim
  | .node l r, _, _, _, _, _, _, _, h, hrow, hlim => idText_node h hrow hlim (idText_c l) (idText_c r)

set_option maxHeartbeats 1000000 in
theorem idtext_c {I : IM} {t : T} {b : Bool} {p : Option Addr} (h : TRep I t b p) (hlim : (textT t).length ≤ 1000000000) : Fun Tryd.prog 109 #[idv b p] I (fun v J => v = .string ⟨(textT t).toArray⟩) := by
  refine enter_rule 6 [(0, .agg #[.bool b, .pointer p])] Tryd.func109 rfl (by kernel_rfl) ?_
  intro w s
  refine wp_seq ?_
  refine region_rule ?_
  refine ops_rule (C := []) [] [] 2 [] 1 (fun φ1 => [(2, .string ⟨#[]⟩), (1, .pointer (some ⟨(φ1 0), 0, none⟩))]) (fun φ1 => [((φ1 0), .cells #[.bool b, .pointer p] 62)]) (fun φ1 => []) s trivial (fun φ1 => by kernel_rfl) ?_
  intro φ1 w1 s
  refine ops_done (by kernel_rfl) ?_
  refine wp_seq ?_
  refine region_rule ?_
  refine ops_rule (C := []) [((φ1 0), .cells #[.bool b, .pointer p] 62)] [] 1 [.o 0, .o 0] 0 (fun φ2 => [(3, .agg #[.bool b, .pointer p])]) (fun φ2 => [((φ1 0), .cells #[.bool b, .pointer p] 62)]) (fun φ2 => [(φ1 0), (φ1 0)]) s trivial (fun φ2 => by kernel_rfl) ?_
  intro φ2 w2 s
  refine callF_rule (H := [((φ1 0), .cells #[.bool b, .pointer p] 62)]) (F := []) (some 4) s (idText_c t h (RowH.nil 5 1) (by omega)) (by kernel_rfl) ?_
  intro v3 I3 w3 F3 le3 h3 s
  replace h := TRep.mono le3 h
  simp only [List.nil_append] at h3
  refine sem_rule (convert 22 9 v3) (some 5) (.string ⟨(textT t).toArray⟩) (by kernel_rfl) (run_rowString s h3) ?_
  refine ops_rule (C := []) [((φ1 0), .cells #[.bool b, .pointer p] 62)] F3 1 [] 0 (fun φ4 => [(2, .string ⟨(textT t).toArray⟩)]) (fun φ4 => [((φ1 0), .cells #[.bool b, .pointer p] 62)]) (fun φ4 => []) s trivial (fun φ4 => by kernel_rfl) ?_
  intro φ4 w4 s
  refine ops_done (by kernel_rfl) ?_
  refine wp_ret ?_
  refine ret_rule (C := []) [((φ1 0), .cells #[.bool b, .pointer p] 62)] F3 (.string ⟨(textT t).toArray⟩) [] [] s trivial (by kernel_rfl) ?_
  exact ⟨_, _, _, rfl, s, rfl⟩

end Go.Proofs.YtgdickihjaomjaaDoor
