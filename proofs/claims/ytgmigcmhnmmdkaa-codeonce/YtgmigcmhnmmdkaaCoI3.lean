/- The program's ids: union, Sum, Pair, Text. -/
import Derived.Test.YtgmigcmhnmmdkaaCoI2
set_option linter.all false
set_option maxRecDepth 100000
namespace Go.Proofs.Ytgmigcmhnmmdkaa.Ev
open Go.RowKit Go.Sep

def pairT (l r : T) : T × Nat := if 16 < (T.mk l r).depth then (.zero, 3) else (T.mk l r, 0)

set_option maxHeartbeats 1000000 in
theorem pair_c {I : IM} {l r : T} {bl br : Bool} {pl pr : Option Addr} (hl : TRep I l bl pl) (hr : TRep I r br pr) (hdl : l.depth ≤ 1000) (hdr : r.depth ≤ 1000) : Fun Try.prog 72 #[idv bl pl, idv br pr] I (fun v J => ∃ b p, v = .tuple #[idv b p, .int .i64 (((pairT l r).2 : Nat) : Int)] ∧ TRep J (pairT l r).1 b p) := by
  refine enter_rule 15 [(0, .agg #[.bool bl, .pointer pl]), (1, .agg #[.bool br, .pointer pr])] Try.func72 rfl (by kernel_rfl) ?_
  intro w s
  refine wp_seq ?_
  refine region_rule ?_
  refine ops_rule (C := []) [] [] 4 [] 3 (fun φ1 => [(5, .int .i64 0), (4, .pointer (some ⟨(φ1 2), 0, none⟩)), (3, .pointer (some ⟨(φ1 1), 0, none⟩)), (2, .pointer (some ⟨(φ1 0), 0, none⟩))]) (fun φ1 => [((φ1 0), .cells #[.bool bl, .pointer pl] 26), ((φ1 1), .cells #[.bool br, .pointer pr] 26), ((φ1 2), .cells #[.bool false, .pointer none] 26)]) (fun φ1 => []) s trivial (fun φ1 => by kernel_rfl) ?_
  intro φ1 w1 s
  refine ops_done (by kernel_rfl) ?_
  refine wp_seq ?_
  refine region_rule ?_
  refine ops_rule (C := []) [((φ1 0), .cells #[.bool bl, .pointer pl] 26), ((φ1 1), .cells #[.bool br, .pointer pr] 26), ((φ1 2), .cells #[.bool false, .pointer none] 26)] [] 2 [.o 0, .o 0, .o 1, .o 1] 0 (fun φ2 => [(8, .agg #[.bool br, .pointer pr]), (7, .agg #[.bool bl, .pointer pl])]) (fun φ2 => [((φ1 0), .cells #[.bool bl, .pointer pl] 26), ((φ1 1), .cells #[.bool br, .pointer pr] 26), ((φ1 2), .cells #[.bool false, .pointer none] 26)]) (fun φ2 => [(φ1 0), (φ1 0), (φ1 1), (φ1 1)]) s trivial (fun φ2 => by kernel_rfl) ?_
  intro φ2 w2 s
  refine call_rule (some 9) s (merge_c hl hr (by omega) (by omega)) (by kernel_rfl) ?_
  intro v3 I3 w3 le3 h3 s
  replace hl := TRep.mono le3 hl
  replace hr := TRep.mono le3 hr
  obtain ⟨b3, p3, rfl, h3_0⟩ := h3
  refine ops_rule (C := []) [((φ1 0), .cells #[.bool bl, .pointer pl] 26), ((φ1 1), .cells #[.bool br, .pointer pr] 26), ((φ1 2), .cells #[.bool false, .pointer none] 26)] [] 2 [.o 3, .o 3] 1 (fun φ4 => [(6, .pointer (some ⟨(φ4 0), 0, none⟩))]) (fun φ4 => [((φ1 0), .cells #[.bool bl, .pointer pl] 26), ((φ1 1), .cells #[.bool br, .pointer pr] 26), ((φ1 2), .cells #[.bool false, .pointer none] 26), ((φ4 0), .cells #[.bool b3, .pointer p3] 26)]) (fun φ4 => [(φ4 0), (φ4 0)]) s trivial (fun φ4 => by kernel_rfl) ?_
  intro φ4 w4 s
  refine ops_done (by kernel_rfl) ?_
  refine wp_seq ?_
  refine wp_seq ?_
  refine region_rule ?_
  refine ops_rule (C := []) [((φ1 0), .cells #[.bool bl, .pointer pl] 26), ((φ1 1), .cells #[.bool br, .pointer pr] 26), ((φ1 2), .cells #[.bool false, .pointer none] 26), ((φ4 0), .cells #[.bool b3, .pointer p3] 26)] [] 1 [.o 3, .o 3] 0 (fun φ5 => [(10, .agg #[.bool b3, .pointer p3])]) (fun φ5 => [((φ1 0), .cells #[.bool bl, .pointer pl] 26), ((φ1 1), .cells #[.bool br, .pointer pr] 26), ((φ1 2), .cells #[.bool false, .pointer none] 26), ((φ4 0), .cells #[.bool b3, .pointer p3] 26)]) (fun φ5 => [(φ4 0), (φ4 0)]) s trivial (fun φ5 => by kernel_rfl) ?_
  intro φ5 w5 s
  refine call_rule (some 11) s (tdepth_c h3_0) (by kernel_rfl) ?_
  intro v6 I6 w6 le6 h6 s
  replace hl := TRep.mono le6 hl
  replace hr := TRep.mono le6 hr
  replace h3_0 := TRep.mono le6 h3_0
  obtain rfl := h6
  refine ops_rule (C := []) [((φ1 0), .cells #[.bool bl, .pointer pl] 26), ((φ1 1), .cells #[.bool br, .pointer pr] 26), ((φ1 2), .cells #[.bool false, .pointer none] 26), ((φ4 0), .cells #[.bool b3, .pointer p3] 26)] [] 1 [] 0 (fun φ7 => [(12, .bool (decide (((T.depth (T.mk l r) : Nat) : Int) > ((16 : Nat) : Int))))]) (fun φ7 => [((φ1 0), .cells #[.bool bl, .pointer pl] 26), ((φ1 1), .cells #[.bool br, .pointer pr] 26), ((φ1 2), .cells #[.bool false, .pointer none] 26), ((φ4 0), .cells #[.bool b3, .pointer p3] 26)]) (fun φ7 => []) s trivial (fun φ7 => by kernel_rfl) ?_
  intro φ7 w7 s
  rw [nat_gtr (a := (T.depth (T.mk l r))) (b := 16)]
  refine ops_done (by kernel_rfl) ?_
  rcases Bool.eq_false_or_eq_true (decide (16 < (T.depth (T.mk l r)))) with hc8 | hc8
  ·
    rw [hc8]
    refine cond_true_rule (b := true) (by kernel_rfl) rfl ?_
    refine wp_seq ?_
    refine region_rule ?_
    refine call_rule (some 13) s (tzero_c) (by kernel_rfl) ?_
    intro v9 I9 w9 le9 h9 s
    replace hl := TRep.mono le9 hl
    replace hr := TRep.mono le9 hr
    replace h3_0 := TRep.mono le9 h3_0
    obtain rfl := h9
    refine ops_rule (C := []) [((φ1 0), .cells #[.bool bl, .pointer pl] 26), ((φ1 1), .cells #[.bool br, .pointer pr] 26), ((φ1 2), .cells #[.bool false, .pointer none] 26), ((φ4 0), .cells #[.bool b3, .pointer p3] 26)] [] 2 [.o 2, .o 2] 0 (fun φ10 => [(5, .int .i64 3)]) (fun φ10 => [((φ1 0), .cells #[.bool bl, .pointer pl] 26), ((φ1 1), .cells #[.bool br, .pointer pr] 26), ((φ1 2), .cells #[.bool false, .pointer none] 26), ((φ4 0), .cells #[.bool b3, .pointer p3] 26)]) (fun φ10 => [(φ1 2), (φ1 2)]) s trivial (fun φ10 => by kernel_rfl) ?_
    intro φ10 w10 s
    refine ops_done (by kernel_rfl) ?_
    refine wp_ret ?_
    refine ret_rule (C := []) [((φ1 0), .cells #[.bool bl, .pointer pl] 26), ((φ1 1), .cells #[.bool br, .pointer pr] 26), ((φ1 2), .cells #[.bool false, .pointer none] 26), ((φ4 0), .cells #[.bool b3, .pointer p3] 26)] [] (.tuple #[.agg #[.bool false, .pointer none], .int .i64 3]) [.o 2, .o 2] [(φ1 2), (φ1 2)] s trivial (by kernel_rfl) ?_
    exact ⟨_, _, _, rfl, s, (by rw [pairT, if_pos (of_decide_eq_true hc8)]; exact ⟨_, _, rfl, rfl, rfl⟩)⟩
  ·
    rw [hc8]
    refine cond_false_rule (b := false) (by kernel_rfl) rfl ?_
    refine wp_skip ?_
    refine wp_seq ?_
    refine region_rule ?_
    refine ops_rule (C := []) [((φ1 0), .cells #[.bool bl, .pointer pl] 26), ((φ1 1), .cells #[.bool br, .pointer pr] 26), ((φ1 2), .cells #[.bool false, .pointer none] 26), ((φ4 0), .cells #[.bool b3, .pointer p3] 26)] [] 3 [.o 3, .o 3, .o 2, .o 2] 0 (fun φ11 => [(5, .int .i64 0), (14, .agg #[.bool b3, .pointer p3])]) (fun φ11 => [((φ1 0), .cells #[.bool bl, .pointer pl] 26), ((φ1 1), .cells #[.bool br, .pointer pr] 26), ((φ1 2), .cells #[.bool b3, .pointer p3] 26), ((φ4 0), .cells #[.bool b3, .pointer p3] 26)]) (fun φ11 => [(φ4 0), (φ4 0), (φ1 2), (φ1 2)]) s trivial (fun φ11 => by kernel_rfl) ?_
    intro φ11 w11 s
    refine ops_done (by kernel_rfl) ?_
    refine wp_ret ?_
    refine ret_rule (C := []) [((φ1 0), .cells #[.bool bl, .pointer pl] 26), ((φ1 1), .cells #[.bool br, .pointer pr] 26), ((φ1 2), .cells #[.bool b3, .pointer p3] 26), ((φ4 0), .cells #[.bool b3, .pointer p3] 26)] [] (.tuple #[.agg #[.bool b3, .pointer p3], .int .i64 0]) [.o 2, .o 2] [(φ1 2), (φ1 2)] s trivial (by kernel_rfl) ?_
    exact ⟨_, _, _, rfl, s, (by rw [pairT, if_neg (of_decide_eq_false hc8)]; exact ⟨_, _, rfl, h3_0⟩)⟩

theorem pairOk_c {I : IM} {l r : T} {bl br : Bool} {pl pr : Option Addr} (hl : TRep I l bl pl) (hr : TRep I r br pr) (h : (T.mk l r).depth ≤ 16) (hdl : l.depth ≤ 1000) (hdr : r.depth ≤ 1000) : Fun Try.prog 72 #[idv bl pl, idv br pr] I (fun v J => ∃ b p, v = .tuple #[idv b p, .int .i64 0] ∧ TRep J (T.mk l r) b p) := by
  have h1 := pair_c hl hr hdl hdr
  rw [pairT, if_neg (by omega)] at h1; exact h1

end Go.Proofs.Ytgmigcmhnmmdkaa.Ev

