/- The program's ids: union, Sum, Pair, Text. -/
import Derived.Test.YtgmigcmhnmmdkaaCrM16
import Derived.Test.YtgmigcmhnmmdkaaCrS9
set_option linter.all false
set_option maxRecDepth 100000
namespace Go.Proofs.Ytgmigcmhnmmdkaa.Ev
open Go.RowKit Go.Sep

def pairT (l r : T) : T × Nat := if 16 < (T.mk l r).depth then (.zero, 3) else (T.mk l r, 0)

set_option maxHeartbeats 1000000 in
theorem pair_c {I : IM} {l r : T} {bl br : Bool} {pl pr : Option Addr} (hl : TRep I l bl pl) (hr : TRep I r br pr) (hdl : l.depth ≤ 1000) (hdr : r.depth ≤ 1000) : Fun Try.prog 72 #[idv bl pl, idv br pr] I (fun v J => ∃ b p, v = .tuple #[idv b p, .int .i64 (((pairT l r).2 : Nat) : Int)] ∧ TRep J (pairT l r).1 b p) := by
 refine enter_rule 15 [(0, .agg #[.bool bl, .pointer pl]), (1, .agg #[.bool br, .pointer pr])] Try.func72 rfl (by kernel_rfl) ?_
 intro w s
 refine wp_seq ?_
 refine region_rule ?_
 refine ops_rule (C := []) [] [] 4 [] 3 (fun φ1 => [(5, .int .i64 0), (4, .pointer (some ⟨(φ1 2), 0, none⟩)), (3, .pointer (some ⟨(φ1 1), 0, none⟩)), (2, .pointer (some ⟨(φ1 0), 0, none⟩))]) (fun φ1 => [((φ1 0), .cells #[.bool bl, .pointer pl] 26), ((φ1 1), .cells #[.bool br, .pointer pr] 26), ((φ1 2), .cells #[.bool false, .pointer none] 26)]) (fun φ1 => []) s trivial (fun φ1 => by kernel_rfl) ?_
 intro φ1 w1 s
 refine ops_done (by kernel_rfl) ?_
 refine wp_seq ?_
 refine region_rule ?_
 refine ops_rule (C := []) [((φ1 0), .cells #[.bool bl, .pointer pl] 26), ((φ1 1), .cells #[.bool br, .pointer pr] 26), ((φ1 2), .cells #[.bool false, .pointer none] 26)] [] 2 [.o 0, .o 0, .o 1, .o 1] 0 (fun φ2 => [(8, .agg #[.bool br, .pointer pr]), (7, .agg #[.bool bl, .pointer pl])]) (fun φ2 => [((φ1 0), .cells #[.bool bl, .pointer pl] 26), ((φ1 1), .cells #[.bool br, .pointer pr] 26), ((φ1 2), .cells #[.bool false, .pointer none] 26)]) (fun φ2 => [(φ1 0), (φ1 0), (φ1 1), (φ1 1)]) s trivial (fun φ2 => by kernel_rfl) ?_
 intro φ2 w2 s
 refine call_rule (some 9) s (merge_c hl hr (by omega) (by omega)) (by kernel_rfl) ?_
 intro v3 I3 w3 le3 h3 s
 obtain ⟨b3, p3, rfl, h3_0⟩ := h3
 refine ops_rule (C := []) [((φ1 0), .cells #[.bool bl, .pointer pl] 26), ((φ1 1), .cells #[.bool br, .pointer pr] 26), ((φ1 2), .cells #[.bool false, .pointer none] 26)] [] 2 [.o 3, .o 3] 1 (fun φ4 => [(6, .pointer (some ⟨(φ4 0), 0, none⟩))]) (fun φ4 => [((φ1 0), .cells #[.bool bl, .pointer pl] 26), ((φ1 1), .cells #[.bool br, .pointer pr] 26), ((φ1 2), .cells #[.bool false, .pointer none] 26), ((φ4 0), .cells #[.bool b3, .pointer p3] 26)]) (fun φ4 => [(φ4 0), (φ4 0)]) s trivial (fun φ4 => by kernel_rfl) ?_
 intro φ4 w4 s
 refine ops_done (by kernel_rfl) ?_
 refine wp_seq ?_
 refine wp_seq ?_
 refine region_rule ?_
 refine ops_rule (C := []) [((φ1 0), .cells #[.bool bl, .pointer pl] 26), ((φ1 1), .cells #[.bool br, .pointer pr] 26), ((φ1 2), .cells #[.bool false, .pointer none] 26), ((φ4 0), .cells #[.bool b3, .pointer p3] 26)] [] 1 [.o 3, .o 3] 0 (fun φ5 => [(10, .agg #[.bool b3, .pointer p3])]) (fun φ5 => [((φ1 0), .cells #[.bool bl, .pointer pl] 26), ((φ1 1), .cells #[.bool br, .pointer pr] 26), ((φ1 2), .cells #[.bool false, .pointer none] 26), ((φ4 0), .cells #[.bool b3, .pointer p3] 26)]) (fun φ5 => [(φ4 0), (φ4 0)]) s trivial (fun φ5 => by kernel_rfl) ?_
 intro φ5 w5 s
 refine call_rule (some 11) s (tdepth_c h3_0) (by kernel_rfl) ?_
 intro v6 I6 w6 le6 h6 s
 replace h3_0 := TRep.mono le6 h3_0
 obtain rfl := h6
 refine ops_rule (C := []) [((φ1 0), .cells #[.bool bl, .pointer pl] 26), ((φ1 1), .cells #[.bool br, .pointer pr] 26), ((φ1 2), .cells #[.bool false, .pointer none] 26), ((φ4 0), .cells #[.bool b3, .pointer p3] 26)] [] 1 [] 0 (fun φ7 => [(12, .bool (decide (((T.depth (T.mk l r) : Nat) : Int) > ((16 : Nat) : Int))))]) (fun φ7 => [((φ1 0), .cells #[.bool bl, .pointer pl] 26), ((φ1 1), .cells #[.bool br, .pointer pr] 26), ((φ1 2), .cells #[.bool false, .pointer none] 26), ((φ4 0), .cells #[.bool b3, .pointer p3] 26)]) (fun φ7 => []) s trivial (fun φ7 => by kernel_rfl) ?_
 intro φ7 w7 s
 rw [nat_gtr (a := (T.depth (T.mk l r))) (b := 16)]
 refine ops_done (by kernel_rfl) ?_
 rcases Bool.eq_false_or_eq_true (decide (16 < (T.depth (T.mk l r)))) with hc8 | hc8
 ·
  rw [hc8]
  refine cond_true_rule (b := true) (by kernel_rfl) rfl ?_
  refine wp_seq ?_
  refine region_rule ?_
  refine call_rule (some 13) s (tzero_c) (by kernel_rfl) ?_
  intro v9 I9 w9 le9 h9 s
  replace h3_0 := TRep.mono le9 h3_0
  obtain rfl := h9
  refine ops_rule (C := []) [((φ1 0), .cells #[.bool bl, .pointer pl] 26), ((φ1 1), .cells #[.bool br, .pointer pr] 26), ((φ1 2), .cells #[.bool false, .pointer none] 26), ((φ4 0), .cells #[.bool b3, .pointer p3] 26)] [] 2 [.o 2, .o 2] 0 (fun φ10 => [(5, .int .i64 3)]) (fun φ10 => [((φ1 0), .cells #[.bool bl, .pointer pl] 26), ((φ1 1), .cells #[.bool br, .pointer pr] 26), ((φ1 2), .cells #[.bool false, .pointer none] 26), ((φ4 0), .cells #[.bool b3, .pointer p3] 26)]) (fun φ10 => [(φ1 2), (φ1 2)]) s trivial (fun φ10 => by kernel_rfl) ?_
  intro φ10 w10 s
  refine ops_done (by kernel_rfl) ?_
  refine wp_ret ?_
  refine ret_rule (C := []) [((φ1 0), .cells #[.bool bl, .pointer pl] 26), ((φ1 1), .cells #[.bool br, .pointer pr] 26), ((φ1 2), .cells #[.bool false, .pointer none] 26), ((φ4 0), .cells #[.bool b3, .pointer p3] 26)] [] (.tuple #[.agg #[.bool false, .pointer none], .int .i64 3]) [.o 2, .o 2] [(φ1 2), (φ1 2)] s trivial (by kernel_rfl) ?_
  exact ⟨_, _, _, rfl, s, (by rw [pairT, if_pos (of_decide_eq_true hc8)]; exact ⟨_, _, rfl, rfl, rfl⟩)⟩
 ·
  rw [hc8]
  refine cond_false_rule (b := false) (by kernel_rfl) rfl ?_
  refine wp_skip ?_
  refine wp_seq ?_
  refine region_rule ?_
  refine ops_rule (C := []) [((φ1 0), .cells #[.bool bl, .pointer pl] 26), ((φ1 1), .cells #[.bool br, .pointer pr] 26), ((φ1 2), .cells #[.bool false, .pointer none] 26), ((φ4 0), .cells #[.bool b3, .pointer p3] 26)] [] 3 [.o 3, .o 3, .o 2, .o 2] 0 (fun φ11 => [(5, .int .i64 0), (14, .agg #[.bool b3, .pointer p3])]) (fun φ11 => [((φ1 0), .cells #[.bool bl, .pointer pl] 26), ((φ1 1), .cells #[.bool br, .pointer pr] 26), ((φ1 2), .cells #[.bool b3, .pointer p3] 26), ((φ4 0), .cells #[.bool b3, .pointer p3] 26)]) (fun φ11 => [(φ4 0), (φ4 0), (φ1 2), (φ1 2)]) s trivial (fun φ11 => by kernel_rfl) ?_
  intro φ11 w11 s
  refine ops_done (by kernel_rfl) ?_
  refine wp_ret ?_
  refine ret_rule (C := []) [((φ1 0), .cells #[.bool bl, .pointer pl] 26), ((φ1 1), .cells #[.bool br, .pointer pr] 26), ((φ1 2), .cells #[.bool b3, .pointer p3] 26), ((φ4 0), .cells #[.bool b3, .pointer p3] 26)] [] (.tuple #[.agg #[.bool b3, .pointer p3], .int .i64 0]) [.o 2, .o 2] [(φ1 2), (φ1 2)] s trivial (by kernel_rfl) ?_
  exact ⟨_, _, _, rfl, s, (by rw [pairT, if_neg (of_decide_eq_false hc8)]; exact ⟨_, _, rfl, h3_0⟩)⟩

theorem pairOk_c {I : IM} {l r : T} {bl br : Bool} {pl pr : Option Addr} (hl : TRep I l bl pl) (hr : TRep I r br pr) (h : (T.mk l r).depth ≤ 16) (hdl : l.depth ≤ 1000) (hdr : r.depth ≤ 1000) : Fun Try.prog 72 #[idv bl pl, idv br pr] I (fun v J => ∃ b p, v = .tuple #[idv b p, .int .i64 0] ∧ TRep J (T.mk l r) b p) := by
  have h1 := pair_c hl hr hdl hdr
  rw [pairT, if_neg (by omega)] at h1; exact h1

end Go.Proofs.Ytgmigcmhnmmdkaa.Ev

/- The program's stamps: Fill, Grow, Tick, Fork, Join. -/
set_option linter.all false
set_option maxRecDepth 100000
namespace Go.Proofs.Ytgmigcmhnmmdkaa.Ev
open Go.RowKit Go.Sep

theorem T.half_depth (t : T) : t.left.depth ≤ t.depth ∧ t.right.depth ≤ t.depth := by
  cases t with
  | zero => exact ⟨Nat.le_refl _, Nat.le_refl _⟩
  | one => exact ⟨Nat.le_refl _, Nat.le_refl _⟩
  | node l r => exact ⟨show l.depth ≤ 1 + max l.depth r.depth by omega, show r.depth ≤ 1 + max l.depth r.depth by omega⟩
end Go.Proofs.Ytgmigcmhnmmdkaa.Ev

/- The program's stamps: Grow, Tick, Fork, Join. -/
set_option linter.all false
set_option maxRecDepth 100000
namespace Go.Proofs.Ytgmigcmhnmmdkaa.Ev
open Go.RowKit Go.Sep

abbrev stv (ib : Bool) (ip : Option Addr) (eb : Nat) (ep : Option Addr) : Value := .agg #[.bool ib, .pointer ip, .int .u64 ((eb : Nat) : Int), .pointer ep]
set_option maxHeartbeats 400000 in
theorem seed_c {I : IM} : Fun Try.prog 32 #[] I (fun v J => v = stv true none 0 none) := by
 refine enter_rule 3 [] Try.func32 rfl (by kernel_rfl) ?_
 intro w s
 refine wp_seq ?_
 refine region_rule ?_
 refine ops_rule (C := []) [] [] 1 [] 1 (fun φ1 => [(0, .pointer (some ⟨(φ1 0), 0, none⟩))]) (fun φ1 => [((φ1 0), .cells #[.bool false, .pointer none, .int .u64 0, .pointer none] 32)]) (fun φ1 => []) s trivial (fun φ1 => by kernel_rfl) ?_
 intro φ1 w1 s
 refine ops_done (by kernel_rfl) ?_
 refine wp_seq ?_
 refine region_rule ?_
 refine call_rule (some 1) s (tone_c) (by kernel_rfl) ?_
 intro v2 I2 w2 le2 h2 s
 obtain rfl := h2
 refine ops_rule (C := []) [((φ1 0), .cells #[.bool false, .pointer none, .int .u64 0, .pointer none] 32)] [] 2 [.o 0, .o 0, .o 0, .o 0] 0 (fun φ3 => [(2, .agg #[.bool true, .pointer none, .int .u64 0, .pointer none])]) (fun φ3 => [((φ1 0), .cells #[.bool true, .pointer none, .int .u64 0, .pointer none] 32)]) (fun φ3 => [(φ1 0), (φ1 0), (φ1 0), (φ1 0)]) s trivial (fun φ3 => by kernel_rfl) ?_
 intro φ3 w3 s
 refine ops_done (by kernel_rfl) ?_
 refine wp_ret ?_
 refine ret_rule (C := []) [((φ1 0), .cells #[.bool true, .pointer none, .int .u64 0, .pointer none] 32)] [] (.agg #[.bool true, .pointer none, .int .u64 0, .pointer none]) [.o 0, .o 0, .o 0, .o 0] [(φ1 0), (φ1 0), (φ1 0), (φ1 0)] s trivial (by kernel_rfl) ?_
 exact ⟨_, _, _, rfl, s, rfl⟩

end Go.Proofs.Ytgmigcmhnmmdkaa.Ev

/- The limits of stamps. -/
set_option linter.all false
set_option maxRecDepth 100000
namespace Go.Proofs.Ytgmigcmhnmmdkaa.Ev
open Go.RowKit Go.Sep

/-- An id with one part alone, so deep. -/
def Spine : Nat → T → Prop
  | 0, i => i = .one
  | k + 1, i => ∃ s, Spine k s ∧ (i = .node s .zero ∨ i = .node .zero s)
theorem Spine.nz : ∀ {k : Nat} {i : T}, Spine k i → i.isZero = false
  | 0, _, h => by rw [show _ = _ from h]; rfl
  | k + 1, _, ⟨s, hs, h⟩ => by rcases h with rfl | rfl <;> rfl
theorem Spine.depth : ∀ {k : Nat} {i : T}, Spine k i → i.depth = k
  | 0, _, h => by rw [show _ = _ from h]; rfl
  | k + 1, _, ⟨s, hs, h⟩ => by
    have := hs.depth
    rcases h with rfl | rfl
    · show 1 + max s.depth 0 = k + 1; omega
    · show 1 + max 0 s.depth = k + 1; omega
theorem mk_left {s : T} (h : s.isZero = false) : T.mk s .zero = .node s .zero := by cases s <;> simp_all [T.isZero, T.mk]
theorem mk_right {s : T} (h : s.isZero = false) : T.mk .zero s = .node .zero s := by cases s <;> simp_all [T.isZero, T.mk]
theorem Spine.cut : ∀ {k : Nat} {i : T}, Spine k i → Spine (k + 1) (cutT i).1 ∧ Spine (k + 1) (cutT i).2
  | 0, _, h => by
    rw [show _ = _ from h]
    exact ⟨⟨.one, rfl, .inl rfl⟩, ⟨.one, rfl, .inr rfl⟩⟩
  | k + 1, _, ⟨s, hs, h⟩ => by
    have ih := hs.cut
    have hz := hs.nz
    rcases h with rfl | rfl
    · have : cutT (.node s .zero) = (T.mk (cutT s).1 .zero, T.mk (cutT s).2 .zero) := by
        rw [cutT, if_neg (by rw [hz]; simp), if_pos (show T.zero.isZero = true from rfl)]
      rw [this, mk_left ih.1.nz, mk_left ih.2.nz]
      exact ⟨⟨_, ih.1, .inl rfl⟩, ⟨_, ih.2, .inl rfl⟩⟩
    · have : cutT (.node .zero s) = (T.mk .zero (cutT s).1, T.mk .zero (cutT s).2) := by
        rw [cutT, if_pos (show T.zero.isZero = true from rfl)]
      rw [this, mk_right ih.1.nz, mk_right ih.2.nz]
      exact ⟨⟨_, ih.1, .inr rfl⟩, ⟨_, ih.2, .inr rfl⟩⟩
end Go.Proofs.Ytgmigcmhnmmdkaa.Ev

/- The document's trees, and their texts. -/
set_option linter.all false
set_option maxRecDepth 100000
namespace Go.Proofs.Ytgmigcmhnmmdkaa.Ev
open Go.RowKit Go.Sep

def RT (I : IM) : T → Nat → Prop
  | .zero, k => I k = some (.cells #[.int .i64 0, .pointer none, .pointer none] 84)
  | .one, k => I k = some (.cells #[.int .i64 1, .pointer none, .pointer none] 84)
  | .node l r, k => ∃ kl kr, I k = some (.cells #[.int .i64 2, .pointer (some ⟨kl, 0, none⟩), .pointer (some ⟨kr, 0, none⟩)] 84) ∧ RT I l kl ∧ RT I r kr
def RE (I : IM) : E → Nat → Prop
  | .leaf n, k => I k = some (.cells #[.int .u64 ((n : Nat) : Int), .pointer none, .pointer none] 87)
  | .node n l r, k => ∃ kl kr, I k = some (.cells #[.int .u64 ((n : Nat) : Int), .pointer (some ⟨kl, 0, none⟩), .pointer (some ⟨kr, 0, none⟩)] 87) ∧ RE I l kl ∧ RE I r kr
theorem RT.mono {I J : IM} (le : I.Le J) : ∀ {t : T} {k : Nat}, RT I t k → RT J t k
  | .zero, _, h => le _ _ h
  | .one, _, h => le _ _ h
  | .node _ _, _, ⟨kl, kr, h, hl, hr⟩ => ⟨kl, kr, le _ _ h, hl.mono le, hr.mono le⟩
theorem RE.mono {I J : IM} (le : I.Le J) : ∀ {e : E} {k : Nat}, RE I e k → RE J e k
  | .leaf _, _, h => le _ _ h
  | .node _ _ _, _, ⟨kl, kr, h, hl, hr⟩ => ⟨kl, kr, le _ _ h, hl.mono le, hr.mono le⟩
end Go.Proofs.Ytgmigcmhnmmdkaa.Ev

/- The document's ids. -/
set_option linter.all false
set_option maxRecDepth 100000
namespace Go.Proofs.Ytgmigcmhnmmdkaa.Ev
open Go.RowKit Go.Sep

def kindT : T → Nat
  | .zero => 0
  | .one => 1
  | .node _ _ => 2
theorem RT.peek {I : IM} {t : T} {k : Nat} (h : RT I t k) : ∃ pl pr, I k = some (.cells #[.int .i64 ((kindT t : Nat) : Int), .pointer pl, .pointer pr] 84) := by
  cases t with
  | zero => exact ⟨_, _, h⟩
  | one => exact ⟨_, _, h⟩
  | node l r => obtain ⟨kl, kr, h, _, _⟩ := h; exact ⟨_, _, h⟩
theorem mk_same {l r : T} (h : kindT l = kindT r) (h2 : kindT l < 2) : T.mk l r = l := by
  cases l <;> cases r <;> simp_all [kindT, T.mk]
theorem mk_apart {l r : T} (h : kindT l ≠ kindT r) : T.mk l r = .node l r := by
  cases l <;> cases r <;> simp_all [kindT, T.mk]
theorem mk_deep {l r : T} (h : ¬ kindT l < 2) : T.mk l r = .node l r := by
  cases l <;> cases r <;> simp_all [kindT, T.mk]
set_option maxHeartbeats 400000 in
theorem rzero_c {I : IM} : Fun Try.prog 67 #[] I (fun v J => ∃ k, v = .pointer (some ⟨k, 0, none⟩) ∧ RT J T.zero k) := by
 refine enter_rule 3 [] Try.func67 rfl (by kernel_rfl) ?_
 intro w s
 refine wp_seq ?_
 refine region_rule ?_
 refine ops_rule (C := []) [] [] 1 [] 0 (fun φ1 => [(0, .pointer none)]) (fun φ1 => []) (fun φ1 => []) s trivial (fun φ1 => by kernel_rfl) ?_
 intro φ1 w1 s
 refine ops_done (by kernel_rfl) ?_
 refine wp_seq ?_
 refine region_rule ?_
 refine ops_rule (C := []) [] [] 3 [] 1 (fun φ2 => [(0, .pointer (some ⟨(φ2 0), 0, none⟩)), (2, .pointer (some ⟨(φ2 0), 0, none⟩)), (1, .agg #[.int .i64 0, .pointer none, .pointer none])]) (fun φ2 => [((φ2 0), .cells #[.int .i64 0, .pointer none, .pointer none] 84)]) (fun φ2 => []) s trivial (fun φ2 => by kernel_rfl) ?_
 intro φ2 w2 s
 refine ops_done (by kernel_rfl) ?_
 refine wp_ret ?_
 refine ret_rule (C := []) [((φ2 0), .cells #[.int .i64 0, .pointer none, .pointer none] 84)] [] (.pointer (some ⟨(φ2 0), 0, none⟩)) [] [] s trivial (by kernel_rfl) ?_
 obtain ⟨I3, le3, hk3, s⟩ := s.freezeAt 0 (φ2 0) (.cells #[.int .i64 0, .pointer none, .pointer none] 84) [] (by kernel_rfl) (by kernel_rfl)
 exact ⟨_, _, _, rfl, s, ⟨_, rfl, hk3⟩⟩

set_option maxHeartbeats 1000000 in
theorem rpair_c {I : IM} {l r : T} {kl kr : Nat} (hl : RT I l kl) (hr : RT I r kr) : Fun Try.prog 68 #[.pointer (some ⟨kl, 0, none⟩), .pointer (some ⟨kr, 0, none⟩)] I (fun v J => ∃ k, v = .pointer (some ⟨k, 0, none⟩) ∧ RT J (T.mk l r) k) := by
 refine enter_rule 26 [(0, .pointer (some ⟨kl, 0, none⟩)), (1, .pointer (some ⟨kr, 0, none⟩))] Try.func68 rfl (by kernel_rfl) ?_
 intro w s
 refine wp_seq ?_
 refine region_rule ?_
 refine ops_rule (C := []) [] [] 1 [] 0 (fun φ1 => [(4, .pointer none)]) (fun φ1 => []) (fun φ1 => []) s trivial (fun φ1 => by kernel_rfl) ?_
 intro φ1 w1 s
 refine ops_done (by kernel_rfl) ?_
 refine wp_seq ?_
 refine wp_seq ?_
 rcases Bool.eq_false_or_eq_true (decide ((kindT l) = (kindT r))) with hc4 | hc4
 ·
  obtain ⟨pl5, pr5, hp5⟩ := RT.peek hl
  obtain ⟨pl6, pr6, hp6⟩ := RT.peek hr
  refine draw_rule (C := [(kl, .cells #[.int .i64 ((kindT l : Nat) : Int), .pointer pl5, .pointer pr5] 84), (kr, .cells #[.int .i64 ((kindT r : Nat) : Int), .pointer pl6, .pointer pr6] 84)]) ⟨(fun φ5 xs5 => [.look 0 [] [], .look 0 [] [], .look 0 [] [], .look 0 [.c 0] [kl], .look 0 [] [], .look 0 [] [], .look 0 [] [], .look 0 [.c 1] [kr], .sub 0 [] [] (.bool (((kindT l : Nat) : Int) == ((kindT r : Nat) : Int))), .look 0 [] [], .look 0 [] [], .look 0 [] [], .look 0 [] [], .look 0 [.c 0] [kl], .sub 0 [] [] (.bool (decide (((kindT l : Nat) : Int) < ((2 : Nat) : Int)))), .look 0 [] []]), (fun φ5 xs5 => [.pointer (some ⟨kl, 0, none⟩), .pointer (some ⟨kl, 0, none⟩), .pointer (some ⟨kl, 0, none⟩), .int .i64 ((kindT l : Nat) : Int), .pointer (some ⟨kr, 0, none⟩), .pointer (some ⟨kr, 0, none⟩), .pointer (some ⟨kr, 0, none⟩), .int .i64 ((kindT r : Nat) : Int), .bool true, .bool true, .pointer (some ⟨kl, 0, none⟩), .pointer (some ⟨kl, 0, none⟩), .pointer (some ⟨kl, 0, none⟩), .int .i64 ((kindT l : Nat) : Int), .bool (decide ((kindT l) < 2)), .bool (decide ((kindT l) < 2))]), (fun φ5 xs5 => [[]]), (fun φ5 xs5 => [[default, default, default, default, default, default, default, default, default, default, default, default, default, default, default, default]]), [], [1, 1, 1, 1, 1, 1, 1, 1, 5, 1, 1, 1, 1, 1, 5, 1]⟩ (fun j => ([MP.any, MP.any, MP.any, MP.any, MP.any, MP.any, MP.any, MP.any, MP.any, MP.any, MP.any, MP.any, MP.any, MP.any, MP.any, MP.any] : List MP).getD j MP.any) [] [8, 14] [] (fun φ5 xs5 => []) (fun φ5 xs5 => [(5, .pointer (some ⟨kl, 0, none⟩)), (6, .pointer (some ⟨kl, 0, none⟩)), (7, .pointer (some ⟨kl, 0, none⟩)), (8, .int .i64 ((kindT l : Nat) : Int)), (9, .pointer (some ⟨kr, 0, none⟩)), (10, .pointer (some ⟨kr, 0, none⟩)), (11, .pointer (some ⟨kr, 0, none⟩)), (12, .int .i64 ((kindT r : Nat) : Int)), (13, .bool true), (14, .bool true), (15, .pointer (some ⟨kl, 0, none⟩)), (16, .pointer (some ⟨kl, 0, none⟩)), (17, .pointer (some ⟨kl, 0, none⟩)), (18, .int .i64 ((kindT l : Nat) : Int)), (19, .bool (decide ((kindT l) < 2))), (20, .bool (decide ((kindT l) < 2)))]) (fun φ5 xs5 => []) s ⟨hp5, ⟨hp6, trivial⟩⟩ (by kernel_rfl) (by kernel_rfl) (fun _ _ => by kernel_rfl) (fun _ _ => by kernel_rfl) ⟨fun _ _ => by kernel_rfl, fun _ _ => by kernel_rfl, fun _ _ => by kernel_rfl, fun _ _ => by kernel_rfl⟩ (fun _ _ _ => by kernel_rfl) (fun _ _ => by kernel_rfl) (fun _ _ => by kernel_rfl) (fun _ _ => by kernel_rfl) (fun _ _ => by kernel_rfl) (fun _ _ => by kernel_rfl) ⟨kcast (A := ∀ (φ5 : Nat → Nat) (xs5 : Xs), (.bool (((kindT l : Nat) : Int) == ((kindT r : Nat) : Int)) : Value) = .bool true) (by kernel_rfl) (fun φ5 xs5 => congrArg Value.bool ((nat_eql (a := (kindT l)) (b := (kindT r))).trans (hc4))), ⟨kcast (A := ∀ (φ5 : Nat → Nat) (xs5 : Xs), (.bool (decide (((kindT l : Nat) : Int) < ((2 : Nat) : Int))) : Value) = .bool (decide ((kindT l) < 2))) (by kernel_rfl) (fun φ5 xs5 => congrArg Value.bool ((nat_lss (a := (kindT l)) (b := 2)))), trivial⟩⟩ trivial (by kernel_rfl) trivial ?k5
  case k5 =>
   rintro φ5 xs5 I5 w5 le5 s 
   replace hl := RT.mono le5 hl
   replace hr := RT.mono le5 hr
   rcases Bool.eq_false_or_eq_true (decide ((kindT l) < 2)) with hc8 | hc8
   ·
    rw [hc8]
    refine cond_true_rule (b := true) (by kernel_rfl) rfl ?_
    refine wp_seq ?_
    refine region_rule ?_
    refine ops_rule (C := []) [] [] 2 [] 0 (fun φ9 => [(4, .pointer (some ⟨kl, 0, none⟩)), (21, .pointer (some ⟨kl, 0, none⟩))]) (fun φ9 => []) (fun φ9 => []) s trivial (fun φ9 => by kernel_rfl) ?_
    intro φ9 w9 s
    refine ops_done (by kernel_rfl) ?_
    refine wp_ret ?_
    refine ret_rule (C := []) [] [] (.pointer (some ⟨kl, 0, none⟩)) [] [] s trivial (by kernel_rfl) ?_
    exact ⟨_, _, _, rfl, s, ⟨_, rfl, by rw [mk_same (of_decide_eq_true hc4) (of_decide_eq_true hc8)]; exact hl⟩⟩
   ·
    rw [hc8]
    refine cond_false_rule (b := false) (by kernel_rfl) rfl ?_
    refine wp_skip ?_
    refine wp_seq ?_
    refine region_rule ?_
    refine ops_rule (C := []) [] [] 5 [] 1 (fun φ10 => [(4, .pointer (some ⟨(φ10 0), 0, none⟩)), (25, .pointer (some ⟨(φ10 0), 0, none⟩)), (24, .agg #[.int .i64 2, .pointer (some ⟨kl, 0, none⟩), .pointer (some ⟨kr, 0, none⟩)]), (23, .pointer (some ⟨kr, 0, none⟩)), (22, .pointer (some ⟨kl, 0, none⟩))]) (fun φ10 => [((φ10 0), .cells #[.int .i64 2, .pointer (some ⟨kl, 0, none⟩), .pointer (some ⟨kr, 0, none⟩)] 84)]) (fun φ10 => []) s trivial (fun φ10 => by kernel_rfl) ?_
    intro φ10 w10 s
    refine ops_done (by kernel_rfl) ?_
    refine wp_ret ?_
    refine ret_rule (C := []) [((φ10 0), .cells #[.int .i64 2, .pointer (some ⟨kl, 0, none⟩), .pointer (some ⟨kr, 0, none⟩)] 84)] [] (.pointer (some ⟨(φ10 0), 0, none⟩)) [] [] s trivial (by kernel_rfl) ?_
    obtain ⟨I11, le11, hk11, s⟩ := s.freezeAt 0 (φ10 0) (.cells #[.int .i64 2, .pointer (some ⟨kl, 0, none⟩), .pointer (some ⟨kr, 0, none⟩)] 84) [] (by kernel_rfl) (by kernel_rfl)
    replace hl := RT.mono le11 hl
    replace hr := RT.mono le11 hr
    exact ⟨_, _, _, rfl, s, ⟨_, rfl, by rw [mk_deep (of_decide_eq_false hc8)]; exact ⟨_, _, hk11, hl, hr⟩⟩⟩
 ·
  obtain ⟨pl12, pr12, hp12⟩ := RT.peek hl
  obtain ⟨pl13, pr13, hp13⟩ := RT.peek hr
  refine draw_rule (C := [(kl, .cells #[.int .i64 ((kindT l : Nat) : Int), .pointer pl12, .pointer pr12] 84), (kr, .cells #[.int .i64 ((kindT r : Nat) : Int), .pointer pl13, .pointer pr13] 84)]) ⟨(fun φ12 xs12 => [.look 0 [] [], .look 0 [] [], .look 0 [] [], .look 0 [.c 0] [kl], .look 0 [] [], .look 0 [] [], .look 0 [] [], .look 0 [.c 1] [kr], .sub 0 [] [] (.bool (((kindT l : Nat) : Int) == ((kindT r : Nat) : Int))), .look 0 [] [], .skip, .skip, .skip, .skip, .skip, .look 0 [] []]), (fun φ12 xs12 => [.pointer (some ⟨kl, 0, none⟩), .pointer (some ⟨kl, 0, none⟩), .pointer (some ⟨kl, 0, none⟩), .int .i64 ((kindT l : Nat) : Int), .pointer (some ⟨kr, 0, none⟩), .pointer (some ⟨kr, 0, none⟩), .pointer (some ⟨kr, 0, none⟩), .int .i64 ((kindT r : Nat) : Int), .bool false, .bool false, undef, undef, undef, undef, undef, .bool false]), (fun φ12 xs12 => [[]]), (fun φ12 xs12 => [[default, default, default, default, default, default, default, default, default, default, default, default, default, default, default, default]]), [], [1, 1, 1, 1, 1, 1, 1, 1, 5, 1, 0, 0, 0, 0, 0, 1]⟩ (fun j => ([MP.any, MP.any, MP.any, MP.any, MP.any, MP.any, MP.any, MP.any, MP.any, MP.any, MP.any, MP.any, MP.any, MP.any, MP.any, MP.any] : List MP).getD j MP.any) [] [8] [] (fun φ12 xs12 => []) (fun φ12 xs12 => [(5, .pointer (some ⟨kl, 0, none⟩)), (6, .pointer (some ⟨kl, 0, none⟩)), (7, .pointer (some ⟨kl, 0, none⟩)), (8, .int .i64 ((kindT l : Nat) : Int)), (9, .pointer (some ⟨kr, 0, none⟩)), (10, .pointer (some ⟨kr, 0, none⟩)), (11, .pointer (some ⟨kr, 0, none⟩)), (12, .int .i64 ((kindT r : Nat) : Int)), (13, .bool false), (14, .bool false), (15, undef), (16, undef), (17, undef), (18, undef), (19, undef), (20, .bool false)]) (fun φ12 xs12 => []) s ⟨hp12, ⟨hp13, trivial⟩⟩ (by kernel_rfl) (by kernel_rfl) (fun _ _ => by kernel_rfl) (fun _ _ => by kernel_rfl) ⟨fun _ _ => by kernel_rfl, fun _ _ => by kernel_rfl, fun _ _ => by kernel_rfl, fun _ _ => by kernel_rfl⟩ (fun _ _ _ => by kernel_rfl) (fun _ _ => by kernel_rfl) (fun _ _ => by kernel_rfl) (fun _ _ => by kernel_rfl) (fun _ _ => by kernel_rfl) (fun _ _ => by kernel_rfl) ⟨kcast (A := ∀ (φ12 : Nat → Nat) (xs12 : Xs), (.bool (((kindT l : Nat) : Int) == ((kindT r : Nat) : Int)) : Value) = .bool false) (by kernel_rfl) (fun φ12 xs12 => congrArg Value.bool ((nat_eql (a := (kindT l)) (b := (kindT r))).trans (hc4))), trivial⟩ trivial (by kernel_rfl) trivial ?k12
  case k12 =>
   rintro φ12 xs12 I12 w12 le12 s 
   replace hl := RT.mono le12 hl
   replace hr := RT.mono le12 hr
   refine cond_false_rule (b := false) (by kernel_rfl) rfl ?_
   refine wp_skip ?_
   refine wp_seq ?_
   refine region_rule ?_
   refine ops_rule (C := []) [] [] 5 [] 1 (fun φ15 => [(4, .pointer (some ⟨(φ15 0), 0, none⟩)), (25, .pointer (some ⟨(φ15 0), 0, none⟩)), (24, .agg #[.int .i64 2, .pointer (some ⟨kl, 0, none⟩), .pointer (some ⟨kr, 0, none⟩)]), (23, .pointer (some ⟨kr, 0, none⟩)), (22, .pointer (some ⟨kl, 0, none⟩))]) (fun φ15 => [((φ15 0), .cells #[.int .i64 2, .pointer (some ⟨kl, 0, none⟩), .pointer (some ⟨kr, 0, none⟩)] 84)]) (fun φ15 => []) s trivial (fun φ15 => by kernel_rfl) ?_
   intro φ15 w15 s
   refine ops_done (by kernel_rfl) ?_
   refine wp_ret ?_
   refine ret_rule (C := []) [((φ15 0), .cells #[.int .i64 2, .pointer (some ⟨kl, 0, none⟩), .pointer (some ⟨kr, 0, none⟩)] 84)] [] (.pointer (some ⟨(φ15 0), 0, none⟩)) [] [] s trivial (by kernel_rfl) ?_
   obtain ⟨I16, le16, hk16, s⟩ := s.freezeAt 0 (φ15 0) (.cells #[.int .i64 2, .pointer (some ⟨kl, 0, none⟩), .pointer (some ⟨kr, 0, none⟩)] 84) [] (by kernel_rfl) (by kernel_rfl)
   replace hl := RT.mono le16 hl
   replace hr := RT.mono le16 hr
   exact ⟨_, _, _, rfl, s, ⟨_, rfl, by rw [mk_apart (of_decide_eq_false hc4)]; exact ⟨_, _, hk16, hl, hr⟩⟩⟩

end Go.Proofs.Ytgmigcmhnmmdkaa.Ev

/- The document's events; to the program's own. -/
set_option linter.all false
set_option maxRecDepth 100000
namespace Go.Proofs.Ytgmigcmhnmmdkaa.Ev
open Go.RowKit Go.Sep

def T.nf : T → Prop
  | .node l r => l.nf ∧ r.nf ∧ T.mk l r = .node l r
  | _ => True
theorem T.nf_mk {l r : T} (hl : l.nf) (hr : r.nf) : (T.mk l r).nf := by
  have hn : ∀ {a b : T}, T.mk a b = .node a b → a.nf → b.nf → (T.mk a b).nf := fun {a b} h ha hb => by rw [h]; exact ⟨ha, hb, h⟩
  cases l with
  | zero => cases r with
    | zero => trivial
    | one => exact hn rfl hl hr
    | node _ _ => exact hn rfl hl hr
  | one => cases r with
    | zero => exact hn rfl hl hr
    | one => trivial
    | node _ _ => exact hn rfl hl hr
  | node _ _ => exact hn rfl hl hr
def E.nf : E → Prop
  | .node n l r => l.nf ∧ r.nf ∧ E.mk n l r = .node n l r
  | _ => True
def E.minE : E → Nat
  | .leaf n => n
  | .node n l r => n + min l.minE r.minE
theorem E.minE_le : ∀ e : E, e.minE ≤ e.top
  | .leaf n => Nat.le_refl n
  | .node n l r => by
    have := E.minE_le l
    have := E.minE_le r
    show n + min l.minE r.minE ≤ n + max l.top r.top
    omega
theorem E.mk_iff {n : Nat} {l r : E} : E.mk n l r = .node n l r ↔ ¬ (l.isLeaf = true ∧ r.isLeaf = true ∧ l.base = r.base) ∧ min l.base r.base = 0 := by
  unfold E.mk
  constructor
  · intro h
    split at h
    · cases h
    · rename_i hc
      refine ⟨hc, ?_⟩
      have : n + min l.base r.base = n := congrArg E.base h
      omega
  · rintro ⟨hc, hm⟩
    have hdn : ∀ e : E, E.dn 0 e = e := fun e => by cases e <;> rfl
    rw [if_neg hc, hm, hdn, hdn]; rfl
theorem E.min_base : ∀ {e : E}, e.nf → e.minE = e.base
  | .leaf n, _ => rfl
  | .node n l r, ⟨hl, hr, h⟩ => by
    have := (E.mk_iff.1 h).2
    show n + min l.minE r.minE = n
    rw [E.min_base hl, E.min_base hr]; omega
theorem E.dn_nf {m : Nat} {e : E} (h : e.nf) : (E.dn m e).nf := by
  cases e with
  | leaf n => trivial
  | node n l r => exact ⟨h.1, h.2.1, E.mk_iff.2 (E.mk_iff.1 h.2.2)⟩
theorem E.dn_base (m : Nat) (e : E) : (E.dn m e).base = e.base - m := by cases e <;> rfl
theorem E.dn_leaf (m : Nat) (e : E) : (E.dn m e).isLeaf = e.isLeaf := by cases e <;> rfl
theorem E.nf_mk {n : Nat} {l r : E} (hl : l.nf) (hr : r.nf) : (E.mk n l r).nf := by
  have e : E.mk n l r = if l.isLeaf = true ∧ r.isLeaf = true ∧ l.base = r.base then .leaf (n + l.base) else .node (n + min l.base r.base) (E.dn (min l.base r.base) l) (E.dn (min l.base r.base) r) := rfl
  rw [e]
  split
  · trivial
  · rename_i hc
    refine ⟨E.dn_nf hl, E.dn_nf hr, E.mk_iff.2 ⟨?_, ?_⟩⟩
    · rintro ⟨h1, h2, h3⟩
      rw [E.dn_leaf] at h1 h2
      rw [E.dn_base, E.dn_base] at h3
      exact hc ⟨h1, h2, by omega⟩
    · rw [E.dn_base, E.dn_base]; omega

set_option maxHeartbeats 2000000 in
theorem own_step {I : IM} {t : T} {k : Nat} (h : RT I t k) (hnf : t.nf) (hd : t.depth ≤ 16) (ih : ∀ l r, t = .node l r → (∀ {J : IM} {k : Nat}, RT J l k → Fun Try.prog 35 #[.pointer (some ⟨k, 0, none⟩)] J (fun v J => ∃ b p, v = idv b p ∧ TRep J l b p)) ∧ (∀ {J : IM} {k : Nat}, RT J r k → Fun Try.prog 35 #[.pointer (some ⟨k, 0, none⟩)] J (fun v J => ∃ b p, v = idv b p ∧ TRep J r b p))) : Fun Try.prog 35 #[.pointer (some ⟨k, 0, none⟩)] I (fun v J => ∃ b p, v = idv b p ∧ TRep J t b p) := by
 cases t with
 | zero =>
  have hz : RT _ T.zero k := h
  refine enter_rule 30 [(0, .pointer (some ⟨k, 0, none⟩))] Try.func35 rfl (by kernel_rfl) ?_
  intro w s
  refine wp_seq ?_
  refine region_rule ?_
  refine ops_rule (C := []) [] [] 1 [] 1 (fun φ1 => [(2, .pointer (some ⟨(φ1 0), 0, none⟩))]) (fun φ1 => [((φ1 0), .cells #[.bool false, .pointer none] 26)]) (fun φ1 => []) s trivial (fun φ1 => by kernel_rfl) ?_
  intro φ1 w1 s
  refine ops_done (by kernel_rfl) ?_
  refine wp_seq ?_
  refine wp_seq ?_
  refine region_rule ?_
  refine ops_rule (C := [(k, .cells #[.int .i64 0, .pointer none, .pointer none] 84)]) [((φ1 0), .cells #[.bool false, .pointer none] 26)] [] 4 [.c 0] 0 (fun φ2 => [(8, .int .i64 0), (7, .pointer (some ⟨k, 0, none⟩)), (6, .pointer (some ⟨k, 0, none⟩)), (5, .pointer (some ⟨k, 0, none⟩))]) (fun φ2 => [((φ1 0), .cells #[.bool false, .pointer none] 26)]) (fun φ2 => [k]) s ⟨h, trivial⟩ (fun φ2 => by kernel_rfl) ?_
  intro φ2 w2 s
  refine ops_done (by kernel_rfl) ?_
  refine wp_block ?_
  refine wp_seq ?_
  refine region_rule ?_
  refine ops_rule (C := []) [((φ1 0), .cells #[.bool false, .pointer none] 26)] [] 2 [] 0 (fun φ3 => [(9, .bool true), (10, .bool true)]) (fun φ3 => [((φ1 0), .cells #[.bool false, .pointer none] 26)]) (fun φ3 => []) s trivial (fun φ3 => by kernel_rfl) ?_
  intro φ3 w3 s
  refine ops_done (by kernel_rfl) ?_
  refine cond_true_rule (b := true) (by kernel_rfl) rfl ?_
  refine wp_seq ?_
  refine region_rule ?_
  refine call_rule (some 11) s (tzero_c) (by kernel_rfl) ?_
  intro v4 I4 w4 le4 h4 s
  replace hz := RT.mono le4 hz
  replace h := le4 _ _ h
  obtain rfl := h4
  refine ops_rule (C := []) [((φ1 0), .cells #[.bool false, .pointer none] 26)] [] 1 [.o 0, .o 0] 0 (fun φ5 => []) (fun φ5 => [((φ1 0), .cells #[.bool false, .pointer none] 26)]) (fun φ5 => [(φ1 0), (φ1 0)]) s trivial (fun φ5 => by kernel_rfl) ?_
  intro φ5 w5 s
  refine ops_done (by kernel_rfl) ?_
  refine wp_ret ?_
  refine ret_rule (C := []) [((φ1 0), .cells #[.bool false, .pointer none] 26)] [] (.agg #[.bool false, .pointer none]) [.o 0, .o 0] [(φ1 0), (φ1 0)] s trivial (by kernel_rfl) ?_
  exact ⟨_, _, _, rfl, s, ⟨_, _, rfl, rfl, rfl⟩⟩
 | one =>
  have hz : RT _ T.one k := h
  refine enter_rule 30 [(0, .pointer (some ⟨k, 0, none⟩))] Try.func35 rfl (by kernel_rfl) ?_
  intro w s
  refine wp_seq ?_
  refine region_rule ?_
  refine ops_rule (C := []) [] [] 1 [] 1 (fun φ1 => [(2, .pointer (some ⟨(φ1 0), 0, none⟩))]) (fun φ1 => [((φ1 0), .cells #[.bool false, .pointer none] 26)]) (fun φ1 => []) s trivial (fun φ1 => by kernel_rfl) ?_
  intro φ1 w1 s
  refine ops_done (by kernel_rfl) ?_
  refine wp_seq ?_
  refine wp_seq ?_
  refine region_rule ?_
  refine ops_rule (C := [(k, .cells #[.int .i64 1, .pointer none, .pointer none] 84)]) [((φ1 0), .cells #[.bool false, .pointer none] 26)] [] 4 [.c 0] 0 (fun φ2 => [(8, .int .i64 1), (7, .pointer (some ⟨k, 0, none⟩)), (6, .pointer (some ⟨k, 0, none⟩)), (5, .pointer (some ⟨k, 0, none⟩))]) (fun φ2 => [((φ1 0), .cells #[.bool false, .pointer none] 26)]) (fun φ2 => [k]) s ⟨h, trivial⟩ (fun φ2 => by kernel_rfl) ?_
  intro φ2 w2 s
  refine ops_done (by kernel_rfl) ?_
  refine wp_block ?_
  refine wp_seq ?_
  refine region_rule ?_
  refine ops_rule (C := []) [((φ1 0), .cells #[.bool false, .pointer none] 26)] [] 2 [] 0 (fun φ3 => [(9, .bool false), (10, .bool false)]) (fun φ3 => [((φ1 0), .cells #[.bool false, .pointer none] 26)]) (fun φ3 => []) s trivial (fun φ3 => by kernel_rfl) ?_
  intro φ3 w3 s
  refine ops_done (by kernel_rfl) ?_
  refine cond_false_rule (b := false) (by kernel_rfl) rfl ?_
  refine wp_seq ?_
  refine region_rule ?_
  refine ops_rule (C := []) [((φ1 0), .cells #[.bool false, .pointer none] 26)] [] 2 [] 0 (fun φ4 => [(12, .bool true), (13, .bool true)]) (fun φ4 => [((φ1 0), .cells #[.bool false, .pointer none] 26)]) (fun φ4 => []) s trivial (fun φ4 => by kernel_rfl) ?_
  intro φ4 w4 s
  refine ops_done (by kernel_rfl) ?_
  refine cond_true_rule (b := true) (by kernel_rfl) rfl ?_
  refine wp_seq ?_
  refine region_rule ?_
  refine call_rule (some 14) s (tone_c) (by kernel_rfl) ?_
  intro v5 I5 w5 le5 h5 s
  replace h := le5 _ _ h
  obtain rfl := h5
  refine ops_rule (C := []) [((φ1 0), .cells #[.bool false, .pointer none] 26)] [] 1 [.o 0, .o 0] 0 (fun φ6 => []) (fun φ6 => [((φ1 0), .cells #[.bool true, .pointer none] 26)]) (fun φ6 => [(φ1 0), (φ1 0)]) s trivial (fun φ6 => by kernel_rfl) ?_
  intro φ6 w6 s
  refine ops_done (by kernel_rfl) ?_
  refine wp_ret ?_
  refine ret_rule (C := []) [((φ1 0), .cells #[.bool true, .pointer none] 26)] [] (.agg #[.bool true, .pointer none]) [.o 0, .o 0] [(φ1 0), (φ1 0)] s trivial (by kernel_rfl) ?_
  exact ⟨_, _, _, rfl, s, ⟨_, _, rfl, rfl, rfl⟩⟩
 | node l r =>
  obtain ⟨kl, kr, hk, hl, hr⟩ := h
  obtain ⟨ihl, ihr⟩ := ih l r rfl
  clear ih
  have hd1 : 1 + max l.depth r.depth ≤ 16 := hd
  refine enter_rule 30 [(0, .pointer (some ⟨k, 0, none⟩))] Try.func35 rfl (by kernel_rfl) ?_
  intro w s
  refine wp_seq ?_
  refine region_rule ?_
  refine ops_rule (C := []) [] [] 1 [] 1 (fun φ1 => [(2, .pointer (some ⟨(φ1 0), 0, none⟩))]) (fun φ1 => [((φ1 0), .cells #[.bool false, .pointer none] 26)]) (fun φ1 => []) s trivial (fun φ1 => by kernel_rfl) ?_
  intro φ1 w1 s
  refine ops_done (by kernel_rfl) ?_
  refine wp_seq ?_
  refine wp_seq ?_
  refine region_rule ?_
  refine ops_rule (C := [(k, .cells #[.int .i64 2, .pointer (some ⟨kl, 0, none⟩), .pointer (some ⟨kr, 0, none⟩)] 84)]) [((φ1 0), .cells #[.bool false, .pointer none] 26)] [] 4 [.c 0] 0 (fun φ2 => [(8, .int .i64 2), (7, .pointer (some ⟨k, 0, none⟩)), (6, .pointer (some ⟨k, 0, none⟩)), (5, .pointer (some ⟨k, 0, none⟩))]) (fun φ2 => [((φ1 0), .cells #[.bool false, .pointer none] 26)]) (fun φ2 => [k]) s ⟨hk, trivial⟩ (fun φ2 => by kernel_rfl) ?_
  intro φ2 w2 s
  refine ops_done (by kernel_rfl) ?_
  refine wp_block ?_
  refine wp_seq ?_
  refine region_rule ?_
  refine ops_rule (C := []) [((φ1 0), .cells #[.bool false, .pointer none] 26)] [] 2 [] 0 (fun φ3 => [(9, .bool false), (10, .bool false)]) (fun φ3 => [((φ1 0), .cells #[.bool false, .pointer none] 26)]) (fun φ3 => []) s trivial (fun φ3 => by kernel_rfl) ?_
  intro φ3 w3 s
  refine ops_done (by kernel_rfl) ?_
  refine cond_false_rule (b := false) (by kernel_rfl) rfl ?_
  refine wp_seq ?_
  refine region_rule ?_
  refine ops_rule (C := []) [((φ1 0), .cells #[.bool false, .pointer none] 26)] [] 2 [] 0 (fun φ4 => [(12, .bool false), (13, .bool false)]) (fun φ4 => [((φ1 0), .cells #[.bool false, .pointer none] 26)]) (fun φ4 => []) s trivial (fun φ4 => by kernel_rfl) ?_
  intro φ4 w4 s
  refine ops_done (by kernel_rfl) ?_
  refine cond_false_rule (b := false) (by kernel_rfl) rfl ?_
  refine wp_skip ?_
  refine wp_seq ?_
  refine draw_rule (C := [(k, .cells #[.int .i64 2, .pointer (some ⟨kl, 0, none⟩), .pointer (some ⟨kr, 0, none⟩)] 84)]) ⟨(fun φ5 xs5 => [.look 0 [] [], .look 0 [] [], .look 0 [] [], .look 0 [.c 0] [k], .call 35 #[.pointer (some ⟨kl, 0, none⟩)], .look 0 [] [], .look 0 [] [], .look 0 [] [], .look 0 [.c 0] [k], .call 35 #[.pointer (some ⟨kr, 0, none⟩)], .call 72 #[.agg #[.bool ((xs5 4).b 0), .pointer ((xs5 4).p 0)], .agg #[.bool ((xs5 9).b 0), .pointer ((xs5 9).p 0)]], .look 0 [] [], .look 0 [] [], .look 0 [] [], .new, .store 0 [.o 1, .o 1] [(φ5 14), (φ5 14)], .look 1 [] []]), (fun φ5 xs5 => [.pointer (some ⟨k, 0, none⟩), .pointer (some ⟨k, 0, none⟩), .pointer (some ⟨k, 1, none⟩), .pointer (some ⟨kl, 0, none⟩), .agg #[.bool ((xs5 4).b 0), .pointer ((xs5 4).p 0)], .pointer (some ⟨k, 0, none⟩), .pointer (some ⟨k, 0, none⟩), .pointer (some ⟨k, 2, none⟩), .pointer (some ⟨kr, 0, none⟩), .agg #[.bool ((xs5 9).b 0), .pointer ((xs5 9).p 0)], .tuple #[.agg #[.bool ((xs5 10).b 0), .pointer ((xs5 10).p 0)], .int .i64 0], .tuple #[.agg #[.bool ((xs5 10).b 0), .pointer ((xs5 10).p 0)], .int .i64 0], .agg #[.bool ((xs5 10).b 0), .pointer ((xs5 10).p 0)], .int .i64 0, .pointer (some ⟨(φ5 14), 0, none⟩), undef, .int .i64 0]), (fun φ5 xs5 => [[((φ1 0), .cells #[.bool false, .pointer none] 26)], [((φ1 0), .cells #[.bool false, .pointer none] 26)]]), (fun φ5 xs5 => [[default, default, default, default, default, default, default, default, default, default, default, default, default, default, .cells #[.bool false, .pointer none] 26, default, default], [default, default, default, default, default, default, default, default, default, default, default, default, default, default, .cells #[.bool ((xs5 10).b 0), .pointer ((xs5 10).p 0)] 26, default, default]]), [15], [1, 1, 1, 1, 3, 1, 1, 1, 1, 3, 3, 1, 1, 1, 2, 4, 1]⟩ (fun j => ([MP.any, MP.any, MP.any, MP.any, ⟨fun x J => TRep J l (x.b 0) (x.p 0), fun le h => TRep.mono le h⟩, MP.any, MP.any, MP.any, MP.any, ⟨fun x J => TRep J r (x.b 0) (x.p 0), fun le h => TRep.mono le h⟩, ⟨fun x J => TRep J (T.mk l r) (x.b 0) (x.p 0), fun le h => TRep.mono le h⟩, MP.any, MP.any, MP.any, MP.any, MP.any, MP.any] : List MP).getD j MP.any) [4, 9, 10] [] [] (fun φ5 xs5 => [[none, none, none, none, none, none, none, none, none, none, none, none, none, none, none, none, none]]) (fun φ5 xs5 => [(16, .pointer (some ⟨k, 0, none⟩)), (17, .pointer (some ⟨k, 0, none⟩)), (18, .pointer (some ⟨k, 1, none⟩)), (19, .pointer (some ⟨kl, 0, none⟩)), (20, .agg #[.bool ((xs5 4).b 0), .pointer ((xs5 4).p 0)]), (21, .pointer (some ⟨k, 0, none⟩)), (22, .pointer (some ⟨k, 0, none⟩)), (23, .pointer (some ⟨k, 2, none⟩)), (24, .pointer (some ⟨kr, 0, none⟩)), (25, .agg #[.bool ((xs5 9).b 0), .pointer ((xs5 9).p 0)]), (26, .tuple #[.agg #[.bool ((xs5 10).b 0), .pointer ((xs5 10).p 0)], .int .i64 0]), (15, .tuple #[.agg #[.bool ((xs5 10).b 0), .pointer ((xs5 10).p 0)], .int .i64 0]), (27, .agg #[.bool ((xs5 10).b 0), .pointer ((xs5 10).p 0)]), (28, .int .i64 0), (3, .pointer (some ⟨(φ5 14), 0, none⟩)), (4, .int .i64 0)]) (fun φ5 xs5 => [((φ1 0), .cells #[.bool false, .pointer none] 26), ((φ5 14), .cells #[.bool ((xs5 10).b 0), .pointer ((xs5 10).p 0)] 26)]) s ⟨hk, trivial⟩ (by kernel_rfl) (by kernel_rfl) (fun _ _ => by kernel_rfl) (fun _ _ => by kernel_rfl) ⟨fun _ _ => by kernel_rfl, fun _ _ => by kernel_rfl, fun _ _ => by kernel_rfl, fun _ _ => by kernel_rfl⟩ (fun _ _ _ => by kernel_rfl) (fun _ _ => by kernel_rfl) (fun _ _ => by kernel_rfl) (fun _ _ => by kernel_rfl) (fun _ _ => by kernel_rfl) (fun _ _ => by kernel_rfl) trivial trivial (by kernel_rfl) ⟨?c5_4, ?c5_9, ?c5_10, trivial⟩ ?k5
  case c5_4 =>
   refine kcast (A := ∀ (φ5 : Nat → Nat) (xs5 : Xs) (J4_5 : IM), I.Le J4_5 → Fun Try.prog 35 #[.pointer (some ⟨kl, 0, none⟩)] J4_5 (fun v J' => ∃ x : UX, v = .agg #[.bool (x.b 0), .pointer (x.p 0)] ∧ (TRep J' l (x.b 0) (x.p 0)))) (by kernel_rfl) ?_
   intro φ5 xs5 J4_5 leJ
   have hl := RT.mono leJ hl
   exact Fun.mono (ihl hl) (fun v J' _ ⟨y0, y1, hv, g0⟩ => ⟨{ UX.d with b := fun j => y0, p := fun j => y1 }, hv, g0⟩)
  case c5_9 =>
   refine kcast (A := ∀ (φ5 : Nat → Nat) (xs5 : Xs) (J9_5 : IM), I.Le J9_5 → (TRep J9_5 l ((xs5 4).b 0) ((xs5 4).p 0)) → Fun Try.prog 35 #[.pointer (some ⟨kr, 0, none⟩)] J9_5 (fun v J' => ∃ x : UX, v = .agg #[.bool (x.b 0), .pointer (x.p 0)] ∧ (TRep J' r (x.b 0) (x.p 0)))) (by kernel_rfl) ?_
   intro φ5 xs5 J9_5 leJ
   rintro h5_4_0
   have hr := RT.mono leJ hr
   exact Fun.mono (ihr hr) (fun v J' _ ⟨y0, y1, hv, g0⟩ => ⟨{ UX.d with b := fun j => y0, p := fun j => y1 }, hv, g0⟩)
  case c5_10 =>
   refine kcast (A := ∀ (φ5 : Nat → Nat) (xs5 : Xs) (J10_5 : IM), I.Le J10_5 → (TRep J10_5 l ((xs5 4).b 0) ((xs5 4).p 0)) → (TRep J10_5 r ((xs5 9).b 0) ((xs5 9).p 0)) → Fun Try.prog 72 #[.agg #[.bool ((xs5 4).b 0), .pointer ((xs5 4).p 0)], .agg #[.bool ((xs5 9).b 0), .pointer ((xs5 9).p 0)]] J10_5 (fun v J' => ∃ x : UX, v = .tuple #[.agg #[.bool (x.b 0), .pointer (x.p 0)], .int .i64 0] ∧ (TRep J' (T.mk l r) (x.b 0) (x.p 0)))) (by kernel_rfl) ?_
   intro φ5 xs5 J10_5 leJ
   rintro h5_4_0 h5_9_0
   exact Fun.mono (pairOk_c h5_4_0 h5_9_0 (by first | omega | (rw [hnf.2.2]; exact hd)) (by first | omega | (rw [hnf.2.2]; exact hd)) (by first | omega | (rw [hnf.2.2]; exact hd))) (fun v J' _ ⟨y0, y1, hv, g0⟩ => ⟨{ UX.d with b := fun j => y0, p := fun j => y1 }, hv, g0⟩)
  case k5 =>
   rintro φ5 xs5 I5 w5 le5 s h5_4_0 h5_9_0 h5_10_0
   refine wp_seq ?_
   refine region_rule ?_
   refine ops_rule (C := []) [((φ1 0), .cells #[.bool false, .pointer none] 26), ((φ5 14), .cells #[.bool ((xs5 10).b 0), .pointer ((xs5 10).p 0)] 26)] [] 2 [.o 1, .o 1, .o 0, .o 0] 0 (fun φ6 => [(29, .agg #[.bool ((xs5 10).b 0), .pointer ((xs5 10).p 0)])]) (fun φ6 => [((φ1 0), .cells #[.bool ((xs5 10).b 0), .pointer ((xs5 10).p 0)] 26), ((φ5 14), .cells #[.bool ((xs5 10).b 0), .pointer ((xs5 10).p 0)] 26)]) (fun φ6 => [(φ5 14), (φ5 14), (φ1 0), (φ1 0)]) s trivial (fun φ6 => by kernel_rfl) ?_
   intro φ6 w6 s
   refine ops_done (by kernel_rfl) ?_
   refine wp_ret ?_
   refine ret_rule (C := []) [((φ1 0), .cells #[.bool ((xs5 10).b 0), .pointer ((xs5 10).p 0)] 26), ((φ5 14), .cells #[.bool ((xs5 10).b 0), .pointer ((xs5 10).p 0)] 26)] [] (.agg #[.bool ((xs5 10).b 0), .pointer ((xs5 10).p 0)]) [.o 0, .o 0] [(φ1 0), (φ1 0)] s trivial (by kernel_rfl) ?_
   exact ⟨_, _, _, rfl, s, (by have h9 := h5_10_0; rw [hnf.2.2] at h9; exact ⟨_, _, rfl, h9⟩)⟩

theorem own_c : ∀ (t : T) {I : IM} {k : Nat}, t.nf → t.depth ≤ 16 → RT I t k → Fun Try.prog 35 #[.pointer (some ⟨k, 0, none⟩)] I (fun v J => ∃ b p, v = idv b p ∧ TRep J t b p)
  | .zero, _, _, hn, hd, h => own_step h hn hd (fun l r h => by cases h)
  | .one, _, _, hn, hd, h => own_step h hn hd (fun l r h => by cases h)
  | .node l r, _, _, hn, hd, h => own_step h hn hd (fun l' r' e => by
      cases e
      have hd1 : 1 + max l.depth r.depth ≤ 16 := hd
      exact ⟨fun {J} {k} a => own_c l hn.1 (by omega) a, fun {J} {k} a => own_c r hn.2.1 (by omega) a⟩)

end Go.Proofs.Ytgmigcmhnmmdkaa.Ev

/- The document's events: Leaf, Min; to the program's own; like. -/
set_option linter.all false
set_option maxRecDepth 100000
namespace Go.Proofs.Ytgmigcmhnmmdkaa.Ev
open Go.RowKit Go.Sep

set_option maxHeartbeats 400000 in
theorem rleaf_c {I : IM} {n : Nat} : Fun Try.prog 69 #[.int .u64 ((n : Nat) : Int)] I (fun v J => ∃ k, v = .pointer (some ⟨k, 0, none⟩) ∧ RE J (E.leaf n) k) := by
 refine enter_rule 6 [(0, .int .u64 ((n : Nat) : Int))] Try.func69 rfl (by kernel_rfl) ?_
 intro w s
 refine wp_seq ?_
 refine region_rule ?_
 refine ops_rule (C := []) [] [] 1 [] 0 (fun φ1 => [(2, .pointer none)]) (fun φ1 => []) (fun φ1 => []) s trivial (fun φ1 => by kernel_rfl) ?_
 intro φ1 w1 s
 refine ops_done (by kernel_rfl) ?_
 refine wp_seq ?_
 refine region_rule ?_
 refine ops_rule (C := []) [] [] 4 [] 1 (fun φ2 => [(2, .pointer (some ⟨(φ2 0), 0, none⟩)), (5, .pointer (some ⟨(φ2 0), 0, none⟩)), (4, .agg #[.int .u64 ((n : Nat) : Int), .pointer none, .pointer none]), (3, .int .u64 ((n : Nat) : Int))]) (fun φ2 => [((φ2 0), .cells #[.int .u64 ((n : Nat) : Int), .pointer none, .pointer none] 87)]) (fun φ2 => []) s trivial (fun φ2 => by kernel_rfl) ?_
 intro φ2 w2 s
 refine ops_done (by kernel_rfl) ?_
 refine wp_ret ?_
 refine ret_rule (C := []) [((φ2 0), .cells #[.int .u64 ((n : Nat) : Int), .pointer none, .pointer none] 87)] [] (.pointer (some ⟨(φ2 0), 0, none⟩)) [] [] s trivial (by kernel_rfl) ?_
 obtain ⟨I3, le3, hk3, s⟩ := s.freezeAt 0 (φ2 0) (.cells #[.int .u64 ((n : Nat) : Int), .pointer none, .pointer none] 87) [] (by kernel_rfl) (by kernel_rfl)
 exact ⟨_, _, _, rfl, s, ⟨_, rfl, hk3⟩⟩

set_option maxHeartbeats 2000000 in
theorem rmin_step {I : IM} {e : E} {k : Nat} (h : RE I e k) (ht : e.top < 18446744073709551616) (ih : ∀ n l r, e = .node n l r → (∀ {J : IM} {k : Nat}, RE J l k → l.top < 18446744073709551616 → Fun Try.prog 89 #[.pointer (some ⟨k, 0, none⟩)] J (fun v J => v = .int .u64 ((l.minE : Nat) : Int))) ∧ (∀ {J : IM} {k : Nat}, RE J r k → r.top < 18446744073709551616 → Fun Try.prog 89 #[.pointer (some ⟨k, 0, none⟩)] J (fun v J => v = .int .u64 ((r.minE : Nat) : Int)))) : Fun Try.prog 89 #[.pointer (some ⟨k, 0, none⟩)] I (fun v J => v = .int .u64 ((e.minE : Nat) : Int)) := by
 cases e with
 | leaf n =>
  have h0 : RE _ (E.leaf n) k := h
  refine enter_rule 39 [(0, .pointer (some ⟨k, 0, none⟩))] Try.func89 rfl (by kernel_rfl) ?_
  intro w s
  refine wp_seq ?_
  refine region_rule ?_
  refine ops_rule (C := []) [] [] 1 [] 0 (fun φ1 => [(2, .int .u64 0)]) (fun φ1 => []) (fun φ1 => []) s trivial (fun φ1 => by kernel_rfl) ?_
  intro φ1 w1 s
  refine ops_done (by kernel_rfl) ?_
  refine wp_seq ?_
  refine wp_seq ?_
  refine region_rule ?_
  refine ops_rule (C := [(k, .cells #[.int .u64 ((n : Nat) : Int), .pointer none, .pointer none] 87)]) [] [] 5 [.c 0] 0 (fun φ2 => [(9, .bool true), (8, .pointer none), (7, .pointer (some ⟨k, 1, none⟩)), (6, .pointer (some ⟨k, 0, none⟩)), (5, .pointer (some ⟨k, 0, none⟩))]) (fun φ2 => []) (fun φ2 => [k]) s ⟨h, trivial⟩ (fun φ2 => by kernel_rfl) ?_
  intro φ2 w2 s
  refine ops_done (by kernel_rfl) ?_
  refine cond_true_rule (b := true) (by kernel_rfl) rfl ?_
  refine wp_seq ?_
  refine region_rule ?_
  refine ops_rule (C := [(k, .cells #[.int .u64 ((n : Nat) : Int), .pointer none, .pointer none] 87)]) [] [] 5 [.c 0] 0 (fun φ3 => [(2, .int .u64 ((n : Nat) : Int)), (13, .int .u64 ((n : Nat) : Int)), (12, .pointer (some ⟨k, 0, none⟩)), (11, .pointer (some ⟨k, 0, none⟩)), (10, .pointer (some ⟨k, 0, none⟩))]) (fun φ3 => []) (fun φ3 => [k]) s ⟨h, trivial⟩ (fun φ3 => by kernel_rfl) ?_
  intro φ3 w3 s
  refine ops_done (by kernel_rfl) ?_
  refine wp_ret ?_
  refine ret_rule (C := []) [] [] (.int .u64 ((n : Nat) : Int)) [] [] s trivial (by kernel_rfl) ?_
  exact ⟨_, _, _, rfl, s, rfl⟩
 | node n l r =>
  have h0 : RE _ (E.node n l r) k := h
  obtain ⟨kl, kr, hk, hl, hr⟩ := h
  obtain ⟨ihl, ihr⟩ := ih n l r rfl
  clear ih
  have ht1 : n + max l.top r.top < 18446744073709551616 := ht
  have hm1 := E.minE_le l
  have hm2 := E.minE_le r
  refine enter_rule 39 [(0, .pointer (some ⟨k, 0, none⟩))] Try.func89 rfl (by kernel_rfl) ?_
  intro w s
  refine wp_seq ?_
  refine region_rule ?_
  refine ops_rule (C := []) [] [] 1 [] 0 (fun φ1 => [(2, .int .u64 0)]) (fun φ1 => []) (fun φ1 => []) s trivial (fun φ1 => by kernel_rfl) ?_
  intro φ1 w1 s
  refine ops_done (by kernel_rfl) ?_
  refine wp_seq ?_
  refine wp_seq ?_
  refine region_rule ?_
  refine ops_rule (C := [(k, .cells #[.int .u64 ((n : Nat) : Int), .pointer (some ⟨kl, 0, none⟩), .pointer (some ⟨kr, 0, none⟩)] 87)]) [] [] 5 [.c 0] 0 (fun φ2 => [(9, .bool false), (8, .pointer (some ⟨kl, 0, none⟩)), (7, .pointer (some ⟨k, 1, none⟩)), (6, .pointer (some ⟨k, 0, none⟩)), (5, .pointer (some ⟨k, 0, none⟩))]) (fun φ2 => []) (fun φ2 => [k]) s ⟨hk, trivial⟩ (fun φ2 => by kernel_rfl) ?_
  intro φ2 w2 s
  refine ops_done (by kernel_rfl) ?_
  refine cond_false_rule (b := false) (by kernel_rfl) rfl ?_
  refine wp_skip ?_
  refine wp_seq ?_
  refine draw_rule (C := [(k, .cells #[.int .u64 ((n : Nat) : Int), .pointer (some ⟨kl, 0, none⟩), .pointer (some ⟨kr, 0, none⟩)] 87)]) ⟨(fun φ3 xs3 => [.look 0 [] [], .look 0 [] [], .look 0 [] [], .look 0 [.c 0] [k], .call 89 #[.pointer (some ⟨kl, 0, none⟩)], .look 0 [] [], .look 0 [] [], .look 0 [] [], .look 0 [.c 0] [k], .call 89 #[.pointer (some ⟨kr, 0, none⟩)], .look 0 [] [], .look 0 [] []]), (fun φ3 xs3 => [.pointer (some ⟨k, 0, none⟩), .pointer (some ⟨k, 0, none⟩), .pointer (some ⟨k, 1, none⟩), .pointer (some ⟨kl, 0, none⟩), .int .u64 ((l.minE : Nat) : Int), .pointer (some ⟨k, 0, none⟩), .pointer (some ⟨k, 0, none⟩), .pointer (some ⟨k, 2, none⟩), .pointer (some ⟨kr, 0, none⟩), .int .u64 ((r.minE : Nat) : Int), .int .u64 ((l.minE : Nat) : Int), .int .u64 ((r.minE : Nat) : Int)]), (fun φ3 xs3 => [[]]), (fun φ3 xs3 => [[default, default, default, default, default, default, default, default, default, default, default, default]]), [], [1, 1, 1, 1, 3, 1, 1, 1, 1, 3, 1, 1]⟩ (fun j => ([MP.any, MP.any, MP.any, MP.any, MP.any, MP.any, MP.any, MP.any, MP.any, MP.any, MP.any, MP.any] : List MP).getD j MP.any) [4, 9] [] [] (fun φ3 xs3 => []) (fun φ3 xs3 => [(14, .pointer (some ⟨k, 0, none⟩)), (15, .pointer (some ⟨k, 0, none⟩)), (16, .pointer (some ⟨k, 1, none⟩)), (17, .pointer (some ⟨kl, 0, none⟩)), (18, .int .u64 ((l.minE : Nat) : Int)), (19, .pointer (some ⟨k, 0, none⟩)), (20, .pointer (some ⟨k, 0, none⟩)), (21, .pointer (some ⟨k, 2, none⟩)), (22, .pointer (some ⟨kr, 0, none⟩)), (23, .int .u64 ((r.minE : Nat) : Int)), (3, .int .u64 ((l.minE : Nat) : Int)), (4, .int .u64 ((r.minE : Nat) : Int))]) (fun φ3 xs3 => []) s ⟨hk, trivial⟩ (by kernel_rfl) (by kernel_rfl) (fun _ _ => by kernel_rfl) (fun _ _ => by kernel_rfl) ⟨fun _ _ => by kernel_rfl, fun _ _ => by kernel_rfl, fun _ _ => by kernel_rfl, fun _ _ => by kernel_rfl⟩ (fun _ _ _ => by kernel_rfl) (fun _ _ => by kernel_rfl) (fun _ _ => by kernel_rfl) (fun _ _ => by kernel_rfl) (fun _ _ => by kernel_rfl) (fun _ _ => by kernel_rfl) trivial trivial (by kernel_rfl) ⟨?c3_4, ?c3_9, trivial⟩ ?k3
  case c3_4 =>
   refine kcast (A := ∀ (φ3 : Nat → Nat) (xs3 : Xs) (J4_3 : IM), I.Le J4_3 → Fun Try.prog 89 #[.pointer (some ⟨kl, 0, none⟩)] J4_3 (fun v J' => ∃ x : UX, v = .int .u64 ((l.minE : Nat) : Int) ∧ (True))) (by kernel_rfl) ?_
   intro φ3 xs3 J4_3 leJ
   have hl := RE.mono leJ hl
   exact Fun.mono (ihl hl (by omega)) (fun v J' _ h => ⟨UX.d, h, trivial⟩)
  case c3_9 =>
   refine kcast (A := ∀ (φ3 : Nat → Nat) (xs3 : Xs) (J9_3 : IM), I.Le J9_3 → (True) → Fun Try.prog 89 #[.pointer (some ⟨kr, 0, none⟩)] J9_3 (fun v J' => ∃ x : UX, v = .int .u64 ((r.minE : Nat) : Int) ∧ (True))) (by kernel_rfl) ?_
   intro φ3 xs3 J9_3 leJ
   rintro _
   have hr := RE.mono leJ hr
   exact Fun.mono (ihr hr (by omega)) (fun v J' _ h => ⟨UX.d, h, trivial⟩)
  case k3 =>
   rintro φ3 xs3 I3 w3 le3 s _ _
   replace hk := le3 _ _ hk
   refine wp_seq ?_
   refine wp_seq ?_
   refine region_rule ?_
   refine ops_rule (C := []) [] [] 3 [] 0 (fun φ4 => [(26, .bool (decide (((l.minE : Nat) : Int) < ((r.minE : Nat) : Int)))), (25, .int .u64 ((r.minE : Nat) : Int)), (24, .int .u64 ((l.minE : Nat) : Int))]) (fun φ4 => []) (fun φ4 => []) s trivial (fun φ4 => by kernel_rfl) ?_
   intro φ4 w4 s
   rw [nat_lss (a := l.minE) (b := r.minE)]
   refine ops_done (by kernel_rfl) ?_
   rcases Bool.eq_false_or_eq_true (decide (l.minE < r.minE)) with hc5 | hc5
   ·
    rw [hc5]
    refine cond_true_rule (b := true) (by kernel_rfl) rfl ?_
    refine wp_seq ?_
    refine region_rule ?_
    refine ops_rule (C := [(k, .cells #[.int .u64 ((n : Nat) : Int), .pointer (some ⟨kl, 0, none⟩), .pointer (some ⟨kr, 0, none⟩)] 87)]) [] [] 7 [.c 0] 0 (fun φ6 => [(2, .int .u64 (IntKind.wrap .u64 (((n : Nat) : Int) + ((l.minE : Nat) : Int)))), (32, .int .u64 (IntKind.wrap .u64 (((n : Nat) : Int) + ((l.minE : Nat) : Int)))), (31, .int .u64 ((l.minE : Nat) : Int)), (30, .int .u64 ((n : Nat) : Int)), (29, .pointer (some ⟨k, 0, none⟩)), (28, .pointer (some ⟨k, 0, none⟩)), (27, .pointer (some ⟨k, 0, none⟩))]) (fun φ6 => []) (fun φ6 => [k]) s ⟨hk, trivial⟩ (fun φ6 => by kernel_rfl) ?_
    intro φ6 w6 s
    rw [nat_addU (a := n) (b := l.minE) (by omega)]
    refine ops_done (by kernel_rfl) ?_
    refine wp_ret ?_
    refine ret_rule (C := []) [] [] (.int .u64 ((n + l.minE : Nat) : Int)) [] [] s trivial (by kernel_rfl) ?_
    exact ⟨_, _, _, rfl, s, (by have hc := of_decide_eq_true hc5; show _ = Value.int .u64 ((n + min l.minE r.minE : Nat) : Int); rw [Nat.min_eq_left (by omega)])⟩
   ·
    rw [hc5]
    refine cond_false_rule (b := false) (by kernel_rfl) rfl ?_
    refine wp_skip ?_
    refine wp_seq ?_
    refine region_rule ?_
    refine ops_rule (C := [(k, .cells #[.int .u64 ((n : Nat) : Int), .pointer (some ⟨kl, 0, none⟩), .pointer (some ⟨kr, 0, none⟩)] 87)]) [] [] 7 [.c 0] 0 (fun φ7 => [(2, .int .u64 (IntKind.wrap .u64 (((n : Nat) : Int) + ((r.minE : Nat) : Int)))), (38, .int .u64 (IntKind.wrap .u64 (((n : Nat) : Int) + ((r.minE : Nat) : Int)))), (37, .int .u64 ((r.minE : Nat) : Int)), (36, .int .u64 ((n : Nat) : Int)), (35, .pointer (some ⟨k, 0, none⟩)), (34, .pointer (some ⟨k, 0, none⟩)), (33, .pointer (some ⟨k, 0, none⟩))]) (fun φ7 => []) (fun φ7 => [k]) s ⟨hk, trivial⟩ (fun φ7 => by kernel_rfl) ?_
    intro φ7 w7 s
    rw [nat_addU (a := n) (b := r.minE) (by omega)]
    refine ops_done (by kernel_rfl) ?_
    refine wp_ret ?_
    refine ret_rule (C := []) [] [] (.int .u64 ((n + r.minE : Nat) : Int)) [] [] s trivial (by kernel_rfl) ?_
    exact ⟨_, _, _, rfl, s, (by have hc := of_decide_eq_false hc5; show _ = Value.int .u64 ((n + min l.minE r.minE : Nat) : Int); rw [Nat.min_eq_right (by omega)])⟩

theorem rmin_c : ∀ (e : E) {I : IM} {k : Nat}, RE I e k → e.top < 18446744073709551616 → Fun Try.prog 89 #[.pointer (some ⟨k, 0, none⟩)] I (fun v _ => v = .int .u64 ((e.minE : Nat) : Int))
  | .leaf n, _, _, h, ht => rmin_step h ht (fun n l r h => by cases h)
  | .node n l r, _, _, h, ht => rmin_step h ht (fun n' l' r' e => by
      cases e
      exact ⟨fun {J} {k} a b => rmin_c l a b, fun {J} {k} a b => rmin_c r a b⟩)

theorem nodeOk9_c {I : IM} {n : Nat} {l r : E} {bl br : Nat} {pl pr : Option Addr} (hm : E.mk n l r = .node n l r) (ht : (E.node n l r).top ≤ 1048576) (hd : (E.node n l r).depth ≤ 16) (hl : ERep I l bl pl) (hr : ERep I r br pr) : Fun Try.prog 74 #[.int .u64 ((n : Nat) : Int), evv bl pl, evv br pr] I (fun v J => ∃ b p, v = .tuple #[evv b p, .int .i64 0] ∧ ERep J (E.node n l r) b p) := by
  have ht1 : n + max l.top r.top ≤ 1048576 := ht
  have hd1 : 1 + max l.depth r.depth ≤ 16 := hd
  have h := nodeR_c (n := n) hl hr (by omega) (by omega) (by omega) (by omega)
  have e : nodeR n l r = (.node n l r, 0) := by
    unfold nodeR
    rw [if_neg (by omega), if_neg (by omega), if_neg (by omega), hm]
  rw [e] at h
  exact h

set_option maxHeartbeats 2000000 in
theorem tree_step {I : IM} {e : E} {k : Nat} (h : RE I e k) (hnf : e.nf) (ht : e.top ≤ 1048576) (hd : e.depth ≤ 16) (ih : ∀ n l r, e = .node n l r → (∀ {J : IM} {k : Nat}, RE J l k → Fun Try.prog 36 #[.pointer (some ⟨k, 0, none⟩)] J (fun v J => ∃ b p, v = evv b p ∧ ERep J l b p)) ∧ (∀ {J : IM} {k : Nat}, RE J r k → Fun Try.prog 36 #[.pointer (some ⟨k, 0, none⟩)] J (fun v J => ∃ b p, v = evv b p ∧ ERep J r b p))) : Fun Try.prog 36 #[.pointer (some ⟨k, 0, none⟩)] I (fun v J => ∃ b p, v = evv b p ∧ ERep J e b p) := by
 cases e with
 | leaf n =>
  have h0 : RE _ (E.leaf n) k := h
  refine enter_rule 40 [(0, .pointer (some ⟨k, 0, none⟩))] Try.func36 rfl (by kernel_rfl) ?_
  intro w s
  refine wp_seq ?_
  refine region_rule ?_
  refine ops_rule (C := []) [] [] 1 [] 1 (fun φ1 => [(2, .pointer (some ⟨(φ1 0), 0, none⟩))]) (fun φ1 => [((φ1 0), .cells #[.int .u64 0, .pointer none] 30)]) (fun φ1 => []) s trivial (fun φ1 => by kernel_rfl) ?_
  intro φ1 w1 s
  refine ops_done (by kernel_rfl) ?_
  refine wp_seq ?_
  refine wp_seq ?_
  refine region_rule ?_
  refine ops_rule (C := [(k, .cells #[.int .u64 ((n : Nat) : Int), .pointer none, .pointer none] 87)]) [((φ1 0), .cells #[.int .u64 0, .pointer none] 30)] [] 5 [.c 0] 0 (fun φ2 => [(11, .bool true), (10, .pointer none), (9, .pointer (some ⟨k, 1, none⟩)), (8, .pointer (some ⟨k, 0, none⟩)), (7, .pointer (some ⟨k, 0, none⟩))]) (fun φ2 => [((φ1 0), .cells #[.int .u64 0, .pointer none] 30)]) (fun φ2 => [k]) s ⟨h, trivial⟩ (fun φ2 => by kernel_rfl) ?_
  intro φ2 w2 s
  refine ops_done (by kernel_rfl) ?_
  refine cond_true_rule (b := true) (by kernel_rfl) rfl ?_
  refine wp_seq ?_
  refine region_rule ?_
  refine ops_rule (C := [(k, .cells #[.int .u64 ((n : Nat) : Int), .pointer none, .pointer none] 87)]) [((φ1 0), .cells #[.int .u64 0, .pointer none] 30)] [] 4 [.c 0] 0 (fun φ3 => [(16, .int .u64 ((n : Nat) : Int)), (15, .pointer (some ⟨k, 0, none⟩)), (14, .pointer (some ⟨k, 0, none⟩)), (13, .pointer (some ⟨k, 0, none⟩))]) (fun φ3 => [((φ1 0), .cells #[.int .u64 0, .pointer none] 30)]) (fun φ3 => [k]) s ⟨h, trivial⟩ (fun φ3 => by kernel_rfl) ?_
  intro φ3 w3 s
  refine call_rule (some 17) s (leafOk_c (n := n) (by exact ht)) (by kernel_rfl) ?_
  intro v4 I4 w4 le4 h4 s
  replace h0 := RE.mono le4 h0
  replace h := le4 _ _ h
  obtain rfl := h4
  refine ops_rule (C := []) [((φ1 0), .cells #[.int .u64 0, .pointer none] 30)] [] 6 [.o 1, .o 1] 1 (fun φ5 => [(4, .int .i64 0), (3, .pointer (some ⟨(φ5 0), 0, none⟩)), (19, .int .i64 0), (18, .agg #[.int .u64 ((n : Nat) : Int), .pointer none]), (12, .tuple #[.agg #[.int .u64 ((n : Nat) : Int), .pointer none], .int .i64 0])]) (fun φ5 => [((φ1 0), .cells #[.int .u64 0, .pointer none] 30), ((φ5 0), .cells #[.int .u64 ((n : Nat) : Int), .pointer none] 30)]) (fun φ5 => [(φ5 0), (φ5 0)]) s trivial (fun φ5 => by kernel_rfl) ?_
  intro φ5 w5 s
  refine ops_done (by kernel_rfl) ?_
  refine wp_seq ?_
  refine region_rule ?_
  refine ops_rule (C := []) [((φ1 0), .cells #[.int .u64 0, .pointer none] 30), ((φ5 0), .cells #[.int .u64 ((n : Nat) : Int), .pointer none] 30)] [] 2 [.o 1, .o 1, .o 0, .o 0] 0 (fun φ6 => [(20, .agg #[.int .u64 ((n : Nat) : Int), .pointer none])]) (fun φ6 => [((φ1 0), .cells #[.int .u64 ((n : Nat) : Int), .pointer none] 30), ((φ5 0), .cells #[.int .u64 ((n : Nat) : Int), .pointer none] 30)]) (fun φ6 => [(φ5 0), (φ5 0), (φ1 0), (φ1 0)]) s trivial (fun φ6 => by kernel_rfl) ?_
  intro φ6 w6 s
  refine ops_done (by kernel_rfl) ?_
  refine wp_ret ?_
  refine ret_rule (C := []) [((φ1 0), .cells #[.int .u64 ((n : Nat) : Int), .pointer none] 30), ((φ5 0), .cells #[.int .u64 ((n : Nat) : Int), .pointer none] 30)] [] (.agg #[.int .u64 ((n : Nat) : Int), .pointer none]) [.o 0, .o 0] [(φ1 0), (φ1 0)] s trivial (by kernel_rfl) ?_
  exact ⟨_, _, _, rfl, s, ⟨_, _, rfl, rfl, rfl⟩⟩
 | node n l r =>
  have h0 : RE _ (E.node n l r) k := h
  obtain ⟨kl, kr, hk, hl, hr⟩ := h
  obtain ⟨ihl, ihr⟩ := ih n l r rfl
  clear ih
  refine enter_rule 40 [(0, .pointer (some ⟨k, 0, none⟩))] Try.func36 rfl (by kernel_rfl) ?_
  intro w s
  refine wp_seq ?_
  refine region_rule ?_
  refine ops_rule (C := []) [] [] 1 [] 1 (fun φ1 => [(2, .pointer (some ⟨(φ1 0), 0, none⟩))]) (fun φ1 => [((φ1 0), .cells #[.int .u64 0, .pointer none] 30)]) (fun φ1 => []) s trivial (fun φ1 => by kernel_rfl) ?_
  intro φ1 w1 s
  refine ops_done (by kernel_rfl) ?_
  refine wp_seq ?_
  refine wp_seq ?_
  refine region_rule ?_
  refine ops_rule (C := [(k, .cells #[.int .u64 ((n : Nat) : Int), .pointer (some ⟨kl, 0, none⟩), .pointer (some ⟨kr, 0, none⟩)] 87)]) [((φ1 0), .cells #[.int .u64 0, .pointer none] 30)] [] 5 [.c 0] 0 (fun φ2 => [(11, .bool false), (10, .pointer (some ⟨kl, 0, none⟩)), (9, .pointer (some ⟨k, 1, none⟩)), (8, .pointer (some ⟨k, 0, none⟩)), (7, .pointer (some ⟨k, 0, none⟩))]) (fun φ2 => [((φ1 0), .cells #[.int .u64 0, .pointer none] 30)]) (fun φ2 => [k]) s ⟨hk, trivial⟩ (fun φ2 => by kernel_rfl) ?_
  intro φ2 w2 s
  refine ops_done (by kernel_rfl) ?_
  refine cond_false_rule (b := false) (by kernel_rfl) rfl ?_
  refine wp_skip ?_
  refine wp_seq ?_
  refine draw_rule (C := [(k, .cells #[.int .u64 ((n : Nat) : Int), .pointer (some ⟨kl, 0, none⟩), .pointer (some ⟨kr, 0, none⟩)] 87)]) ⟨(fun φ3 xs3 => [.look 0 [] [], .look 0 [] [], .look 0 [] [], .look 0 [.c 0] [k], .look 0 [] [], .look 0 [] [], .look 0 [] [], .look 0 [.c 0] [k], .call 36 #[.pointer (some ⟨kl, 0, none⟩)], .look 0 [] [], .look 0 [] [], .look 0 [] [], .look 0 [.c 0] [k], .call 36 #[.pointer (some ⟨kr, 0, none⟩)], .call 74 #[.int .u64 ((n : Nat) : Int), .agg #[.int .u64 (((xs3 8).n 0 : Nat) : Int), .pointer ((xs3 8).p 0)], .agg #[.int .u64 (((xs3 13).n 0 : Nat) : Int), .pointer ((xs3 13).p 0)]], .look 0 [] [], .look 0 [] [], .look 0 [] [], .new, .store 0 [.o 1, .o 1] [(φ3 18), (φ3 18)], .look 1 [] []]), (fun φ3 xs3 => [.pointer (some ⟨k, 0, none⟩), .pointer (some ⟨k, 0, none⟩), .pointer (some ⟨k, 0, none⟩), .int .u64 ((n : Nat) : Int), .pointer (some ⟨k, 0, none⟩), .pointer (some ⟨k, 0, none⟩), .pointer (some ⟨k, 1, none⟩), .pointer (some ⟨kl, 0, none⟩), .agg #[.int .u64 (((xs3 8).n 0 : Nat) : Int), .pointer ((xs3 8).p 0)], .pointer (some ⟨k, 0, none⟩), .pointer (some ⟨k, 0, none⟩), .pointer (some ⟨k, 2, none⟩), .pointer (some ⟨kr, 0, none⟩), .agg #[.int .u64 (((xs3 13).n 0 : Nat) : Int), .pointer ((xs3 13).p 0)], .tuple #[.agg #[.int .u64 (((xs3 14).n 0 : Nat) : Int), .pointer ((xs3 14).p 0)], .int .i64 0], .tuple #[.agg #[.int .u64 (((xs3 14).n 0 : Nat) : Int), .pointer ((xs3 14).p 0)], .int .i64 0], .agg #[.int .u64 (((xs3 14).n 0 : Nat) : Int), .pointer ((xs3 14).p 0)], .int .i64 0, .pointer (some ⟨(φ3 18), 0, none⟩), undef, .int .i64 0]), (fun φ3 xs3 => [[((φ1 0), .cells #[.int .u64 0, .pointer none] 30)], [((φ1 0), .cells #[.int .u64 0, .pointer none] 30)]]), (fun φ3 xs3 => [[default, default, default, default, default, default, default, default, default, default, default, default, default, default, default, default, default, default, .cells #[.int .u64 0, .pointer none] 30, default, default], [default, default, default, default, default, default, default, default, default, default, default, default, default, default, default, default, default, default, .cells #[.int .u64 (((xs3 14).n 0 : Nat) : Int), .pointer ((xs3 14).p 0)] 30, default, default]]), [19], [1, 1, 1, 1, 1, 1, 1, 1, 3, 1, 1, 1, 1, 3, 3, 1, 1, 1, 2, 4, 1]⟩ (fun j => ([MP.any, MP.any, MP.any, MP.any, MP.any, MP.any, MP.any, MP.any, ⟨fun x J => ERep J l (x.n 0) (x.p 0), fun le h => ERep.mono le h⟩, MP.any, MP.any, MP.any, MP.any, ⟨fun x J => ERep J r (x.n 0) (x.p 0), fun le h => ERep.mono le h⟩, ⟨fun x J => ERep J (E.node n l r) (x.n 0) (x.p 0), fun le h => ERep.mono le h⟩, MP.any, MP.any, MP.any, MP.any, MP.any, MP.any] : List MP).getD j MP.any) [8, 13, 14] [] [] (fun φ3 xs3 => [[none, none, none, none, none, none, none, none, none, none, none, none, none, none, none, none, none, none, none, none, none]]) (fun φ3 xs3 => [(22, .pointer (some ⟨k, 0, none⟩)), (23, .pointer (some ⟨k, 0, none⟩)), (24, .pointer (some ⟨k, 0, none⟩)), (25, .int .u64 ((n : Nat) : Int)), (26, .pointer (some ⟨k, 0, none⟩)), (27, .pointer (some ⟨k, 0, none⟩)), (28, .pointer (some ⟨k, 1, none⟩)), (29, .pointer (some ⟨kl, 0, none⟩)), (30, .agg #[.int .u64 (((xs3 8).n 0 : Nat) : Int), .pointer ((xs3 8).p 0)]), (31, .pointer (some ⟨k, 0, none⟩)), (32, .pointer (some ⟨k, 0, none⟩)), (33, .pointer (some ⟨k, 2, none⟩)), (34, .pointer (some ⟨kr, 0, none⟩)), (35, .agg #[.int .u64 (((xs3 13).n 0 : Nat) : Int), .pointer ((xs3 13).p 0)]), (36, .tuple #[.agg #[.int .u64 (((xs3 14).n 0 : Nat) : Int), .pointer ((xs3 14).p 0)], .int .i64 0]), (21, .tuple #[.agg #[.int .u64 (((xs3 14).n 0 : Nat) : Int), .pointer ((xs3 14).p 0)], .int .i64 0]), (37, .agg #[.int .u64 (((xs3 14).n 0 : Nat) : Int), .pointer ((xs3 14).p 0)]), (38, .int .i64 0), (5, .pointer (some ⟨(φ3 18), 0, none⟩)), (6, .int .i64 0)]) (fun φ3 xs3 => [((φ1 0), .cells #[.int .u64 0, .pointer none] 30), ((φ3 18), .cells #[.int .u64 (((xs3 14).n 0 : Nat) : Int), .pointer ((xs3 14).p 0)] 30)]) s ⟨hk, trivial⟩ (by kernel_rfl) (by kernel_rfl) (fun _ _ => by kernel_rfl) (fun _ _ => by kernel_rfl) ⟨fun _ _ => by kernel_rfl, fun _ _ => by kernel_rfl, fun _ _ => by kernel_rfl, fun _ _ => by kernel_rfl⟩ (fun _ _ _ => by kernel_rfl) (fun _ _ => by kernel_rfl) (fun _ _ => by kernel_rfl) (fun _ _ => by kernel_rfl) (fun _ _ => by kernel_rfl) (fun _ _ => by kernel_rfl) trivial trivial (by kernel_rfl) ⟨?c3_8, ?c3_13, ?c3_14, trivial⟩ ?k3
  case c3_8 =>
   refine kcast (A := ∀ (φ3 : Nat → Nat) (xs3 : Xs) (J8_3 : IM), I.Le J8_3 → Fun Try.prog 36 #[.pointer (some ⟨kl, 0, none⟩)] J8_3 (fun v J' => ∃ x : UX, v = .agg #[.int .u64 ((x.n 0 : Nat) : Int), .pointer (x.p 0)] ∧ (ERep J' l (x.n 0) (x.p 0)))) (by kernel_rfl) ?_
   intro φ3 xs3 J8_3 leJ
   have hl := RE.mono leJ hl
   exact Fun.mono (ihl hl) (fun v J' _ ⟨y0, y1, hv, g0⟩ => ⟨{ UX.d with n := fun j => y0, p := fun j => y1 }, hv, g0⟩)
  case c3_13 =>
   refine kcast (A := ∀ (φ3 : Nat → Nat) (xs3 : Xs) (J13_3 : IM), I.Le J13_3 → (ERep J13_3 l ((xs3 8).n 0) ((xs3 8).p 0)) → Fun Try.prog 36 #[.pointer (some ⟨kr, 0, none⟩)] J13_3 (fun v J' => ∃ x : UX, v = .agg #[.int .u64 ((x.n 0 : Nat) : Int), .pointer (x.p 0)] ∧ (ERep J' r (x.n 0) (x.p 0)))) (by kernel_rfl) ?_
   intro φ3 xs3 J13_3 leJ
   rintro h3_8_0
   have hr := RE.mono leJ hr
   exact Fun.mono (ihr hr) (fun v J' _ ⟨y0, y1, hv, g0⟩ => ⟨{ UX.d with n := fun j => y0, p := fun j => y1 }, hv, g0⟩)
  case c3_14 =>
   refine kcast (A := ∀ (φ3 : Nat → Nat) (xs3 : Xs) (J14_3 : IM), I.Le J14_3 → (ERep J14_3 l ((xs3 8).n 0) ((xs3 8).p 0)) → (ERep J14_3 r ((xs3 13).n 0) ((xs3 13).p 0)) → Fun Try.prog 74 #[.int .u64 ((n : Nat) : Int), .agg #[.int .u64 (((xs3 8).n 0 : Nat) : Int), .pointer ((xs3 8).p 0)], .agg #[.int .u64 (((xs3 13).n 0 : Nat) : Int), .pointer ((xs3 13).p 0)]] J14_3 (fun v J' => ∃ x : UX, v = .tuple #[.agg #[.int .u64 ((x.n 0 : Nat) : Int), .pointer (x.p 0)], .int .i64 0] ∧ (ERep J' (E.node n l r) (x.n 0) (x.p 0)))) (by kernel_rfl) ?_
   intro φ3 xs3 J14_3 leJ
   rintro h3_8_0 h3_13_0
   exact Fun.mono (nodeOk9_c (n := n) hnf.2.2 ht hd h3_8_0 h3_13_0) (fun v J' _ ⟨y0, y1, hv, g0⟩ => ⟨{ UX.d with n := fun j => y0, p := fun j => y1 }, hv, g0⟩)
  case k3 =>
   rintro φ3 xs3 I3 w3 le3 s h3_8_0 h3_13_0 h3_14_0
   refine wp_seq ?_
   refine region_rule ?_
   refine ops_rule (C := []) [((φ1 0), .cells #[.int .u64 0, .pointer none] 30), ((φ3 18), .cells #[.int .u64 (((xs3 14).n 0 : Nat) : Int), .pointer ((xs3 14).p 0)] 30)] [] 2 [.o 1, .o 1, .o 0, .o 0] 0 (fun φ4 => [(39, .agg #[.int .u64 (((xs3 14).n 0 : Nat) : Int), .pointer ((xs3 14).p 0)])]) (fun φ4 => [((φ1 0), .cells #[.int .u64 (((xs3 14).n 0 : Nat) : Int), .pointer ((xs3 14).p 0)] 30), ((φ3 18), .cells #[.int .u64 (((xs3 14).n 0 : Nat) : Int), .pointer ((xs3 14).p 0)] 30)]) (fun φ4 => [(φ3 18), (φ3 18), (φ1 0), (φ1 0)]) s trivial (fun φ4 => by kernel_rfl) ?_
   intro φ4 w4 s
   refine ops_done (by kernel_rfl) ?_
   refine wp_ret ?_
   refine ret_rule (C := []) [((φ1 0), .cells #[.int .u64 (((xs3 14).n 0 : Nat) : Int), .pointer ((xs3 14).p 0)] 30), ((φ3 18), .cells #[.int .u64 (((xs3 14).n 0 : Nat) : Int), .pointer ((xs3 14).p 0)] 30)] [] (.agg #[.int .u64 (((xs3 14).n 0 : Nat) : Int), .pointer ((xs3 14).p 0)]) [.o 0, .o 0] [(φ1 0), (φ1 0)] s trivial (by kernel_rfl) ?_
   exact ⟨_, _, _, rfl, s, ⟨_, _, rfl, h3_14_0⟩⟩

theorem tree_c : ∀ (e : E) {I : IM} {k : Nat}, e.nf → e.top ≤ 1048576 → e.depth ≤ 16 → RE I e k → Fun Try.prog 36 #[.pointer (some ⟨k, 0, none⟩)] I (fun v J => ∃ b p, v = evv b p ∧ ERep J e b p)
  | .leaf n, _, _, hn, ht, hd, h => tree_step h hn ht hd (fun n l r h => by cases h)
  | .node n l r, _, _, hn, ht, hd, h => tree_step h hn ht hd (fun n' l' r' e => by
      cases e
      have ht1 : n + max l.top r.top ≤ 1048576 := ht
      have hd1 : 1 + max l.depth r.depth ≤ 16 := hd
      exact ⟨fun {J} {k} a => tree_c l hn.1 (by omega) (by omega) a, fun {J} {k} a => tree_c r hn.2.1 (by omega) (by omega) a⟩)

end Go.Proofs.Ytgmigcmhnmmdkaa.Ev

