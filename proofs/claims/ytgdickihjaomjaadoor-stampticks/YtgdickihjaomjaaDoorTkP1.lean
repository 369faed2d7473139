/- The program's stamps. -/
import Derived.Test.YtgdickihjaomjaaDoorTkI3
set_option linter.all false
set_option maxRecDepth 100000
namespace Go.Proofs.YtgdickihjaomjaaDoor
open Go.RowKit Go.Sep

def fillE : T → E → E
  | _, .leaf n => .leaf n
  | i, .node n l r => if i.isZero = true then .node n l r else if i.isOne = true then .leaf (E.top (.node n l r)) else
      if i.left.isOne = true then E.mk n (.leaf (max l.top (fillE i.right r).base)) (fillE i.right r) else
      if i.right.isOne = true then E.mk n (fillE i.left l) (.leaf (max r.top (fillE i.left l).base)) else E.mk n (fillE i.left l) (fillE i.right r)
theorem fill_bounds : ∀ (e : E) (i : T), (fillE i e).top ≤ e.top ∧ (fillE i e).depth ≤ e.depth
  | .leaf n, i => by simp [fillE]
  | .node n l r, i => by
    have h1 := fill_bounds l i.left
    have h2 := fill_bounds r i.right
    have b1 := E.base_le (fillE i.left l)
    have b2 := E.base_le (fillE i.right r)
    have e1 : (E.node n l r).top = n + max l.top r.top := rfl
    have e2 : (E.node n l r).depth = 1 + max l.depth r.depth := rfl
    unfold fillE
    split
    · omega
    · split
      · exact ⟨Nat.le_refl _, Nat.zero_le _⟩
      · split
        · have t1 := E.mk_top n (.leaf (max l.top (fillE i.right r).base)) (fillE i.right r)
          have d1 := E.mk_depth n (.leaf (max l.top (fillE i.right r).base)) (fillE i.right r)
          have z : ∀ k, (E.leaf k).top = k := fun _ => rfl
          have z2 : ∀ k, (E.leaf k).depth = 0 := fun _ => rfl
          rw [z] at t1; rw [z2] at d1
          omega
        · split
          · have t1 := E.mk_top n (fillE i.left l) (.leaf (max r.top (fillE i.left l).base))
            have d1 := E.mk_depth n (fillE i.left l) (.leaf (max r.top (fillE i.left l).base))
            have z : ∀ k, (E.leaf k).top = k := fun _ => rfl
            have z2 : ∀ k, (E.leaf k).depth = 0 := fun _ => rfl
            rw [z] at t1; rw [z2] at d1
            omega
          · have t1 := E.mk_top n (fillE i.left l) (fillE i.right r)
            have d1 := E.mk_depth n (fillE i.left l) (fillE i.right r)
            omega
def priceF : Nat → T → E → Nat
  | 0, _, _ => 0
  | n + 1, i, e => if i.isZero = true then 1048576 else if i.isOne = true ∧ e.isLeaf = true then 0 else
      if e.isLeaf = true then 1 + min (priceF n i.left e.left) (priceF n i.right e.right) + 1000 else 1 + min (priceF n i.left e.left) (priceF n i.right e.right)
theorem price_le : ∀ (n : Nat) (i : T) (e : E), priceF n i e ≤ 1048576 + n * 1001
  | 0, i, e => by simp [priceF]
  | n + 1, i, e => by
    have h1 := price_le n i.left e.left
    have h2 := price_le n i.right e.right
    unfold priceF
    split
    · omega
    · split
      · omega
      · split <;> omega
def leafR (n : Nat) : E × Nat := if 1048576 < n then (.leaf 0, 4) else (.leaf n, 0)
def growF : Nat → T → E → E × Nat
  | 0, _, _ => (.leaf 0, 0)
  | n + 1, i, e => if i.isOne = true ∧ e.isLeaf = true then leafR (e.base + 1) else
      if priceF n i.left e.left < priceF n i.right e.right then
        (if (growF n i.left e.left).2 ≠ 0 then (.leaf 0, (growF n i.left e.left).2) else nodeR e.base (growF n i.left e.left).1 e.right)
      else (if (growF n i.right e.right).2 ≠ 0 then (.leaf 0, (growF n i.right e.right).2) else nodeR e.base e.left (growF n i.right e.right).1)
theorem leafR_b (n : Nat) : (leafR n).1.top ≤ 1048576 ∧ (leafR n).1.depth = 0 ∧ (leafR n).2 ≤ 4 := by
  unfold leafR; split
  · exact ⟨by decide, rfl, by decide⟩
  · exact ⟨show n ≤ 1048576 by omega, rfl, by simp⟩
theorem nodeR_b (n : Nat) (l r : E) : (nodeR n l r).1.top ≤ 1048576 ∧ (nodeR n l r).1.depth ≤ 16 ∧ (nodeR n l r).2 ≤ 4 := by
  unfold nodeR
  split
  · exact ⟨by decide, by decide, by decide⟩
  · split
    · exact ⟨by decide, by decide, by decide⟩
    · split
      · exact ⟨by decide, by decide, by decide⟩
      · have h1 := E.mk_top n l r
        have h2 := E.mk_depth n l r
        exact ⟨by simp only; omega, by simp only; omega, by simp⟩
theorem grow_b : ∀ (n : Nat) (i : T) (e : E), (growF n i e).1.top ≤ 1048576 ∧ (growF n i e).1.depth ≤ 16 ∧ (growF n i e).2 ≤ 4
  | 0, i, e => by simp [growF, E.top, E.depth]
  | n + 1, i, e => by
    have h1 := grow_b n i.left e.left
    have h2 := grow_b n i.right e.right
    unfold growF
    split
    · have := leafR_b (e.base + 1); omega
    · split
      · split
        · exact ⟨Nat.zero_le _, Nat.zero_le _, h1.2.2⟩
        · exact nodeR_b _ _ _
      · split
        · exact ⟨Nat.zero_le _, Nat.zero_le _, h2.2.2⟩
        · exact nodeR_b _ _ _
theorem E.half_le (e : E) : e.left.top ≤ e.top ∧ e.right.top ≤ e.top ∧ e.left.depth ≤ e.depth ∧ e.right.depth ≤ e.depth := by
  cases e with
  | leaf n => simp [E.left, E.right, E.top, E.depth]
  | node n l r => exact ⟨show l.top ≤ n + max l.top r.top by omega, show r.top ≤ n + max l.top r.top by omega, show l.depth ≤ 1 + max l.depth r.depth by omega, show r.depth ≤ 1 + max l.depth r.depth by omega⟩
theorem leafR_c {I : IM} {n : Nat} : Fun Tryd.prog 33 #[.int .u64 ((n : Nat) : Int)] I (fun v J => ∃ b p, v = .tuple #[evv b p, .int .i64 (((leafR n).2 : Nat) : Int)] ∧ ERep J (leafR n).1 b p) := by
  by_cases h : 1048576 < n
  · rw [leafR, if_pos h]; exact (leafNo_c h).mono fun v J _ hv => ⟨0, none, hv, rfl, rfl⟩
  · rw [leafR, if_neg h]; exact (leafOk_c (by omega)).mono fun v J _ hv => ⟨n, none, hv, rfl, rfl⟩

set_option maxHeartbeats 400000 in
theorem sleaf_c {I : IM} {n : Nat} (hn : n ≤ 1048576) : Fun Tryd.prog 91 #[.int .u64 ((n : Nat) : Int)] I (fun v J => v = evv n none) := by
  refine enter_rule 11 [(0, .int .u64 ((n : Nat) : Int))] Tryd.func91 rfl (by kernel_rfl) ?_
  intro w s
  refine wp_seq ?_
  refine region_rule ?_
  refine ops_rule (C := []) [] [] 1 [] 1 (fun φ1 => [(2, .pointer (some ⟨(φ1 0), 0, none⟩))]) (fun φ1 => [((φ1 0), .cells #[.int .u64 0, .pointer none] 27)]) (fun φ1 => []) s trivial (fun φ1 => by kernel_rfl) ?_
  intro φ1 w1 s
  refine ops_done (by kernel_rfl) ?_
  refine wp_seq ?_
  refine region_rule ?_
  refine ops_rule (C := []) [((φ1 0), .cells #[.int .u64 0, .pointer none] 27)] [] 1 [] 0 (fun φ2 => [(6, .int .u64 ((n : Nat) : Int))]) (fun φ2 => [((φ1 0), .cells #[.int .u64 0, .pointer none] 27)]) (fun φ2 => []) s trivial (fun φ2 => by kernel_rfl) ?_
  intro φ2 w2 s
  refine call_rule (some 7) s (leafOk_c (n := n) (by omega)) (by kernel_rfl) ?_
  intro v3 I3 w3 le3 h3 s
  obtain rfl := h3
  refine ops_rule (C := []) [((φ1 0), .cells #[.int .u64 0, .pointer none] 27)] [] 6 [.o 1, .o 1] 1 (fun φ4 => [(4, .int .i64 0), (3, .pointer (some ⟨(φ4 0), 0, none⟩)), (9, .int .i64 0), (8, .agg #[.int .u64 ((n : Nat) : Int), .pointer none]), (5, .tuple #[.agg #[.int .u64 ((n : Nat) : Int), .pointer none], .int .i64 0])]) (fun φ4 => [((φ1 0), .cells #[.int .u64 0, .pointer none] 27), ((φ4 0), .cells #[.int .u64 ((n : Nat) : Int), .pointer none] 27)]) (fun φ4 => [(φ4 0), (φ4 0)]) s trivial (fun φ4 => by kernel_rfl) ?_
  intro φ4 w4 s
  refine ops_done (by kernel_rfl) ?_
  refine wp_seq ?_
  refine region_rule ?_
  refine ops_rule (C := []) [((φ1 0), .cells #[.int .u64 0, .pointer none] 27), ((φ4 0), .cells #[.int .u64 ((n : Nat) : Int), .pointer none] 27)] [] 2 [.o 1, .o 1, .o 0, .o 0] 0 (fun φ5 => [(10, .agg #[.int .u64 ((n : Nat) : Int), .pointer none])]) (fun φ5 => [((φ1 0), .cells #[.int .u64 ((n : Nat) : Int), .pointer none] 27), ((φ4 0), .cells #[.int .u64 ((n : Nat) : Int), .pointer none] 27)]) (fun φ5 => [(φ4 0), (φ4 0), (φ1 0), (φ1 0)]) s trivial (fun φ5 => by kernel_rfl) ?_
  intro φ5 w5 s
  refine ops_done (by kernel_rfl) ?_
  refine wp_ret ?_
  refine ret_rule (C := []) [((φ1 0), .cells #[.int .u64 ((n : Nat) : Int), .pointer none] 27), ((φ4 0), .cells #[.int .u64 ((n : Nat) : Int), .pointer none] 27)] [] (.agg #[.int .u64 ((n : Nat) : Int), .pointer none]) [.o 0, .o 0] [(φ1 0), (φ1 0)] s trivial (by kernel_rfl) ?_
  exact ⟨_, _, _, rfl, s, rfl⟩

set_option maxHeartbeats 400000 in
theorem atPlace_c {I : IM} {i : T} {e : E} {ib : Bool} {ip : Option Addr} {eb : Nat} {ep : Option Addr} (hi : TRep I i ib ip) (he : ERep I e eb ep) : Fun Tryd.prog 114 #[idv ib ip, evv eb ep] I (fun v J => v = .bool (i.isOne && e.isLeaf)) := by
  refine enter_rule 11 [(0, .agg #[.bool ib, .pointer ip]), (1, .agg #[.int .u64 ((eb : Nat) : Int), .pointer ep])] Tryd.func114 rfl (by kernel_rfl) ?_
  intro w s
  refine wp_seq ?_
  refine region_rule ?_
  refine ops_rule (C := []) [] [] 3 [] 2 (fun φ1 => [(4, .bool false), (3, .pointer (some ⟨(φ1 1), 0, none⟩)), (2, .pointer (some ⟨(φ1 0), 0, none⟩))]) (fun φ1 => [((φ1 0), .cells #[.bool ib, .pointer ip] 62), ((φ1 1), .cells #[.int .u64 ((eb : Nat) : Int), .pointer ep] 27)]) (fun φ1 => []) s trivial (fun φ1 => by kernel_rfl) ?_
  intro φ1 w1 s
  refine ops_done (by kernel_rfl) ?_
  refine wp_seq ?_
  refine region_rule ?_
  refine ops_rule (C := []) [((φ1 0), .cells #[.bool ib, .pointer ip] 62), ((φ1 1), .cells #[.int .u64 ((eb : Nat) : Int), .pointer ep] 27)] [] 1 [.o 0, .o 0] 0 (fun φ2 => [(5, .agg #[.bool ib, .pointer ip])]) (fun φ2 => [((φ1 0), .cells #[.bool ib, .pointer ip] 62), ((φ1 1), .cells #[.int .u64 ((eb : Nat) : Int), .pointer ep] 27)]) (fun φ2 => [(φ1 0), (φ1 0)]) s trivial (fun φ2 => by kernel_rfl) ?_
  intro φ2 w2 s
  refine call_rule (some 6) s (isOne_c hi) (by kernel_rfl) ?_
  intro v3 I3 w3 le3 h3 s
  replace hi := TRep.mono le3 hi
  replace he := ERep.mono le3 he
  obtain rfl := h3
  refine ops_rule (C := []) [((φ1 0), .cells #[.bool ib, .pointer ip] 62), ((φ1 1), .cells #[.int .u64 ((eb : Nat) : Int), .pointer ep] 27)] [] 1 [] 0 (fun φ4 => [(7, .bool (T.isOne i))]) (fun φ4 => [((φ1 0), .cells #[.bool ib, .pointer ip] 62), ((φ1 1), .cells #[.int .u64 ((eb : Nat) : Int), .pointer ep] 27)]) (fun φ4 => []) s trivial (fun φ4 => by kernel_rfl) ?_
  intro φ4 w4 s
  rcases Bool.eq_false_or_eq_true (T.isOne i) with hc5 | hc5
  ·
    rw [hc5]
    refine ops_rule (C := []) [((φ1 0), .cells #[.bool ib, .pointer ip] 62), ((φ1 1), .cells #[.int .u64 ((eb : Nat) : Int), .pointer ep] 27)] [] 1 [.o 1, .o 1] 0 (fun φ6 => [(8, .agg #[.int .u64 ((eb : Nat) : Int), .pointer ep])]) (fun φ6 => [((φ1 0), .cells #[.bool ib, .pointer ip] 62), ((φ1 1), .cells #[.int .u64 ((eb : Nat) : Int), .pointer ep] 27)]) (fun φ6 => [(φ1 1), (φ1 1)]) s trivial (fun φ6 => by kernel_rfl) ?_
    intro φ6 w6 s
    refine call_rule (some 9) s (isLeaf_c he) (by kernel_rfl) ?_
    intro v7 I7 w7 le7 h7 s
    replace hi := TRep.mono le7 hi
    replace he := ERep.mono le7 he
    obtain rfl := h7
    refine ops_rule (C := []) [((φ1 0), .cells #[.bool ib, .pointer ip] 62), ((φ1 1), .cells #[.int .u64 ((eb : Nat) : Int), .pointer ep] 27)] [] 2 [] 0 (fun φ8 => [(4, .bool (E.isLeaf e)), (10, .bool (E.isLeaf e))]) (fun φ8 => [((φ1 0), .cells #[.bool ib, .pointer ip] 62), ((φ1 1), .cells #[.int .u64 ((eb : Nat) : Int), .pointer ep] 27)]) (fun φ8 => []) s trivial (fun φ8 => by kernel_rfl) ?_
    intro φ8 w8 s
    refine ops_done (by kernel_rfl) ?_
    refine wp_ret ?_
    refine ret_rule (C := []) [((φ1 0), .cells #[.bool ib, .pointer ip] 62), ((φ1 1), .cells #[.int .u64 ((eb : Nat) : Int), .pointer ep] 27)] [] (.bool (E.isLeaf e)) [] [] s trivial (by kernel_rfl) ?_
    exact ⟨_, _, _, rfl, s, (by simp [hc5])⟩
  ·
    rw [hc5]
    refine ops_rule (C := []) [((φ1 0), .cells #[.bool ib, .pointer ip] 62), ((φ1 1), .cells #[.int .u64 ((eb : Nat) : Int), .pointer ep] 27)] [] 4 [] 0 (fun φ9 => [(4, .bool false), (10, .bool false), (9, undef), (8, undef)]) (fun φ9 => [((φ1 0), .cells #[.bool ib, .pointer ip] 62), ((φ1 1), .cells #[.int .u64 ((eb : Nat) : Int), .pointer ep] 27)]) (fun φ9 => []) s trivial (fun φ9 => by kernel_rfl) ?_
    intro φ9 w9 s
    refine ops_done (by kernel_rfl) ?_
    refine wp_ret ?_
    refine ret_rule (C := []) [((φ1 0), .cells #[.bool ib, .pointer ip] 62), ((φ1 1), .cells #[.int .u64 ((eb : Nat) : Int), .pointer ep] 27)] [] (.bool false) [] [] s trivial (by kernel_rfl) ?_
    exact ⟨_, _, _, rfl, s, (by simp [hc5])⟩

@[simp] theorem E.top_leaf (n : Nat) : (E.leaf n).top = n := rfl
@[simp] theorem E.depth_leaf (n : Nat) : (E.leaf n).depth = 0 := rfl

set_option maxHeartbeats 2000000 in
theorem fill_step {I : IM} {i : T} {e : E} {ib : Bool} {ip : Option Addr} {eb : Nat} {ep : Option Addr} (hi : TRep I i ib ip) (he : ERep I e eb ep) {FL FR : E} (ht : e.top ≤ 1048576) (hd : e.depth ≤ 16) (hFL : FL.top ≤ e.left.top ∧ FL.depth ≤ e.left.depth) (hFR : FR.top ≤ e.right.top ∧ FR.depth ≤ e.right.depth) (hnd : e.isLeaf = false → e.left.depth < 16 ∧ e.right.depth < 16 ∧ e.base + max e.left.top e.right.top ≤ 1048576) (ihl : e.isLeaf = false → ∀ {J : IM} {ib : Bool} {ip : Option Addr} {eb : Nat} {ep : Option Addr}, TRep J i.left ib ip → ERep J e.left eb ep → Fun Tryd.prog 53 #[idv ib ip, evv eb ep] J (fun v J => ∃ b p, v = evv b p ∧ ERep J FL b p)) (ihr : e.isLeaf = false → ∀ {J : IM} {ib : Bool} {ip : Option Addr} {eb : Nat} {ep : Option Addr}, TRep J i.right ib ip → ERep J e.right eb ep → Fun Tryd.prog 53 #[idv ib ip, evv eb ep] J (fun v J => ∃ b p, v = evv b p ∧ ERep J FR b p)) : Fun Tryd.prog 53 #[idv ib ip, evv eb ep] I (fun v J => ∃ b p, v = evv b p ∧ ERep J (if i.isZero = true then e else if e.isLeaf = true then e else if i.isOne = true then E.leaf e.top else if i.left.isOne = true then E.mk e.base (.leaf (max e.left.top FR.base)) FR else if i.right.isOne = true then E.mk e.base FL (.leaf (max e.right.top FL.base)) else E.mk e.base FL FR) b p) := by
  have hbl := E.base_le FL
  have hbr := E.base_le FR
  have hhalf := E.half_le e
  refine enter_rule 68 [(0, .agg #[.bool ib, .pointer ip]), (1, .agg #[.int .u64 ((eb : Nat) : Int), .pointer ep])] Tryd.func53 rfl (by kernel_rfl) ?_
  intro w s
  refine wp_seq ?_
  refine region_rule ?_
  refine ops_rule (C := []) [] [] 3 [] 3 (fun φ1 => [(4, .pointer (some ⟨(φ1 2), 0, none⟩)), (3, .pointer (some ⟨(φ1 1), 0, none⟩)), (2, .pointer (some ⟨(φ1 0), 0, none⟩))]) (fun φ1 => [((φ1 0), .cells #[.bool ib, .pointer ip] 62), ((φ1 1), .cells #[.int .u64 ((eb : Nat) : Int), .pointer ep] 27), ((φ1 2), .cells #[.int .u64 0, .pointer none] 27)]) (fun φ1 => []) s trivial (fun φ1 => by kernel_rfl) ?_
  intro φ1 w1 s
  refine ops_done (by kernel_rfl) ?_
  refine wp_seq ?_
  refine wp_seq ?_
  refine region_rule ?_
  refine ops_rule (C := []) [((φ1 0), .cells #[.bool ib, .pointer ip] 62), ((φ1 1), .cells #[.int .u64 ((eb : Nat) : Int), .pointer ep] 27), ((φ1 2), .cells #[.int .u64 0, .pointer none] 27)] [] 1 [.o 0, .o 0] 0 (fun φ2 => [(7, .agg #[.bool ib, .pointer ip])]) (fun φ2 => [((φ1 0), .cells #[.bool ib, .pointer ip] 62), ((φ1 1), .cells #[.int .u64 ((eb : Nat) : Int), .pointer ep] 27), ((φ1 2), .cells #[.int .u64 0, .pointer none] 27)]) (fun φ2 => [(φ1 0), (φ1 0)]) s trivial (fun φ2 => by kernel_rfl) ?_
  intro φ2 w2 s
  refine call_rule (some 8) s (isZero_c hi) (by kernel_rfl) ?_
  intro v3 I3 w3 le3 h3 s
  replace hi := TRep.mono le3 hi
  replace he := ERep.mono le3 he
  obtain rfl := h3
  refine ops_rule (C := []) [((φ1 0), .cells #[.bool ib, .pointer ip] 62), ((φ1 1), .cells #[.int .u64 ((eb : Nat) : Int), .pointer ep] 27), ((φ1 2), .cells #[.int .u64 0, .pointer none] 27)] [] 1 [] 0 (fun φ4 => [(9, .bool (T.isZero i))]) (fun φ4 => [((φ1 0), .cells #[.bool ib, .pointer ip] 62), ((φ1 1), .cells #[.int .u64 ((eb : Nat) : Int), .pointer ep] 27), ((φ1 2), .cells #[.int .u64 0, .pointer none] 27)]) (fun φ4 => []) s trivial (fun φ4 => by kernel_rfl) ?_
  intro φ4 w4 s
  rcases Bool.eq_false_or_eq_true (T.isZero i) with hc5 | hc5
  ·
    rw [hc5]
    refine ops_rule (C := []) [((φ1 0), .cells #[.bool ib, .pointer ip] 62), ((φ1 1), .cells #[.int .u64 ((eb : Nat) : Int), .pointer ep] 27), ((φ1 2), .cells #[.int .u64 0, .pointer none] 27)] [] 3 [] 0 (fun φ6 => [(12, .bool true), (11, undef), (10, undef)]) (fun φ6 => [((φ1 0), .cells #[.bool ib, .pointer ip] 62), ((φ1 1), .cells #[.int .u64 ((eb : Nat) : Int), .pointer ep] 27), ((φ1 2), .cells #[.int .u64 0, .pointer none] 27)]) (fun φ6 => []) s trivial (fun φ6 => by kernel_rfl) ?_
    intro φ6 w6 s
    refine ops_done (by kernel_rfl) ?_
    refine cond_true_rule (b := true) (by kernel_rfl) rfl ?_
    refine wp_seq ?_
    refine region_rule ?_
    refine ops_rule (C := []) [((φ1 0), .cells #[.bool ib, .pointer ip] 62), ((φ1 1), .cells #[.int .u64 ((eb : Nat) : Int), .pointer ep] 27), ((φ1 2), .cells #[.int .u64 0, .pointer none] 27)] [] 2 [.o 1, .o 1, .o 2, .o 2] 0 (fun φ7 => [(13, .agg #[.int .u64 ((eb : Nat) : Int), .pointer ep])]) (fun φ7 => [((φ1 0), .cells #[.bool ib, .pointer ip] 62), ((φ1 1), .cells #[.int .u64 ((eb : Nat) : Int), .pointer ep] 27), ((φ1 2), .cells #[.int .u64 ((eb : Nat) : Int), .pointer ep] 27)]) (fun φ7 => [(φ1 1), (φ1 1), (φ1 2), (φ1 2)]) s trivial (fun φ7 => by kernel_rfl) ?_
    intro φ7 w7 s
    refine ops_done (by kernel_rfl) ?_
    refine wp_ret ?_
    refine ret_rule (C := []) [((φ1 0), .cells #[.bool ib, .pointer ip] 62), ((φ1 1), .cells #[.int .u64 ((eb : Nat) : Int), .pointer ep] 27), ((φ1 2), .cells #[.int .u64 ((eb : Nat) : Int), .pointer ep] 27)] [] (.agg #[.int .u64 ((eb : Nat) : Int), .pointer ep]) [.o 2, .o 2] [(φ1 2), (φ1 2)] s trivial (by kernel_rfl) ?_
    simp only [hc5, ↓reduceIte, Bool.false_eq_true]
    exact ⟨_, _, _, rfl, s, ⟨_, _, rfl, by first | exact he | (rw [← ERep.base he]; exact he)⟩⟩
  ·
    rw [hc5]
    refine ops_rule (C := []) [((φ1 0), .cells #[.bool ib, .pointer ip] 62), ((φ1 1), .cells #[.int .u64 ((eb : Nat) : Int), .pointer ep] 27), ((φ1 2), .cells #[.int .u64 0, .pointer none] 27)] [] 1 [.o 1, .o 1] 0 (fun φ8 => [(10, .agg #[.int .u64 ((eb : Nat) : Int), .pointer ep])]) (fun φ8 => [((φ1 0), .cells #[.bool ib, .pointer ip] 62), ((φ1 1), .cells #[.int .u64 ((eb : Nat) : Int), .pointer ep] 27), ((φ1 2), .cells #[.int .u64 0, .pointer none] 27)]) (fun φ8 => [(φ1 1), (φ1 1)]) s trivial (fun φ8 => by kernel_rfl) ?_
    intro φ8 w8 s
    refine call_rule (some 11) s (isLeaf_c he) (by kernel_rfl) ?_
    intro v9 I9 w9 le9 h9 s
    replace hi := TRep.mono le9 hi
    replace he := ERep.mono le9 he
    obtain rfl := h9
    refine ops_rule (C := []) [((φ1 0), .cells #[.bool ib, .pointer ip] 62), ((φ1 1), .cells #[.int .u64 ((eb : Nat) : Int), .pointer ep] 27), ((φ1 2), .cells #[.int .u64 0, .pointer none] 27)] [] 1 [] 0 (fun φ10 => [(12, .bool (E.isLeaf e))]) (fun φ10 => [((φ1 0), .cells #[.bool ib, .pointer ip] 62), ((φ1 1), .cells #[.int .u64 ((eb : Nat) : Int), .pointer ep] 27), ((φ1 2), .cells #[.int .u64 0, .pointer none] 27)]) (fun φ10 => []) s trivial (fun φ10 => by kernel_rfl) ?_
    intro φ10 w10 s
    refine ops_done (by kernel_rfl) ?_
    rcases Bool.eq_false_or_eq_true (E.isLeaf e) with hc11 | hc11
    ·
      rw [hc11]
      refine cond_true_rule (b := true) (by kernel_rfl) rfl ?_
      refine wp_seq ?_
      refine region_rule ?_
      refine ops_rule (C := []) [((φ1 0), .cells #[.bool ib, .pointer ip] 62), ((φ1 1), .cells #[.int .u64 ((eb : Nat) : Int), .pointer ep] 27), ((φ1 2), .cells #[.int .u64 0, .pointer none] 27)] [] 2 [.o 1, .o 1, .o 2, .o 2] 0 (fun φ12 => [(13, .agg #[.int .u64 ((eb : Nat) : Int), .pointer ep])]) (fun φ12 => [((φ1 0), .cells #[.bool ib, .pointer ip] 62), ((φ1 1), .cells #[.int .u64 ((eb : Nat) : Int), .pointer ep] 27), ((φ1 2), .cells #[.int .u64 ((eb : Nat) : Int), .pointer ep] 27)]) (fun φ12 => [(φ1 1), (φ1 1), (φ1 2), (φ1 2)]) s trivial (fun φ12 => by kernel_rfl) ?_
      intro φ12 w12 s
      refine ops_done (by kernel_rfl) ?_
      refine wp_ret ?_
      refine ret_rule (C := []) [((φ1 0), .cells #[.bool ib, .pointer ip] 62), ((φ1 1), .cells #[.int .u64 ((eb : Nat) : Int), .pointer ep] 27), ((φ1 2), .cells #[.int .u64 ((eb : Nat) : Int), .pointer ep] 27)] [] (.agg #[.int .u64 ((eb : Nat) : Int), .pointer ep]) [.o 2, .o 2] [(φ1 2), (φ1 2)] s trivial (by kernel_rfl) ?_
      simp only [hc5, hc11, ↓reduceIte, Bool.false_eq_true]
      exact ⟨_, _, _, rfl, s, ⟨_, _, rfl, by first | exact he | (rw [← ERep.base he]; exact he)⟩⟩
    ·
      rw [hc11]
      refine cond_false_rule (b := false) (by kernel_rfl) rfl ?_
      refine wp_skip ?_
      refine wp_seq ?_
      refine wp_seq ?_
      refine region_rule ?_
      refine ops_rule (C := []) [((φ1 0), .cells #[.bool ib, .pointer ip] 62), ((φ1 1), .cells #[.int .u64 ((eb : Nat) : Int), .pointer ep] 27), ((φ1 2), .cells #[.int .u64 0, .pointer none] 27)] [] 1 [.o 0, .o 0] 0 (fun φ13 => [(14, .agg #[.bool ib, .pointer ip])]) (fun φ13 => [((φ1 0), .cells #[.bool ib, .pointer ip] 62), ((φ1 1), .cells #[.int .u64 ((eb : Nat) : Int), .pointer ep] 27), ((φ1 2), .cells #[.int .u64 0, .pointer none] 27)]) (fun φ13 => [(φ1 0), (φ1 0)]) s trivial (fun φ13 => by kernel_rfl) ?_
      intro φ13 w13 s
      refine call_rule (some 15) s (isOne_c hi) (by kernel_rfl) ?_
      intro v14 I14 w14 le14 h14 s
      replace hi := TRep.mono le14 hi
      replace he := ERep.mono le14 he
      obtain rfl := h14
      refine ops_done (by kernel_rfl) ?_
      rcases Bool.eq_false_or_eq_true (T.isOne i) with hc15 | hc15
      ·
        rw [hc15]
        refine cond_true_rule (b := true) (by kernel_rfl) rfl ?_
        refine wp_seq ?_
        refine region_rule ?_
        refine ops_rule (C := []) [((φ1 0), .cells #[.bool ib, .pointer ip] 62), ((φ1 1), .cells #[.int .u64 ((eb : Nat) : Int), .pointer ep] 27), ((φ1 2), .cells #[.int .u64 0, .pointer none] 27)] [] 1 [.o 1, .o 1] 0 (fun φ16 => [(16, .agg #[.int .u64 ((eb : Nat) : Int), .pointer ep])]) (fun φ16 => [((φ1 0), .cells #[.bool ib, .pointer ip] 62), ((φ1 1), .cells #[.int .u64 ((eb : Nat) : Int), .pointer ep] 27), ((φ1 2), .cells #[.int .u64 0, .pointer none] 27)]) (fun φ16 => [(φ1 1), (φ1 1)]) s trivial (fun φ16 => by kernel_rfl) ?_
        intro φ16 w16 s
        refine call_rule (some 17) s (max_c he (by omega)) (by kernel_rfl) ?_
        intro v17 I17 w17 le17 h17 s
        replace hi := TRep.mono le17 hi
        replace he := ERep.mono le17 he
        obtain rfl := h17
        refine call_rule (some 18) s (sleaf_c (n := (E.top e)) (by  have hn := hnd hc11; have hbe := ERep.base he; (try simp only [E.top_leaf, E.depth_leaf]); omega)) (by kernel_rfl) ?_
        intro v18 I18 w18 le18 h18 s
        replace hi := TRep.mono le18 hi
        replace he := ERep.mono le18 he
        obtain rfl := h18
        refine ops_rule (C := []) [((φ1 0), .cells #[.bool ib, .pointer ip] 62), ((φ1 1), .cells #[.int .u64 ((eb : Nat) : Int), .pointer ep] 27), ((φ1 2), .cells #[.int .u64 0, .pointer none] 27)] [] 1 [.o 2, .o 2] 0 (fun φ19 => []) (fun φ19 => [((φ1 0), .cells #[.bool ib, .pointer ip] 62), ((φ1 1), .cells #[.int .u64 ((eb : Nat) : Int), .pointer ep] 27), ((φ1 2), .cells #[.int .u64 ((E.top e : Nat) : Int), .pointer none] 27)]) (fun φ19 => [(φ1 2), (φ1 2)]) s trivial (fun φ19 => by kernel_rfl) ?_
        intro φ19 w19 s
        refine ops_done (by kernel_rfl) ?_
        refine wp_ret ?_
        refine ret_rule (C := []) [((φ1 0), .cells #[.bool ib, .pointer ip] 62), ((φ1 1), .cells #[.int .u64 ((eb : Nat) : Int), .pointer ep] 27), ((φ1 2), .cells #[.int .u64 ((E.top e : Nat) : Int), .pointer none] 27)] [] (.agg #[.int .u64 ((E.top e : Nat) : Int), .pointer none]) [.o 2, .o 2] [(φ1 2), (φ1 2)] s trivial (by kernel_rfl) ?_
        simp only [hc5, hc11, hc15, ↓reduceIte, Bool.false_eq_true]
        exact ⟨_, _, _, rfl, s, ⟨_, _, rfl, by first | exact (ERep.lf _ (E.top e)) | (rw [← ERep.base he]; exact (ERep.lf _ (E.top e)))⟩⟩
      ·
        rw [hc15]
        refine cond_false_rule (b := false) (by kernel_rfl) rfl ?_
        refine wp_skip ?_
        refine wp_seq ?_
        refine draw_rule (C := []) ⟨(fun φ20 xs20 => [.look 0 [.o 1, .o 1] [(φ1 1), (φ1 1)], .call 39 #[.agg #[.int .u64 ((eb : Nat) : Int), .pointer ep]], .look 0 [.o 1, .o 1] [(φ1 1), (φ1 1)], .call 40 #[.agg #[.int .u64 ((eb : Nat) : Int), .pointer ep]], .new, .new, .store 0 [.o 3, .o 3] [(φ20 4), (φ20 4)], .store 1 [.o 4, .o 4] [(φ20 5), (φ20 5)]]), (fun φ20 xs20 => [.agg #[.int .u64 ((eb : Nat) : Int), .pointer ep], .agg #[.int .u64 (((xs20 1).n 0 : Nat) : Int), .pointer ((xs20 1).p 0)], .agg #[.int .u64 ((eb : Nat) : Int), .pointer ep], .agg #[.int .u64 (((xs20 3).n 0 : Nat) : Int), .pointer ((xs20 3).p 0)], .pointer (some ⟨(φ20 4), 0, none⟩), .pointer (some ⟨(φ20 5), 0, none⟩), undef, undef]), (fun φ20 xs20 => [[((φ1 0), .cells #[.bool ib, .pointer ip] 62), ((φ1 1), .cells #[.int .u64 ((eb : Nat) : Int), .pointer ep] 27), ((φ1 2), .cells #[.int .u64 0, .pointer none] 27)], [((φ1 0), .cells #[.bool ib, .pointer ip] 62), ((φ1 1), .cells #[.int .u64 ((eb : Nat) : Int), .pointer ep] 27), ((φ1 2), .cells #[.int .u64 0, .pointer none] 27)], [((φ1 0), .cells #[.bool ib, .pointer ip] 62), ((φ1 1), .cells #[.int .u64 ((eb : Nat) : Int), .pointer ep] 27), ((φ1 2), .cells #[.int .u64 0, .pointer none] 27)]]), (fun φ20 xs20 => [[default, default, default, default, .cells #[.int .u64 0, .pointer none] 27, .cells #[.int .u64 0, .pointer none] 27, default, default], [default, default, default, default, .cells #[.int .u64 (((xs20 1).n 0 : Nat) : Int), .pointer ((xs20 1).p 0)] 27, .cells #[.int .u64 0, .pointer none] 27, default, default], [default, default, default, default, .cells #[.int .u64 (((xs20 1).n 0 : Nat) : Int), .pointer ((xs20 1).p 0)] 27, .cells #[.int .u64 (((xs20 3).n 0 : Nat) : Int), .pointer ((xs20 3).p 0)] 27, default, default]]), [6, 7], [1, 3, 1, 3, 2, 2, 4, 4]⟩ (fun j => ([MP.any, ⟨fun x J => ERep J (E.left e) (x.n 0) (x.p 0), fun le h => ERep.mono le h⟩, MP.any, ⟨fun x J => ERep J (E.right e) (x.n 0) (x.p 0), fun le h => ERep.mono le h⟩, MP.any, MP.any, MP.any, MP.any] : List MP).getD j MP.any) [1, 3] [] [] (fun φ20 xs20 => [[none, none, none, none, none, none, none, none], [none, none, none, none, none, none, none, none]]) (fun φ20 xs20 => [(19, .agg #[.int .u64 ((eb : Nat) : Int), .pointer ep]), (20, .agg #[.int .u64 (((xs20 1).n 0 : Nat) : Int), .pointer ((xs20 1).p 0)]), (21, .agg #[.int .u64 ((eb : Nat) : Int), .pointer ep]), (22, .agg #[.int .u64 (((xs20 3).n 0 : Nat) : Int), .pointer ((xs20 3).p 0)]), (5, .pointer (some ⟨(φ20 4), 0, none⟩)), (6, .pointer (some ⟨(φ20 5), 0, none⟩))]) (fun φ20 xs20 => [((φ1 0), .cells #[.bool ib, .pointer ip] 62), ((φ1 1), .cells #[.int .u64 ((eb : Nat) : Int), .pointer ep] 27), ((φ1 2), .cells #[.int .u64 0, .pointer none] 27), ((φ20 4), .cells #[.int .u64 (((xs20 1).n 0 : Nat) : Int), .pointer ((xs20 1).p 0)] 27), ((φ20 5), .cells #[.int .u64 (((xs20 3).n 0 : Nat) : Int), .pointer ((xs20 3).p 0)] 27)]) s trivial (by kernel_rfl) (by kernel_rfl) (fun _ _ => by kernel_rfl) (fun _ _ => by kernel_rfl) ⟨fun _ _ => by kernel_rfl, fun _ _ => by kernel_rfl, fun _ _ => by kernel_rfl, fun _ _ => by kernel_rfl⟩ (fun _ _ _ => by kernel_rfl) (fun _ _ => by kernel_rfl) (fun _ _ => by kernel_rfl) (fun _ _ => by kernel_rfl) (fun _ _ => by kernel_rfl) (fun _ _ => by kernel_rfl) trivial trivial ⟨?c20_1, ?c20_3, trivial⟩ ?k20
        case c20_1 =>
          refine kcast (A := ∀ (φ20 : Nat → Nat) (xs20 : Xs) (J1_20 : IM), I14.Le J1_20 → Fun Tryd.prog 39 #[.agg #[.int .u64 ((eb : Nat) : Int), .pointer ep]] J1_20 (fun v J' => ∃ x : UX, v = .agg #[.int .u64 ((x.n 0 : Nat) : Int), .pointer (x.p 0)] ∧ (ERep J' (E.left e) (x.n 0) (x.p 0)))) (by kernel_rfl) ?_
          intro φ20 xs20 J1_20 leJ
          have he := ERep.mono leJ he
          exact Fun.mono (left_c he) (fun v J' _ ⟨y0, y1, hv, g0⟩ => ⟨{ UX.d with n := fun j => y0, p := fun j => y1 }, hv, g0⟩)
        case c20_3 =>
          refine kcast (A := ∀ (φ20 : Nat → Nat) (xs20 : Xs) (J3_20 : IM), I14.Le J3_20 → (ERep J3_20 (E.left e) ((xs20 1).n 0) ((xs20 1).p 0)) → Fun Tryd.prog 40 #[.agg #[.int .u64 ((eb : Nat) : Int), .pointer ep]] J3_20 (fun v J' => ∃ x : UX, v = .agg #[.int .u64 ((x.n 0 : Nat) : Int), .pointer (x.p 0)] ∧ (ERep J' (E.right e) (x.n 0) (x.p 0)))) (by kernel_rfl) ?_
          intro φ20 xs20 J3_20 leJ
          rintro h20_1_0
          have he := ERep.mono leJ he
          exact Fun.mono (right_c he) (fun v J' _ ⟨y0, y1, hv, g0⟩ => ⟨{ UX.d with n := fun j => y0, p := fun j => y1 }, hv, g0⟩)
        case k20 =>
          rintro φ20 xs20 I20 w20 le20 s h20_1_0 h20_3_0
          replace hi := TRep.mono le20 hi
          replace he := ERep.mono le20 he
          refine wp_seq ?_
          refine wp_block ?_
          refine wp_seq ?_
          refine region_rule ?_
          refine ops_rule (C := []) [((φ1 0), .cells #[.bool ib, .pointer ip] 62), ((φ1 1), .cells #[.int .u64 ((eb : Nat) : Int), .pointer ep] 27), ((φ1 2), .cells #[.int .u64 0, .pointer none] 27), ((φ20 4), .cells #[.int .u64 (((xs20 1).n 0 : Nat) : Int), .pointer ((xs20 1).p 0)] 27), ((φ20 5), .cells #[.int .u64 (((xs20 3).n 0 : Nat) : Int), .pointer ((xs20 3).p 0)] 27)] [] 1 [.o 0, .o 0] 0 (fun φ21 => [(32, .agg #[.bool ib, .pointer ip])]) (fun φ21 => [((φ1 0), .cells #[.bool ib, .pointer ip] 62), ((φ1 1), .cells #[.int .u64 ((eb : Nat) : Int), .pointer ep] 27), ((φ1 2), .cells #[.int .u64 0, .pointer none] 27), ((φ20 4), .cells #[.int .u64 (((xs20 1).n 0 : Nat) : Int), .pointer ((xs20 1).p 0)] 27), ((φ20 5), .cells #[.int .u64 (((xs20 3).n 0 : Nat) : Int), .pointer ((xs20 3).p 0)] 27)]) (fun φ21 => [(φ1 0), (φ1 0)]) s trivial (fun φ21 => by kernel_rfl) ?_
          intro φ21 w21 s
          refine call_rule (some 33) s (tleft_c hi) (by kernel_rfl) ?_
          intro v22 I22 w22 le22 h22 s
          replace hi := TRep.mono le22 hi
          replace he := ERep.mono le22 he
          replace h20_1_0 := ERep.mono le22 h20_1_0
          replace h20_3_0 := ERep.mono le22 h20_3_0
          obtain ⟨b22, p22, rfl, h22_0⟩ := h22
          refine call_rule (some 34) s (isOne_c h22_0) (by kernel_rfl) ?_
          intro v23 I23 w23 le23 h23 s
          replace hi := TRep.mono le23 hi
          replace he := ERep.mono le23 he
          replace h20_1_0 := ERep.mono le23 h20_1_0
          replace h20_3_0 := ERep.mono le23 h20_3_0
          replace h22_0 := TRep.mono le23 h22_0
          obtain rfl := h23
          refine ops_rule (C := []) [((φ1 0), .cells #[.bool ib, .pointer ip] 62), ((φ1 1), .cells #[.int .u64 ((eb : Nat) : Int), .pointer ep] 27), ((φ1 2), .cells #[.int .u64 0, .pointer none] 27), ((φ20 4), .cells #[.int .u64 (((xs20 1).n 0 : Nat) : Int), .pointer ((xs20 1).p 0)] 27), ((φ20 5), .cells #[.int .u64 (((xs20 3).n 0 : Nat) : Int), .pointer ((xs20 3).p 0)] 27)] [] 1 [] 0 (fun φ24 => [(31, .bool (T.isOne (T.left i)))]) (fun φ24 => [((φ1 0), .cells #[.bool ib, .pointer ip] 62), ((φ1 1), .cells #[.int .u64 ((eb : Nat) : Int), .pointer ep] 27), ((φ1 2), .cells #[.int .u64 0, .pointer none] 27), ((φ20 4), .cells #[.int .u64 (((xs20 1).n 0 : Nat) : Int), .pointer ((xs20 1).p 0)] 27), ((φ20 5), .cells #[.int .u64 (((xs20 3).n 0 : Nat) : Int), .pointer ((xs20 3).p 0)] 27)]) (fun φ24 => []) s trivial (fun φ24 => by kernel_rfl) ?_
          intro φ24 w24 s
          refine ops_done (by kernel_rfl) ?_
          rcases Bool.eq_false_or_eq_true (T.isOne (T.left i)) with hc25 | hc25
          ·
            rw [hc25]
            refine cond_true_rule (b := true) (by kernel_rfl) rfl ?_
            refine wp_seq ?_
            refine draw_rule (C := []) ⟨(fun φ26 xs26 => [.look 0 [.o 0, .o 0] [(φ1 0), (φ1 0)], .call 93 #[.agg #[.bool ib, .pointer ip]], .look 0 [.o 4, .o 4] [(φ20 5), (φ20 5)], .call 53 #[.agg #[.bool ((xs26 1).b 0), .pointer ((xs26 1).p 0)], .agg #[.int .u64 (((xs20 3).n 0 : Nat) : Int), .pointer ((xs20 3).p 0)]], .store 0 [.o 4, .o 4] [(φ20 5), (φ20 5)]]), (fun φ26 xs26 => [.agg #[.bool ib, .pointer ip], .agg #[.bool ((xs26 1).b 0), .pointer ((xs26 1).p 0)], .agg #[.int .u64 (((xs20 3).n 0 : Nat) : Int), .pointer ((xs20 3).p 0)], .agg #[.int .u64 (((xs26 3).n 0 : Nat) : Int), .pointer ((xs26 3).p 0)], undef]), (fun φ26 xs26 => [[((φ1 0), .cells #[.bool ib, .pointer ip] 62), ((φ1 1), .cells #[.int .u64 ((eb : Nat) : Int), .pointer ep] 27), ((φ1 2), .cells #[.int .u64 0, .pointer none] 27), ((φ20 4), .cells #[.int .u64 (((xs20 1).n 0 : Nat) : Int), .pointer ((xs20 1).p 0)] 27), ((φ20 5), .cells #[.int .u64 (((xs20 3).n 0 : Nat) : Int), .pointer ((xs20 3).p 0)] 27)], [((φ1 0), .cells #[.bool ib, .pointer ip] 62), ((φ1 1), .cells #[.int .u64 ((eb : Nat) : Int), .pointer ep] 27), ((φ1 2), .cells #[.int .u64 0, .pointer none] 27), ((φ20 4), .cells #[.int .u64 (((xs20 1).n 0 : Nat) : Int), .pointer ((xs20 1).p 0)] 27), ((φ20 5), .cells #[.int .u64 (((xs26 3).n 0 : Nat) : Int), .pointer ((xs26 3).p 0)] 27)]]), (fun φ26 xs26 => [[default, default, default, default, default], [default, default, default, default, default]]), [4], [1, 3, 1, 3, 4]⟩ (fun j => ([MP.any, ⟨fun x J => TRep J (T.right i) (x.b 0) (x.p 0), fun le h => TRep.mono le h⟩, MP.any, ⟨fun x J => ERep J FR (x.n 0) (x.p 0), fun le h => ERep.mono le h⟩, MP.any] : List MP).getD j MP.any) [1, 3] [] [] (fun φ26 xs26 => [[none, none, none, none, none]]) (fun φ26 xs26 => [(35, .agg #[.bool ib, .pointer ip]), (36, .agg #[.bool ((xs26 1).b 0), .pointer ((xs26 1).p 0)]), (37, .agg #[.int .u64 (((xs20 3).n 0 : Nat) : Int), .pointer ((xs20 3).p 0)]), (38, .agg #[.int .u64 (((xs26 3).n 0 : Nat) : Int), .pointer ((xs26 3).p 0)])]) (fun φ26 xs26 => [((φ1 0), .cells #[.bool ib, .pointer ip] 62), ((φ1 1), .cells #[.int .u64 ((eb : Nat) : Int), .pointer ep] 27), ((φ1 2), .cells #[.int .u64 0, .pointer none] 27), ((φ20 4), .cells #[.int .u64 (((xs20 1).n 0 : Nat) : Int), .pointer ((xs20 1).p 0)] 27), ((φ20 5), .cells #[.int .u64 (((xs26 3).n 0 : Nat) : Int), .pointer ((xs26 3).p 0)] 27)]) s trivial (by kernel_rfl) (by kernel_rfl) (fun _ _ => by kernel_rfl) (fun _ _ => by kernel_rfl) ⟨fun _ _ => by kernel_rfl, fun _ _ => by kernel_rfl, fun _ _ => by kernel_rfl, fun _ _ => by kernel_rfl⟩ (fun _ _ _ => by kernel_rfl) (fun _ _ => by kernel_rfl) (fun _ _ => by kernel_rfl) (fun _ _ => by kernel_rfl) (fun _ _ => by kernel_rfl) (fun _ _ => by kernel_rfl) trivial trivial ⟨?c26_1, ?c26_3, trivial⟩ ?k26
            case c26_1 =>
              refine kcast (A := ∀ (φ26 : Nat → Nat) (xs26 : Xs) (J1_26 : IM), I23.Le J1_26 → Fun Tryd.prog 93 #[.agg #[.bool ib, .pointer ip]] J1_26 (fun v J' => ∃ x : UX, v = .agg #[.bool (x.b 0), .pointer (x.p 0)] ∧ (TRep J' (T.right i) (x.b 0) (x.p 0)))) (by kernel_rfl) ?_
              intro φ26 xs26 J1_26 leJ
              have hi := TRep.mono leJ hi
              exact Fun.mono (tright_c hi) (fun v J' _ ⟨y0, y1, hv, g0⟩ => ⟨{ UX.d with b := fun j => y0, p := fun j => y1 }, hv, g0⟩)
            case c26_3 =>
              refine kcast (A := ∀ (φ26 : Nat → Nat) (xs26 : Xs) (J3_26 : IM), I23.Le J3_26 → (TRep J3_26 (T.right i) ((xs26 1).b 0) ((xs26 1).p 0)) → Fun Tryd.prog 53 #[.agg #[.bool ((xs26 1).b 0), .pointer ((xs26 1).p 0)], .agg #[.int .u64 (((xs20 3).n 0 : Nat) : Int), .pointer ((xs20 3).p 0)]] J3_26 (fun v J' => ∃ x : UX, v = .agg #[.int .u64 ((x.n 0 : Nat) : Int), .pointer (x.p 0)] ∧ (ERep J' FR (x.n 0) (x.p 0)))) (by kernel_rfl) ?_
              intro φ26 xs26 J3_26 leJ
              rintro h26_1_0
              have h20_3_0 := ERep.mono leJ h20_3_0
              exact Fun.mono (ihr hc11 h26_1_0 h20_3_0) (fun v J' _ ⟨y0, y1, hv, g0⟩ => ⟨{ UX.d with n := fun j => y0, p := fun j => y1 }, hv, g0⟩)
            case k26 =>
              rintro φ26 xs26 I26 w26 le26 s h26_1_0 h26_3_0
              replace hi := TRep.mono le26 hi
              replace he := ERep.mono le26 he
              replace h20_1_0 := ERep.mono le26 h20_1_0
              replace h20_3_0 := ERep.mono le26 h20_3_0
              replace h22_0 := TRep.mono le26 h22_0
              refine draw_rule (C := []) ⟨(fun φ27 xs27 => [.look 0 [.o 3, .o 3] [(φ20 4), (φ20 4)], .call 34 #[.agg #[.int .u64 (((xs20 1).n 0 : Nat) : Int), .pointer ((xs20 1).p 0)]], .look 0 [.o 4, .o 4] [(φ20 5), (φ20 5)], .call 72 #[.agg #[.int .u64 (((xs26 3).n 0 : Nat) : Int), .pointer ((xs26 3).p 0)]], .sub 0 [] [] (.int .u64 (if (((xs26 3).n 0 : Nat) : Int) > ((E.top (E.left e) : Nat) : Int) then (((xs26 3).n 0 : Nat) : Int) else ((E.top (E.left e) : Nat) : Int))), .call 91 #[.int .u64 ((max (E.top (E.left e)) ((xs26 3).n 0) : Nat) : Int)], .store 0 [.o 3, .o 3] [(φ20 4), (φ20 4)]]), (fun φ27 xs27 => [.agg #[.int .u64 (((xs20 1).n 0 : Nat) : Int), .pointer ((xs20 1).p 0)], .int .u64 ((E.top (E.left e) : Nat) : Int), .agg #[.int .u64 (((xs26 3).n 0 : Nat) : Int), .pointer ((xs26 3).p 0)], .int .u64 (((xs26 3).n 0 : Nat) : Int), .int .u64 ((max (E.top (E.left e)) ((xs26 3).n 0) : Nat) : Int), .agg #[.int .u64 ((max (E.top (E.left e)) ((xs26 3).n 0) : Nat) : Int), .pointer none], undef]), (fun φ27 xs27 => [[((φ1 0), .cells #[.bool ib, .pointer ip] 62), ((φ1 1), .cells #[.int .u64 ((eb : Nat) : Int), .pointer ep] 27), ((φ1 2), .cells #[.int .u64 0, .pointer none] 27), ((φ20 4), .cells #[.int .u64 (((xs20 1).n 0 : Nat) : Int), .pointer ((xs20 1).p 0)] 27), ((φ20 5), .cells #[.int .u64 (((xs26 3).n 0 : Nat) : Int), .pointer ((xs26 3).p 0)] 27)], [((φ1 0), .cells #[.bool ib, .pointer ip] 62), ((φ1 1), .cells #[.int .u64 ((eb : Nat) : Int), .pointer ep] 27), ((φ1 2), .cells #[.int .u64 0, .pointer none] 27), ((φ20 4), .cells #[.int .u64 ((max (E.top (E.left e)) ((xs26 3).n 0) : Nat) : Int), .pointer none] 27), ((φ20 5), .cells #[.int .u64 (((xs26 3).n 0 : Nat) : Int), .pointer ((xs26 3).p 0)] 27)]]), (fun φ27 xs27 => [[default, default, default, default, default, default, default], [default, default, default, default, default, default, default]]), [6], [1, 3, 1, 3, 5, 3, 4]⟩ (fun j => ([MP.any, MP.any, MP.any, MP.any, MP.any, MP.any, MP.any] : List MP).getD j MP.any) [1, 3, 5] [4] [] (fun φ27 xs27 => [[none, none, none, none, none, none, none]]) (fun φ27 xs27 => [(39, .agg #[.int .u64 (((xs20 1).n 0 : Nat) : Int), .pointer ((xs20 1).p 0)]), (40, .int .u64 ((E.top (E.left e) : Nat) : Int)), (41, .agg #[.int .u64 (((xs26 3).n 0 : Nat) : Int), .pointer ((xs26 3).p 0)]), (42, .int .u64 (((xs26 3).n 0 : Nat) : Int)), (43, .int .u64 ((max (E.top (E.left e)) ((xs26 3).n 0) : Nat) : Int)), (44, .agg #[.int .u64 ((max (E.top (E.left e)) ((xs26 3).n 0) : Nat) : Int), .pointer none])]) (fun φ27 xs27 => [((φ1 0), .cells #[.bool ib, .pointer ip] 62), ((φ1 1), .cells #[.int .u64 ((eb : Nat) : Int), .pointer ep] 27), ((φ1 2), .cells #[.int .u64 0, .pointer none] 27), ((φ20 4), .cells #[.int .u64 ((max (E.top (E.left e)) ((xs26 3).n 0) : Nat) : Int), .pointer none] 27), ((φ20 5), .cells #[.int .u64 (((xs26 3).n 0 : Nat) : Int), .pointer ((xs26 3).p 0)] 27)]) s trivial (by kernel_rfl) (by kernel_rfl) (fun _ _ => by kernel_rfl) (fun _ _ => by kernel_rfl) ⟨fun _ _ => by kernel_rfl, fun _ _ => by kernel_rfl, fun _ _ => by kernel_rfl, fun _ _ => by kernel_rfl⟩ (fun _ _ _ => by kernel_rfl) (fun _ _ => by kernel_rfl) (fun _ _ => by kernel_rfl) (fun _ _ => by kernel_rfl) (fun _ _ => by kernel_rfl) (fun _ _ => by kernel_rfl) ⟨kcast (A := ∀ (φ27 : Nat → Nat) (xs27 : Xs), (.int .u64 (if (((xs26 3).n 0 : Nat) : Int) > ((E.top (E.left e) : Nat) : Int) then (((xs26 3).n 0 : Nat) : Int) else ((E.top (E.left e) : Nat) : Int)) : Value) = .int .u64 ((max (E.top (E.left e)) ((xs26 3).n 0) : Nat) : Int)) (by kernel_rfl) (fun φ27 xs27 => congrArg (Value.int .u64) ((nat_max (a := (E.top (E.left e))) (b := ((xs26 3).n 0))))), trivial⟩ trivial ⟨?c27_1, ?c27_3, ?c27_5, trivial⟩ ?k27
              case c27_1 =>
                refine kcast (A := ∀ (φ27 : Nat → Nat) (xs27 : Xs) (J1_27 : IM), I26.Le J1_27 → Fun Tryd.prog 34 #[.agg #[.int .u64 (((xs20 1).n 0 : Nat) : Int), .pointer ((xs20 1).p 0)]] J1_27 (fun v J' => ∃ x : UX, v = .int .u64 ((E.top (E.left e) : Nat) : Int) ∧ (True))) (by kernel_rfl) ?_
                intro φ27 xs27 J1_27 leJ
                have h20_1_0 := ERep.mono leJ h20_1_0
                exact Fun.mono (max_c h20_1_0 (by omega)) (fun v J' _ h => ⟨UX.d, h, trivial⟩)
              case c27_3 =>
                refine kcast (A := ∀ (φ27 : Nat → Nat) (xs27 : Xs) (J3_27 : IM), I26.Le J3_27 → (True) → Fun Tryd.prog 72 #[.agg #[.int .u64 (((xs26 3).n 0 : Nat) : Int), .pointer ((xs26 3).p 0)]] J3_27 (fun v J' => ∃ x : UX, v = .int .u64 (((xs26 3).n 0 : Nat) : Int) ∧ (True))) (by kernel_rfl) ?_
                intro φ27 xs27 J3_27 leJ
                rintro _
                have h26_3_0 := ERep.mono leJ h26_3_0
                exact Fun.mono (min_c h26_3_0) (fun v J' _ h => ⟨UX.d, h, trivial⟩)
              case c27_5 =>
                refine kcast (A := ∀ (φ27 : Nat → Nat) (xs27 : Xs) (J5_27 : IM), I26.Le J5_27 → (True) → (True) → Fun Tryd.prog 91 #[.int .u64 ((max (E.top (E.left e)) ((xs26 3).n 0) : Nat) : Int)] J5_27 (fun v J' => ∃ x : UX, v = .agg #[.int .u64 ((max (E.top (E.left e)) ((xs26 3).n 0) : Nat) : Int), .pointer none] ∧ (True))) (by kernel_rfl) ?_
                intro φ27 xs27 J5_27 leJ
                rintro _ _
                have he := ERep.mono leJ he
                have h26_3_0 := ERep.mono leJ h26_3_0
                exact Fun.mono (sleaf_c (n := (max (E.top (E.left e)) ((xs26 3).n 0))) (by have := ERep.base h26_3_0; have hn := hnd hc11; have hbe := ERep.base he; (try simp only [E.top_leaf, E.depth_leaf]); omega)) (fun v J' _ h => ⟨UX.d, h, trivial⟩)
              case k27 =>
                rintro φ27 xs27 I27 w27 le27 s _ _ _
                replace hi := TRep.mono le27 hi
                replace he := ERep.mono le27 he
                replace h20_1_0 := ERep.mono le27 h20_1_0
                replace h20_3_0 := ERep.mono le27 h20_3_0
                replace h22_0 := TRep.mono le27 h22_0
                replace h26_1_0 := TRep.mono le27 h26_1_0
                replace h26_3_0 := ERep.mono le27 h26_3_0
                refine wp_seq ?_
                refine draw_rule (C := []) ⟨(fun φ28 xs28 => [.look 0 [.o 1, .o 1] [(φ1 1), (φ1 1)], .call 37 #[.agg #[.int .u64 ((eb : Nat) : Int), .pointer ep]], .look 0 [.o 3, .o 3] [(φ20 4), (φ20 4)], .look 0 [.o 4, .o 4] [(φ20 5), (φ20 5)], .call 18 #[.int .u64 ((eb : Nat) : Int), .agg #[.int .u64 ((max (E.top (E.left e)) ((xs26 3).n 0) : Nat) : Int), .pointer none], .agg #[.int .u64 (((xs26 3).n 0 : Nat) : Int), .pointer ((xs26 3).p 0)]], .look 0 [] [], .look 0 [] [], .look 0 [] [], .store 0 [.o 1, .o 1] [(φ1 1), (φ1 1)]]), (fun φ28 xs28 => [.agg #[.int .u64 ((eb : Nat) : Int), .pointer ep], .int .u64 ((eb : Nat) : Int), .agg #[.int .u64 ((max (E.top (E.left e)) ((xs26 3).n 0) : Nat) : Int), .pointer none], .agg #[.int .u64 (((xs26 3).n 0 : Nat) : Int), .pointer ((xs26 3).p 0)], .tuple #[.agg #[.int .u64 (((xs28 4).n 0 : Nat) : Int), .pointer ((xs28 4).p 0)], .int .i64 0], .tuple #[.agg #[.int .u64 (((xs28 4).n 0 : Nat) : Int), .pointer ((xs28 4).p 0)], .int .i64 0], .agg #[.int .u64 (((xs28 4).n 0 : Nat) : Int), .pointer ((xs28 4).p 0)], .int .i64 0, undef]), (fun φ28 xs28 => [[((φ1 0), .cells #[.bool ib, .pointer ip] 62), ((φ1 1), .cells #[.int .u64 ((eb : Nat) : Int), .pointer ep] 27), ((φ1 2), .cells #[.int .u64 0, .pointer none] 27), ((φ20 4), .cells #[.int .u64 ((max (E.top (E.left e)) ((xs26 3).n 0) : Nat) : Int), .pointer none] 27), ((φ20 5), .cells #[.int .u64 (((xs26 3).n 0 : Nat) : Int), .pointer ((xs26 3).p 0)] 27)], [((φ1 0), .cells #[.bool ib, .pointer ip] 62), ((φ1 1), .cells #[.int .u64 (((xs28 4).n 0 : Nat) : Int), .pointer ((xs28 4).p 0)] 27), ((φ1 2), .cells #[.int .u64 0, .pointer none] 27), ((φ20 4), .cells #[.int .u64 ((max (E.top (E.left e)) ((xs26 3).n 0) : Nat) : Int), .pointer none] 27), ((φ20 5), .cells #[.int .u64 (((xs26 3).n 0 : Nat) : Int), .pointer ((xs26 3).p 0)] 27)]]), (fun φ28 xs28 => [[default, default, default, default, default, default, default, default, default], [default, default, default, default, default, default, default, default, default]]), [8], [1, 3, 1, 1, 3, 1, 1, 1, 4]⟩ (fun j => ([MP.any, MP.any, MP.any, MP.any, ⟨fun x J => ERep J (E.mk eb (E.leaf (max (E.top (E.left e)) ((xs26 3).n 0))) FR) (x.n 0) (x.p 0), fun le h => ERep.mono le h⟩, MP.any, MP.any, MP.any, MP.any] : List MP).getD j MP.any) [1, 4] [] [] (fun φ28 xs28 => [[none, none, none, none, none, none, none, none, none]]) (fun φ28 xs28 => [(60, .agg #[.int .u64 ((eb : Nat) : Int), .pointer ep]), (61, .int .u64 ((eb : Nat) : Int)), (62, .agg #[.int .u64 ((max (E.top (E.left e)) ((xs26 3).n 0) : Nat) : Int), .pointer none]), (63, .agg #[.int .u64 (((xs26 3).n 0 : Nat) : Int), .pointer ((xs26 3).p 0)]), (64, .tuple #[.agg #[.int .u64 (((xs28 4).n 0 : Nat) : Int), .pointer ((xs28 4).p 0)], .int .i64 0]), (59, .tuple #[.agg #[.int .u64 (((xs28 4).n 0 : Nat) : Int), .pointer ((xs28 4).p 0)], .int .i64 0]), (65, .agg #[.int .u64 (((xs28 4).n 0 : Nat) : Int), .pointer ((xs28 4).p 0)]), (66, .int .i64 0)]) (fun φ28 xs28 => [((φ1 0), .cells #[.bool ib, .pointer ip] 62), ((φ1 1), .cells #[.int .u64 (((xs28 4).n 0 : Nat) : Int), .pointer ((xs28 4).p 0)] 27), ((φ1 2), .cells #[.int .u64 0, .pointer none] 27), ((φ20 4), .cells #[.int .u64 ((max (E.top (E.left e)) ((xs26 3).n 0) : Nat) : Int), .pointer none] 27), ((φ20 5), .cells #[.int .u64 (((xs26 3).n 0 : Nat) : Int), .pointer ((xs26 3).p 0)] 27)]) s trivial (by kernel_rfl) (by kernel_rfl) (fun _ _ => by kernel_rfl) (fun _ _ => by kernel_rfl) ⟨fun _ _ => by kernel_rfl, fun _ _ => by kernel_rfl, fun _ _ => by kernel_rfl, fun _ _ => by kernel_rfl⟩ (fun _ _ _ => by kernel_rfl) (fun _ _ => by kernel_rfl) (fun _ _ => by kernel_rfl) (fun _ _ => by kernel_rfl) (fun _ _ => by kernel_rfl) (fun _ _ => by kernel_rfl) trivial trivial ⟨?c28_1, ?c28_4, trivial⟩ ?k28
                case c28_1 =>
                  refine kcast (A := ∀ (φ28 : Nat → Nat) (xs28 : Xs) (J1_28 : IM), I27.Le J1_28 → Fun Tryd.prog 37 #[.agg #[.int .u64 ((eb : Nat) : Int), .pointer ep]] J1_28 (fun v J' => ∃ x : UX, v = .int .u64 ((eb : Nat) : Int) ∧ (True))) (by kernel_rfl) ?_
                  intro φ28 xs28 J1_28 leJ
                  have he := ERep.mono leJ he
                  exact Fun.mono (base_c he) (fun v J' _ h => ⟨UX.d, h, trivial⟩)
                case c28_4 =>
                  refine kcast (A := ∀ (φ28 : Nat → Nat) (xs28 : Xs) (J4_28 : IM), I27.Le J4_28 → (True) → Fun Tryd.prog 18 #[.int .u64 ((eb : Nat) : Int), .agg #[.int .u64 ((max (E.top (E.left e)) ((xs26 3).n 0) : Nat) : Int), .pointer none], .agg #[.int .u64 (((xs26 3).n 0 : Nat) : Int), .pointer ((xs26 3).p 0)]] J4_28 (fun v J' => ∃ x : UX, v = .tuple #[.agg #[.int .u64 ((x.n 0 : Nat) : Int), .pointer (x.p 0)], .int .i64 0] ∧ (ERep J' (E.mk eb (E.leaf (max (E.top (E.left e)) ((xs26 3).n 0))) FR) (x.n 0) (x.p 0)))) (by kernel_rfl) ?_
                  intro φ28 xs28 J4_28 leJ
                  rintro _
                  have he := ERep.mono leJ he
                  have h26_3_0 := ERep.mono leJ h26_3_0
                  exact Fun.mono (nodeOk_c (n := eb) (ERep.lf _ (max (E.top (E.left e)) ((xs26 3).n 0))) h26_3_0 (by have := ERep.base h26_3_0; have hn := hnd hc11; have hbe := ERep.base he; (try simp only [E.top_leaf, E.depth_leaf]); omega) (by have := ERep.base h26_3_0; have hn := hnd hc11; have hbe := ERep.base he; (try simp only [E.top_leaf, E.depth_leaf]); omega) (by have := ERep.base h26_3_0; have hn := hnd hc11; have hbe := ERep.base he; (try simp only [E.top_leaf, E.depth_leaf]); omega)) (fun v J' _ ⟨y0, y1, hv, g0⟩ => ⟨{ UX.d with n := fun j => y0, p := fun j => y1 }, hv, g0⟩)
                case k28 =>
                  rintro φ28 xs28 I28 w28 le28 s _ h28_4_0
                  replace hi := TRep.mono le28 hi
                  replace he := ERep.mono le28 he
                  replace h20_1_0 := ERep.mono le28 h20_1_0
                  replace h20_3_0 := ERep.mono le28 h20_3_0
                  replace h22_0 := TRep.mono le28 h22_0
                  replace h26_1_0 := TRep.mono le28 h26_1_0
                  replace h26_3_0 := ERep.mono le28 h26_3_0
                  refine wp_seq ?_
                  refine region_rule ?_
                  refine ops_rule (C := []) [((φ1 0), .cells #[.bool ib, .pointer ip] 62), ((φ1 1), .cells #[.int .u64 (((xs28 4).n 0 : Nat) : Int), .pointer ((xs28 4).p 0)] 27), ((φ1 2), .cells #[.int .u64 0, .pointer none] 27), ((φ20 4), .cells #[.int .u64 ((max (E.top (E.left e)) ((xs26 3).n 0) : Nat) : Int), .pointer none] 27), ((φ20 5), .cells #[.int .u64 (((xs26 3).n 0 : Nat) : Int), .pointer ((xs26 3).p 0)] 27)] [] 2 [.o 1, .o 1, .o 2, .o 2] 0 (fun φ29 => [(67, .agg #[.int .u64 (((xs28 4).n 0 : Nat) : Int), .pointer ((xs28 4).p 0)])]) (fun φ29 => [((φ1 0), .cells #[.bool ib, .pointer ip] 62), ((φ1 1), .cells #[.int .u64 (((xs28 4).n 0 : Nat) : Int), .pointer ((xs28 4).p 0)] 27), ((φ1 2), .cells #[.int .u64 (((xs28 4).n 0 : Nat) : Int), .pointer ((xs28 4).p 0)] 27), ((φ20 4), .cells #[.int .u64 ((max (E.top (E.left e)) ((xs26 3).n 0) : Nat) : Int), .pointer none] 27), ((φ20 5), .cells #[.int .u64 (((xs26 3).n 0 : Nat) : Int), .pointer ((xs26 3).p 0)] 27)]) (fun φ29 => [(φ1 1), (φ1 1), (φ1 2), (φ1 2)]) s trivial (fun φ29 => by kernel_rfl) ?_
                  intro φ29 w29 s
                  refine ops_done (by kernel_rfl) ?_
                  refine wp_ret ?_
                  refine ret_rule (C := []) [((φ1 0), .cells #[.bool ib, .pointer ip] 62), ((φ1 1), .cells #[.int .u64 (((xs28 4).n 0 : Nat) : Int), .pointer ((xs28 4).p 0)] 27), ((φ1 2), .cells #[.int .u64 (((xs28 4).n 0 : Nat) : Int), .pointer ((xs28 4).p 0)] 27), ((φ20 4), .cells #[.int .u64 ((max (E.top (E.left e)) ((xs26 3).n 0) : Nat) : Int), .pointer none] 27), ((φ20 5), .cells #[.int .u64 (((xs26 3).n 0 : Nat) : Int), .pointer ((xs26 3).p 0)] 27)] [] (.agg #[.int .u64 (((xs28 4).n 0 : Nat) : Int), .pointer ((xs28 4).p 0)]) [.o 2, .o 2] [(φ1 2), (φ1 2)] s trivial (by kernel_rfl) ?_
                  simp only [hc5, hc11, hc15, hc25, ↓reduceIte, Bool.false_eq_true]
                  exact ⟨_, _, _, rfl, s, ⟨_, _, rfl, by first | exact h28_4_0 | (rw [← ERep.base he]; exact h28_4_0) | (rw [← ERep.base h26_3_0, ← ERep.base he]; exact h28_4_0) | (rw [← ERep.base h26_3_0]; exact h28_4_0)⟩⟩
          ·
            rw [hc25]
            refine cond_false_rule (b := false) (by kernel_rfl) rfl ?_
            refine wp_seq ?_
            refine region_rule ?_
            refine ops_rule (C := []) [((φ1 0), .cells #[.bool ib, .pointer ip] 62), ((φ1 1), .cells #[.int .u64 ((eb : Nat) : Int), .pointer ep] 27), ((φ1 2), .cells #[.int .u64 0, .pointer none] 27), ((φ20 4), .cells #[.int .u64 (((xs20 1).n 0 : Nat) : Int), .pointer ((xs20 1).p 0)] 27), ((φ20 5), .cells #[.int .u64 (((xs20 3).n 0 : Nat) : Int), .pointer ((xs20 3).p 0)] 27)] [] 1 [.o 0, .o 0] 0 (fun φ30 => [(46, .agg #[.bool ib, .pointer ip])]) (fun φ30 => [((φ1 0), .cells #[.bool ib, .pointer ip] 62), ((φ1 1), .cells #[.int .u64 ((eb : Nat) : Int), .pointer ep] 27), ((φ1 2), .cells #[.int .u64 0, .pointer none] 27), ((φ20 4), .cells #[.int .u64 (((xs20 1).n 0 : Nat) : Int), .pointer ((xs20 1).p 0)] 27), ((φ20 5), .cells #[.int .u64 (((xs20 3).n 0 : Nat) : Int), .pointer ((xs20 3).p 0)] 27)]) (fun φ30 => [(φ1 0), (φ1 0)]) s trivial (fun φ30 => by kernel_rfl) ?_
            intro φ30 w30 s
            refine call_rule (some 47) s (tright_c hi) (by kernel_rfl) ?_
            intro v31 I31 w31 le31 h31 s
            replace hi := TRep.mono le31 hi
            replace he := ERep.mono le31 he
            replace h20_1_0 := ERep.mono le31 h20_1_0
            replace h20_3_0 := ERep.mono le31 h20_3_0
            replace h22_0 := TRep.mono le31 h22_0
            obtain ⟨b31, p31, rfl, h31_0⟩ := h31
            refine call_rule (some 48) s (isOne_c h31_0) (by kernel_rfl) ?_
            intro v32 I32 w32 le32 h32 s
            replace hi := TRep.mono le32 hi
            replace he := ERep.mono le32 he
            replace h20_1_0 := ERep.mono le32 h20_1_0
            replace h20_3_0 := ERep.mono le32 h20_3_0
            replace h22_0 := TRep.mono le32 h22_0
            replace h31_0 := TRep.mono le32 h31_0
            obtain rfl := h32
            refine ops_rule (C := []) [((φ1 0), .cells #[.bool ib, .pointer ip] 62), ((φ1 1), .cells #[.int .u64 ((eb : Nat) : Int), .pointer ep] 27), ((φ1 2), .cells #[.int .u64 0, .pointer none] 27), ((φ20 4), .cells #[.int .u64 (((xs20 1).n 0 : Nat) : Int), .pointer ((xs20 1).p 0)] 27), ((φ20 5), .cells #[.int .u64 (((xs20 3).n 0 : Nat) : Int), .pointer ((xs20 3).p 0)] 27)] [] 1 [] 0 (fun φ33 => [(45, .bool (T.isOne (T.right i)))]) (fun φ33 => [((φ1 0), .cells #[.bool ib, .pointer ip] 62), ((φ1 1), .cells #[.int .u64 ((eb : Nat) : Int), .pointer ep] 27), ((φ1 2), .cells #[.int .u64 0, .pointer none] 27), ((φ20 4), .cells #[.int .u64 (((xs20 1).n 0 : Nat) : Int), .pointer ((xs20 1).p 0)] 27), ((φ20 5), .cells #[.int .u64 (((xs20 3).n 0 : Nat) : Int), .pointer ((xs20 3).p 0)] 27)]) (fun φ33 => []) s trivial (fun φ33 => by kernel_rfl) ?_
            intro φ33 w33 s
            refine ops_done (by kernel_rfl) ?_
            rcases Bool.eq_false_or_eq_true (T.isOne (T.right i)) with hc34 | hc34
            ·
              rw [hc34]
              refine cond_true_rule (b := true) (by kernel_rfl) rfl ?_
              refine wp_seq ?_
              refine draw_rule (C := []) ⟨(fun φ35 xs35 => [.look 0 [.o 0, .o 0] [(φ1 0), (φ1 0)], .call 92 #[.agg #[.bool ib, .pointer ip]], .look 0 [.o 3, .o 3] [(φ20 4), (φ20 4)], .call 53 #[.agg #[.bool ((xs35 1).b 0), .pointer ((xs35 1).p 0)], .agg #[.int .u64 (((xs20 1).n 0 : Nat) : Int), .pointer ((xs20 1).p 0)]], .store 0 [.o 3, .o 3] [(φ20 4), (φ20 4)]]), (fun φ35 xs35 => [.agg #[.bool ib, .pointer ip], .agg #[.bool ((xs35 1).b 0), .pointer ((xs35 1).p 0)], .agg #[.int .u64 (((xs20 1).n 0 : Nat) : Int), .pointer ((xs20 1).p 0)], .agg #[.int .u64 (((xs35 3).n 0 : Nat) : Int), .pointer ((xs35 3).p 0)], undef]), (fun φ35 xs35 => [[((φ1 0), .cells #[.bool ib, .pointer ip] 62), ((φ1 1), .cells #[.int .u64 ((eb : Nat) : Int), .pointer ep] 27), ((φ1 2), .cells #[.int .u64 0, .pointer none] 27), ((φ20 4), .cells #[.int .u64 (((xs20 1).n 0 : Nat) : Int), .pointer ((xs20 1).p 0)] 27), ((φ20 5), .cells #[.int .u64 (((xs20 3).n 0 : Nat) : Int), .pointer ((xs20 3).p 0)] 27)], [((φ1 0), .cells #[.bool ib, .pointer ip] 62), ((φ1 1), .cells #[.int .u64 ((eb : Nat) : Int), .pointer ep] 27), ((φ1 2), .cells #[.int .u64 0, .pointer none] 27), ((φ20 4), .cells #[.int .u64 (((xs35 3).n 0 : Nat) : Int), .pointer ((xs35 3).p 0)] 27), ((φ20 5), .cells #[.int .u64 (((xs20 3).n 0 : Nat) : Int), .pointer ((xs20 3).p 0)] 27)]]), (fun φ35 xs35 => [[default, default, default, default, default], [default, default, default, default, default]]), [4], [1, 3, 1, 3, 4]⟩ (fun j => ([MP.any, ⟨fun x J => TRep J (T.left i) (x.b 0) (x.p 0), fun le h => TRep.mono le h⟩, MP.any, ⟨fun x J => ERep J FL (x.n 0) (x.p 0), fun le h => ERep.mono le h⟩, MP.any] : List MP).getD j MP.any) [1, 3] [] [] (fun φ35 xs35 => [[none, none, none, none, none]]) (fun φ35 xs35 => [(49, .agg #[.bool ib, .pointer ip]), (50, .agg #[.bool ((xs35 1).b 0), .pointer ((xs35 1).p 0)]), (51, .agg #[.int .u64 (((xs20 1).n 0 : Nat) : Int), .pointer ((xs20 1).p 0)]), (52, .agg #[.int .u64 (((xs35 3).n 0 : Nat) : Int), .pointer ((xs35 3).p 0)])]) (fun φ35 xs35 => [((φ1 0), .cells #[.bool ib, .pointer ip] 62), ((φ1 1), .cells #[.int .u64 ((eb : Nat) : Int), .pointer ep] 27), ((φ1 2), .cells #[.int .u64 0, .pointer none] 27), ((φ20 4), .cells #[.int .u64 (((xs35 3).n 0 : Nat) : Int), .pointer ((xs35 3).p 0)] 27), ((φ20 5), .cells #[.int .u64 (((xs20 3).n 0 : Nat) : Int), .pointer ((xs20 3).p 0)] 27)]) s trivial (by kernel_rfl) (by kernel_rfl) (fun _ _ => by kernel_rfl) (fun _ _ => by kernel_rfl) ⟨fun _ _ => by kernel_rfl, fun _ _ => by kernel_rfl, fun _ _ => by kernel_rfl, fun _ _ => by kernel_rfl⟩ (fun _ _ _ => by kernel_rfl) (fun _ _ => by kernel_rfl) (fun _ _ => by kernel_rfl) (fun _ _ => by kernel_rfl) (fun _ _ => by kernel_rfl) (fun _ _ => by kernel_rfl) trivial trivial ⟨?c35_1, ?c35_3, trivial⟩ ?k35
              case c35_1 =>
                refine kcast (A := ∀ (φ35 : Nat → Nat) (xs35 : Xs) (J1_35 : IM), I32.Le J1_35 → Fun Tryd.prog 92 #[.agg #[.bool ib, .pointer ip]] J1_35 (fun v J' => ∃ x : UX, v = .agg #[.bool (x.b 0), .pointer (x.p 0)] ∧ (TRep J' (T.left i) (x.b 0) (x.p 0)))) (by kernel_rfl) ?_
                intro φ35 xs35 J1_35 leJ
                have hi := TRep.mono leJ hi
                exact Fun.mono (tleft_c hi) (fun v J' _ ⟨y0, y1, hv, g0⟩ => ⟨{ UX.d with b := fun j => y0, p := fun j => y1 }, hv, g0⟩)
              case c35_3 =>
                refine kcast (A := ∀ (φ35 : Nat → Nat) (xs35 : Xs) (J3_35 : IM), I32.Le J3_35 → (TRep J3_35 (T.left i) ((xs35 1).b 0) ((xs35 1).p 0)) → Fun Tryd.prog 53 #[.agg #[.bool ((xs35 1).b 0), .pointer ((xs35 1).p 0)], .agg #[.int .u64 (((xs20 1).n 0 : Nat) : Int), .pointer ((xs20 1).p 0)]] J3_35 (fun v J' => ∃ x : UX, v = .agg #[.int .u64 ((x.n 0 : Nat) : Int), .pointer (x.p 0)] ∧ (ERep J' FL (x.n 0) (x.p 0)))) (by kernel_rfl) ?_
                intro φ35 xs35 J3_35 leJ
                rintro h35_1_0
                have h20_1_0 := ERep.mono leJ h20_1_0
                exact Fun.mono (ihl hc11 h35_1_0 h20_1_0) (fun v J' _ ⟨y0, y1, hv, g0⟩ => ⟨{ UX.d with n := fun j => y0, p := fun j => y1 }, hv, g0⟩)
              case k35 =>
                rintro φ35 xs35 I35 w35 le35 s h35_1_0 h35_3_0
                replace hi := TRep.mono le35 hi
                replace he := ERep.mono le35 he
                replace h20_1_0 := ERep.mono le35 h20_1_0
                replace h20_3_0 := ERep.mono le35 h20_3_0
                replace h22_0 := TRep.mono le35 h22_0
                replace h31_0 := TRep.mono le35 h31_0
                refine draw_rule (C := []) ⟨(fun φ36 xs36 => [.look 0 [.o 4, .o 4] [(φ20 5), (φ20 5)], .call 34 #[.agg #[.int .u64 (((xs20 3).n 0 : Nat) : Int), .pointer ((xs20 3).p 0)]], .look 0 [.o 3, .o 3] [(φ20 4), (φ20 4)], .call 72 #[.agg #[.int .u64 (((xs35 3).n 0 : Nat) : Int), .pointer ((xs35 3).p 0)]], .sub 0 [] [] (.int .u64 (if (((xs35 3).n 0 : Nat) : Int) > ((E.top (E.right e) : Nat) : Int) then (((xs35 3).n 0 : Nat) : Int) else ((E.top (E.right e) : Nat) : Int))), .call 91 #[.int .u64 ((max (E.top (E.right e)) ((xs35 3).n 0) : Nat) : Int)], .store 0 [.o 4, .o 4] [(φ20 5), (φ20 5)]]), (fun φ36 xs36 => [.agg #[.int .u64 (((xs20 3).n 0 : Nat) : Int), .pointer ((xs20 3).p 0)], .int .u64 ((E.top (E.right e) : Nat) : Int), .agg #[.int .u64 (((xs35 3).n 0 : Nat) : Int), .pointer ((xs35 3).p 0)], .int .u64 (((xs35 3).n 0 : Nat) : Int), .int .u64 ((max (E.top (E.right e)) ((xs35 3).n 0) : Nat) : Int), .agg #[.int .u64 ((max (E.top (E.right e)) ((xs35 3).n 0) : Nat) : Int), .pointer none], undef]), (fun φ36 xs36 => [[((φ1 0), .cells #[.bool ib, .pointer ip] 62), ((φ1 1), .cells #[.int .u64 ((eb : Nat) : Int), .pointer ep] 27), ((φ1 2), .cells #[.int .u64 0, .pointer none] 27), ((φ20 4), .cells #[.int .u64 (((xs35 3).n 0 : Nat) : Int), .pointer ((xs35 3).p 0)] 27), ((φ20 5), .cells #[.int .u64 (((xs20 3).n 0 : Nat) : Int), .pointer ((xs20 3).p 0)] 27)], [((φ1 0), .cells #[.bool ib, .pointer ip] 62), ((φ1 1), .cells #[.int .u64 ((eb : Nat) : Int), .pointer ep] 27), ((φ1 2), .cells #[.int .u64 0, .pointer none] 27), ((φ20 4), .cells #[.int .u64 (((xs35 3).n 0 : Nat) : Int), .pointer ((xs35 3).p 0)] 27), ((φ20 5), .cells #[.int .u64 ((max (E.top (E.right e)) ((xs35 3).n 0) : Nat) : Int), .pointer none] 27)]]), (fun φ36 xs36 => [[default, default, default, default, default, default, default], [default, default, default, default, default, default, default]]), [6], [1, 3, 1, 3, 5, 3, 4]⟩ (fun j => ([MP.any, MP.any, MP.any, MP.any, MP.any, MP.any, MP.any] : List MP).getD j MP.any) [1, 3, 5] [4] [] (fun φ36 xs36 => [[none, none, none, none, none, none, none]]) (fun φ36 xs36 => [(53, .agg #[.int .u64 (((xs20 3).n 0 : Nat) : Int), .pointer ((xs20 3).p 0)]), (54, .int .u64 ((E.top (E.right e) : Nat) : Int)), (55, .agg #[.int .u64 (((xs35 3).n 0 : Nat) : Int), .pointer ((xs35 3).p 0)]), (56, .int .u64 (((xs35 3).n 0 : Nat) : Int)), (57, .int .u64 ((max (E.top (E.right e)) ((xs35 3).n 0) : Nat) : Int)), (58, .agg #[.int .u64 ((max (E.top (E.right e)) ((xs35 3).n 0) : Nat) : Int), .pointer none])]) (fun φ36 xs36 => [((φ1 0), .cells #[.bool ib, .pointer ip] 62), ((φ1 1), .cells #[.int .u64 ((eb : Nat) : Int), .pointer ep] 27), ((φ1 2), .cells #[.int .u64 0, .pointer none] 27), ((φ20 4), .cells #[.int .u64 (((xs35 3).n 0 : Nat) : Int), .pointer ((xs35 3).p 0)] 27), ((φ20 5), .cells #[.int .u64 ((max (E.top (E.right e)) ((xs35 3).n 0) : Nat) : Int), .pointer none] 27)]) s trivial (by kernel_rfl) (by kernel_rfl) (fun _ _ => by kernel_rfl) (fun _ _ => by kernel_rfl) ⟨fun _ _ => by kernel_rfl, fun _ _ => by kernel_rfl, fun _ _ => by kernel_rfl, fun _ _ => by kernel_rfl⟩ (fun _ _ _ => by kernel_rfl) (fun _ _ => by kernel_rfl) (fun _ _ => by kernel_rfl) (fun _ _ => by kernel_rfl) (fun _ _ => by kernel_rfl) (fun _ _ => by kernel_rfl) ⟨kcast (A := ∀ (φ36 : Nat → Nat) (xs36 : Xs), (.int .u64 (if (((xs35 3).n 0 : Nat) : Int) > ((E.top (E.right e) : Nat) : Int) then (((xs35 3).n 0 : Nat) : Int) else ((E.top (E.right e) : Nat) : Int)) : Value) = .int .u64 ((max (E.top (E.right e)) ((xs35 3).n 0) : Nat) : Int)) (by kernel_rfl) (fun φ36 xs36 => congrArg (Value.int .u64) ((nat_max (a := (E.top (E.right e))) (b := ((xs35 3).n 0))))), trivial⟩ trivial ⟨?c36_1, ?c36_3, ?c36_5, trivial⟩ ?k36
                case c36_1 =>
                  refine kcast (A := ∀ (φ36 : Nat → Nat) (xs36 : Xs) (J1_36 : IM), I35.Le J1_36 → Fun Tryd.prog 34 #[.agg #[.int .u64 (((xs20 3).n 0 : Nat) : Int), .pointer ((xs20 3).p 0)]] J1_36 (fun v J' => ∃ x : UX, v = .int .u64 ((E.top (E.right e) : Nat) : Int) ∧ (True))) (by kernel_rfl) ?_
                  intro φ36 xs36 J1_36 leJ
                  have h20_3_0 := ERep.mono leJ h20_3_0
                  exact Fun.mono (max_c h20_3_0 (by omega)) (fun v J' _ h => ⟨UX.d, h, trivial⟩)
                case c36_3 =>
                  refine kcast (A := ∀ (φ36 : Nat → Nat) (xs36 : Xs) (J3_36 : IM), I35.Le J3_36 → (True) → Fun Tryd.prog 72 #[.agg #[.int .u64 (((xs35 3).n 0 : Nat) : Int), .pointer ((xs35 3).p 0)]] J3_36 (fun v J' => ∃ x : UX, v = .int .u64 (((xs35 3).n 0 : Nat) : Int) ∧ (True))) (by kernel_rfl) ?_
                  intro φ36 xs36 J3_36 leJ
                  rintro _
                  have h35_3_0 := ERep.mono leJ h35_3_0
                  exact Fun.mono (min_c h35_3_0) (fun v J' _ h => ⟨UX.d, h, trivial⟩)
                case c36_5 =>
                  refine kcast (A := ∀ (φ36 : Nat → Nat) (xs36 : Xs) (J5_36 : IM), I35.Le J5_36 → (True) → (True) → Fun Tryd.prog 91 #[.int .u64 ((max (E.top (E.right e)) ((xs35 3).n 0) : Nat) : Int)] J5_36 (fun v J' => ∃ x : UX, v = .agg #[.int .u64 ((max (E.top (E.right e)) ((xs35 3).n 0) : Nat) : Int), .pointer none] ∧ (True))) (by kernel_rfl) ?_
                  intro φ36 xs36 J5_36 leJ
                  rintro _ _
                  have he := ERep.mono leJ he
                  have h35_3_0 := ERep.mono leJ h35_3_0
                  exact Fun.mono (sleaf_c (n := (max (E.top (E.right e)) ((xs35 3).n 0))) (by have := ERep.base h35_3_0; have hn := hnd hc11; have hbe := ERep.base he; (try simp only [E.top_leaf, E.depth_leaf]); omega)) (fun v J' _ h => ⟨UX.d, h, trivial⟩)
                case k36 =>
                  rintro φ36 xs36 I36 w36 le36 s _ _ _
                  replace hi := TRep.mono le36 hi
                  replace he := ERep.mono le36 he
                  replace h20_1_0 := ERep.mono le36 h20_1_0
                  replace h20_3_0 := ERep.mono le36 h20_3_0
                  replace h22_0 := TRep.mono le36 h22_0
                  replace h31_0 := TRep.mono le36 h31_0
                  replace h35_1_0 := TRep.mono le36 h35_1_0
                  replace h35_3_0 := ERep.mono le36 h35_3_0
                  refine wp_seq ?_
                  refine draw_rule (C := []) ⟨(fun φ37 xs37 => [.look 0 [.o 1, .o 1] [(φ1 1), (φ1 1)], .call 37 #[.agg #[.int .u64 ((eb : Nat) : Int), .pointer ep]], .look 0 [.o 3, .o 3] [(φ20 4), (φ20 4)], .look 0 [.o 4, .o 4] [(φ20 5), (φ20 5)], .call 18 #[.int .u64 ((eb : Nat) : Int), .agg #[.int .u64 (((xs35 3).n 0 : Nat) : Int), .pointer ((xs35 3).p 0)], .agg #[.int .u64 ((max (E.top (E.right e)) ((xs35 3).n 0) : Nat) : Int), .pointer none]], .look 0 [] [], .look 0 [] [], .look 0 [] [], .store 0 [.o 1, .o 1] [(φ1 1), (φ1 1)]]), (fun φ37 xs37 => [.agg #[.int .u64 ((eb : Nat) : Int), .pointer ep], .int .u64 ((eb : Nat) : Int), .agg #[.int .u64 (((xs35 3).n 0 : Nat) : Int), .pointer ((xs35 3).p 0)], .agg #[.int .u64 ((max (E.top (E.right e)) ((xs35 3).n 0) : Nat) : Int), .pointer none], .tuple #[.agg #[.int .u64 (((xs37 4).n 0 : Nat) : Int), .pointer ((xs37 4).p 0)], .int .i64 0], .tuple #[.agg #[.int .u64 (((xs37 4).n 0 : Nat) : Int), .pointer ((xs37 4).p 0)], .int .i64 0], .agg #[.int .u64 (((xs37 4).n 0 : Nat) : Int), .pointer ((xs37 4).p 0)], .int .i64 0, undef]), (fun φ37 xs37 => [[((φ1 0), .cells #[.bool ib, .pointer ip] 62), ((φ1 1), .cells #[.int .u64 ((eb : Nat) : Int), .pointer ep] 27), ((φ1 2), .cells #[.int .u64 0, .pointer none] 27), ((φ20 4), .cells #[.int .u64 (((xs35 3).n 0 : Nat) : Int), .pointer ((xs35 3).p 0)] 27), ((φ20 5), .cells #[.int .u64 ((max (E.top (E.right e)) ((xs35 3).n 0) : Nat) : Int), .pointer none] 27)], [((φ1 0), .cells #[.bool ib, .pointer ip] 62), ((φ1 1), .cells #[.int .u64 (((xs37 4).n 0 : Nat) : Int), .pointer ((xs37 4).p 0)] 27), ((φ1 2), .cells #[.int .u64 0, .pointer none] 27), ((φ20 4), .cells #[.int .u64 (((xs35 3).n 0 : Nat) : Int), .pointer ((xs35 3).p 0)] 27), ((φ20 5), .cells #[.int .u64 ((max (E.top (E.right e)) ((xs35 3).n 0) : Nat) : Int), .pointer none] 27)]]), (fun φ37 xs37 => [[default, default, default, default, default, default, default, default, default], [default, default, default, default, default, default, default, default, default]]), [8], [1, 3, 1, 1, 3, 1, 1, 1, 4]⟩ (fun j => ([MP.any, MP.any, MP.any, MP.any, ⟨fun x J => ERep J (E.mk eb FL (E.leaf (max (E.top (E.right e)) ((xs35 3).n 0)))) (x.n 0) (x.p 0), fun le h => ERep.mono le h⟩, MP.any, MP.any, MP.any, MP.any] : List MP).getD j MP.any) [1, 4] [] [] (fun φ37 xs37 => [[none, none, none, none, none, none, none, none, none]]) (fun φ37 xs37 => [(60, .agg #[.int .u64 ((eb : Nat) : Int), .pointer ep]), (61, .int .u64 ((eb : Nat) : Int)), (62, .agg #[.int .u64 (((xs35 3).n 0 : Nat) : Int), .pointer ((xs35 3).p 0)]), (63, .agg #[.int .u64 ((max (E.top (E.right e)) ((xs35 3).n 0) : Nat) : Int), .pointer none]), (64, .tuple #[.agg #[.int .u64 (((xs37 4).n 0 : Nat) : Int), .pointer ((xs37 4).p 0)], .int .i64 0]), (59, .tuple #[.agg #[.int .u64 (((xs37 4).n 0 : Nat) : Int), .pointer ((xs37 4).p 0)], .int .i64 0]), (65, .agg #[.int .u64 (((xs37 4).n 0 : Nat) : Int), .pointer ((xs37 4).p 0)]), (66, .int .i64 0)]) (fun φ37 xs37 => [((φ1 0), .cells #[.bool ib, .pointer ip] 62), ((φ1 1), .cells #[.int .u64 (((xs37 4).n 0 : Nat) : Int), .pointer ((xs37 4).p 0)] 27), ((φ1 2), .cells #[.int .u64 0, .pointer none] 27), ((φ20 4), .cells #[.int .u64 (((xs35 3).n 0 : Nat) : Int), .pointer ((xs35 3).p 0)] 27), ((φ20 5), .cells #[.int .u64 ((max (E.top (E.right e)) ((xs35 3).n 0) : Nat) : Int), .pointer none] 27)]) s trivial (by kernel_rfl) (by kernel_rfl) (fun _ _ => by kernel_rfl) (fun _ _ => by kernel_rfl) ⟨fun _ _ => by kernel_rfl, fun _ _ => by kernel_rfl, fun _ _ => by kernel_rfl, fun _ _ => by kernel_rfl⟩ (fun _ _ _ => by kernel_rfl) (fun _ _ => by kernel_rfl) (fun _ _ => by kernel_rfl) (fun _ _ => by kernel_rfl) (fun _ _ => by kernel_rfl) (fun _ _ => by kernel_rfl) trivial trivial ⟨?c37_1, ?c37_4, trivial⟩ ?k37
                  case c37_1 =>
                    refine kcast (A := ∀ (φ37 : Nat → Nat) (xs37 : Xs) (J1_37 : IM), I36.Le J1_37 → Fun Tryd.prog 37 #[.agg #[.int .u64 ((eb : Nat) : Int), .pointer ep]] J1_37 (fun v J' => ∃ x : UX, v = .int .u64 ((eb : Nat) : Int) ∧ (True))) (by kernel_rfl) ?_
                    intro φ37 xs37 J1_37 leJ
                    have he := ERep.mono leJ he
                    exact Fun.mono (base_c he) (fun v J' _ h => ⟨UX.d, h, trivial⟩)
                  case c37_4 =>
                    refine kcast (A := ∀ (φ37 : Nat → Nat) (xs37 : Xs) (J4_37 : IM), I36.Le J4_37 → (True) → Fun Tryd.prog 18 #[.int .u64 ((eb : Nat) : Int), .agg #[.int .u64 (((xs35 3).n 0 : Nat) : Int), .pointer ((xs35 3).p 0)], .agg #[.int .u64 ((max (E.top (E.right e)) ((xs35 3).n 0) : Nat) : Int), .pointer none]] J4_37 (fun v J' => ∃ x : UX, v = .tuple #[.agg #[.int .u64 ((x.n 0 : Nat) : Int), .pointer (x.p 0)], .int .i64 0] ∧ (ERep J' (E.mk eb FL (E.leaf (max (E.top (E.right e)) ((xs35 3).n 0)))) (x.n 0) (x.p 0)))) (by kernel_rfl) ?_
                    intro φ37 xs37 J4_37 leJ
                    rintro _
                    have he := ERep.mono leJ he
                    have h35_3_0 := ERep.mono leJ h35_3_0
                    exact Fun.mono (nodeOk_c (n := eb) h35_3_0 (ERep.lf _ (max (E.top (E.right e)) ((xs35 3).n 0))) (by have := ERep.base h35_3_0; have hn := hnd hc11; have hbe := ERep.base he; (try simp only [E.top_leaf, E.depth_leaf]); omega) (by have := ERep.base h35_3_0; have hn := hnd hc11; have hbe := ERep.base he; (try simp only [E.top_leaf, E.depth_leaf]); omega) (by have := ERep.base h35_3_0; have hn := hnd hc11; have hbe := ERep.base he; (try simp only [E.top_leaf, E.depth_leaf]); omega)) (fun v J' _ ⟨y0, y1, hv, g0⟩ => ⟨{ UX.d with n := fun j => y0, p := fun j => y1 }, hv, g0⟩)
                  case k37 =>
                    rintro φ37 xs37 I37 w37 le37 s _ h37_4_0
                    replace hi := TRep.mono le37 hi
                    replace he := ERep.mono le37 he
                    replace h20_1_0 := ERep.mono le37 h20_1_0
                    replace h20_3_0 := ERep.mono le37 h20_3_0
                    replace h22_0 := TRep.mono le37 h22_0
                    replace h31_0 := TRep.mono le37 h31_0
                    replace h35_1_0 := TRep.mono le37 h35_1_0
                    replace h35_3_0 := ERep.mono le37 h35_3_0
                    refine wp_seq ?_
                    refine region_rule ?_
                    refine ops_rule (C := []) [((φ1 0), .cells #[.bool ib, .pointer ip] 62), ((φ1 1), .cells #[.int .u64 (((xs37 4).n 0 : Nat) : Int), .pointer ((xs37 4).p 0)] 27), ((φ1 2), .cells #[.int .u64 0, .pointer none] 27), ((φ20 4), .cells #[.int .u64 (((xs35 3).n 0 : Nat) : Int), .pointer ((xs35 3).p 0)] 27), ((φ20 5), .cells #[.int .u64 ((max (E.top (E.right e)) ((xs35 3).n 0) : Nat) : Int), .pointer none] 27)] [] 2 [.o 1, .o 1, .o 2, .o 2] 0 (fun φ38 => [(67, .agg #[.int .u64 (((xs37 4).n 0 : Nat) : Int), .pointer ((xs37 4).p 0)])]) (fun φ38 => [((φ1 0), .cells #[.bool ib, .pointer ip] 62), ((φ1 1), .cells #[.int .u64 (((xs37 4).n 0 : Nat) : Int), .pointer ((xs37 4).p 0)] 27), ((φ1 2), .cells #[.int .u64 (((xs37 4).n 0 : Nat) : Int), .pointer ((xs37 4).p 0)] 27), ((φ20 4), .cells #[.int .u64 (((xs35 3).n 0 : Nat) : Int), .pointer ((xs35 3).p 0)] 27), ((φ20 5), .cells #[.int .u64 ((max (E.top (E.right e)) ((xs35 3).n 0) : Nat) : Int), .pointer none] 27)]) (fun φ38 => [(φ1 1), (φ1 1), (φ1 2), (φ1 2)]) s trivial (fun φ38 => by kernel_rfl) ?_
                    intro φ38 w38 s
                    refine ops_done (by kernel_rfl) ?_
                    refine wp_ret ?_
                    refine ret_rule (C := []) [((φ1 0), .cells #[.bool ib, .pointer ip] 62), ((φ1 1), .cells #[.int .u64 (((xs37 4).n 0 : Nat) : Int), .pointer ((xs37 4).p 0)] 27), ((φ1 2), .cells #[.int .u64 (((xs37 4).n 0 : Nat) : Int), .pointer ((xs37 4).p 0)] 27), ((φ20 4), .cells #[.int .u64 (((xs35 3).n 0 : Nat) : Int), .pointer ((xs35 3).p 0)] 27), ((φ20 5), .cells #[.int .u64 ((max (E.top (E.right e)) ((xs35 3).n 0) : Nat) : Int), .pointer none] 27)] [] (.agg #[.int .u64 (((xs37 4).n 0 : Nat) : Int), .pointer ((xs37 4).p 0)]) [.o 2, .o 2] [(φ1 2), (φ1 2)] s trivial (by kernel_rfl) ?_
                    simp only [hc5, hc11, hc15, hc25, hc34, ↓reduceIte, Bool.false_eq_true]
                    exact ⟨_, _, _, rfl, s, ⟨_, _, rfl, by first | exact h37_4_0 | (rw [← ERep.base he]; exact h37_4_0) | (rw [← ERep.base h35_3_0, ← ERep.base he]; exact h37_4_0) | (rw [← ERep.base h35_3_0]; exact h37_4_0)⟩⟩
            ·
              rw [hc34]
              refine cond_false_rule (b := false) (by kernel_rfl) rfl ?_
              refine draw_rule (C := []) ⟨(fun φ39 xs39 => [.look 0 [.o 0, .o 0] [(φ1 0), (φ1 0)], .call 92 #[.agg #[.bool ib, .pointer ip]], .look 0 [.o 3, .o 3] [(φ20 4), (φ20 4)], .call 53 #[.agg #[.bool ((xs39 1).b 0), .pointer ((xs39 1).p 0)], .agg #[.int .u64 (((xs20 1).n 0 : Nat) : Int), .pointer ((xs20 1).p 0)]], .look 0 [.o 0, .o 0] [(φ1 0), (φ1 0)], .call 93 #[.agg #[.bool ib, .pointer ip]], .look 0 [.o 4, .o 4] [(φ20 5), (φ20 5)], .call 53 #[.agg #[.bool ((xs39 5).b 0), .pointer ((xs39 5).p 0)], .agg #[.int .u64 (((xs20 3).n 0 : Nat) : Int), .pointer ((xs20 3).p 0)]], .store 0 [.o 3, .o 3] [(φ20 4), (φ20 4)], .store 1 [.o 4, .o 4] [(φ20 5), (φ20 5)]]), (fun φ39 xs39 => [.agg #[.bool ib, .pointer ip], .agg #[.bool ((xs39 1).b 0), .pointer ((xs39 1).p 0)], .agg #[.int .u64 (((xs20 1).n 0 : Nat) : Int), .pointer ((xs20 1).p 0)], .agg #[.int .u64 (((xs39 3).n 0 : Nat) : Int), .pointer ((xs39 3).p 0)], .agg #[.bool ib, .pointer ip], .agg #[.bool ((xs39 5).b 0), .pointer ((xs39 5).p 0)], .agg #[.int .u64 (((xs20 3).n 0 : Nat) : Int), .pointer ((xs20 3).p 0)], .agg #[.int .u64 (((xs39 7).n 0 : Nat) : Int), .pointer ((xs39 7).p 0)], undef, undef]), (fun φ39 xs39 => [[((φ1 0), .cells #[.bool ib, .pointer ip] 62), ((φ1 1), .cells #[.int .u64 ((eb : Nat) : Int), .pointer ep] 27), ((φ1 2), .cells #[.int .u64 0, .pointer none] 27), ((φ20 4), .cells #[.int .u64 (((xs20 1).n 0 : Nat) : Int), .pointer ((xs20 1).p 0)] 27), ((φ20 5), .cells #[.int .u64 (((xs20 3).n 0 : Nat) : Int), .pointer ((xs20 3).p 0)] 27)], [((φ1 0), .cells #[.bool ib, .pointer ip] 62), ((φ1 1), .cells #[.int .u64 ((eb : Nat) : Int), .pointer ep] 27), ((φ1 2), .cells #[.int .u64 0, .pointer none] 27), ((φ20 4), .cells #[.int .u64 (((xs39 3).n 0 : Nat) : Int), .pointer ((xs39 3).p 0)] 27), ((φ20 5), .cells #[.int .u64 (((xs20 3).n 0 : Nat) : Int), .pointer ((xs20 3).p 0)] 27)], [((φ1 0), .cells #[.bool ib, .pointer ip] 62), ((φ1 1), .cells #[.int .u64 ((eb : Nat) : Int), .pointer ep] 27), ((φ1 2), .cells #[.int .u64 0, .pointer none] 27), ((φ20 4), .cells #[.int .u64 (((xs39 3).n 0 : Nat) : Int), .pointer ((xs39 3).p 0)] 27), ((φ20 5), .cells #[.int .u64 (((xs39 7).n 0 : Nat) : Int), .pointer ((xs39 7).p 0)] 27)]]), (fun φ39 xs39 => [[default, default, default, default, default, default, default, default, default, default], [default, default, default, default, default, default, default, default, default, default], [default, default, default, default, default, default, default, default, default, default]]), [8, 9], [1, 3, 1, 3, 1, 3, 1, 3, 4, 4]⟩ (fun j => ([MP.any, ⟨fun x J => TRep J (T.left i) (x.b 0) (x.p 0), fun le h => TRep.mono le h⟩, MP.any, ⟨fun x J => ERep J FL (x.n 0) (x.p 0), fun le h => ERep.mono le h⟩, MP.any, ⟨fun x J => TRep J (T.right i) (x.b 0) (x.p 0), fun le h => TRep.mono le h⟩, MP.any, ⟨fun x J => ERep J FR (x.n 0) (x.p 0), fun le h => ERep.mono le h⟩, MP.any, MP.any] : List MP).getD j MP.any) [1, 3, 5, 7] [] [] (fun φ39 xs39 => [[none, none, none, none, none, none, none, none, none, none], [none, none, none, none, none, none, none, none, none, none]]) (fun φ39 xs39 => [(23, .agg #[.bool ib, .pointer ip]), (24, .agg #[.bool ((xs39 1).b 0), .pointer ((xs39 1).p 0)]), (25, .agg #[.int .u64 (((xs20 1).n 0 : Nat) : Int), .pointer ((xs20 1).p 0)]), (26, .agg #[.int .u64 (((xs39 3).n 0 : Nat) : Int), .pointer ((xs39 3).p 0)]), (27, .agg #[.bool ib, .pointer ip]), (28, .agg #[.bool ((xs39 5).b 0), .pointer ((xs39 5).p 0)]), (29, .agg #[.int .u64 (((xs20 3).n 0 : Nat) : Int), .pointer ((xs20 3).p 0)]), (30, .agg #[.int .u64 (((xs39 7).n 0 : Nat) : Int), .pointer ((xs39 7).p 0)])]) (fun φ39 xs39 => [((φ1 0), .cells #[.bool ib, .pointer ip] 62), ((φ1 1), .cells #[.int .u64 ((eb : Nat) : Int), .pointer ep] 27), ((φ1 2), .cells #[.int .u64 0, .pointer none] 27), ((φ20 4), .cells #[.int .u64 (((xs39 3).n 0 : Nat) : Int), .pointer ((xs39 3).p 0)] 27), ((φ20 5), .cells #[.int .u64 (((xs39 7).n 0 : Nat) : Int), .pointer ((xs39 7).p 0)] 27)]) s trivial (by kernel_rfl) (by kernel_rfl) (fun _ _ => by kernel_rfl) (fun _ _ => by kernel_rfl) ⟨fun _ _ => by kernel_rfl, fun _ _ => by kernel_rfl, fun _ _ => by kernel_rfl, fun _ _ => by kernel_rfl⟩ (fun _ _ _ => by kernel_rfl) (fun _ _ => by kernel_rfl) (fun _ _ => by kernel_rfl) (fun _ _ => by kernel_rfl) (fun _ _ => by kernel_rfl) (fun _ _ => by kernel_rfl) trivial trivial ⟨?c39_1, ?c39_3, ?c39_5, ?c39_7, trivial⟩ ?k39
              case c39_1 =>
                refine kcast (A := ∀ (φ39 : Nat → Nat) (xs39 : Xs) (J1_39 : IM), I32.Le J1_39 → Fun Tryd.prog 92 #[.agg #[.bool ib, .pointer ip]] J1_39 (fun v J' => ∃ x : UX, v = .agg #[.bool (x.b 0), .pointer (x.p 0)] ∧ (TRep J' (T.left i) (x.b 0) (x.p 0)))) (by kernel_rfl) ?_
                intro φ39 xs39 J1_39 leJ
                have hi := TRep.mono leJ hi
                exact Fun.mono (tleft_c hi) (fun v J' _ ⟨y0, y1, hv, g0⟩ => ⟨{ UX.d with b := fun j => y0, p := fun j => y1 }, hv, g0⟩)
              case c39_3 =>
                refine kcast (A := ∀ (φ39 : Nat → Nat) (xs39 : Xs) (J3_39 : IM), I32.Le J3_39 → (TRep J3_39 (T.left i) ((xs39 1).b 0) ((xs39 1).p 0)) → Fun Tryd.prog 53 #[.agg #[.bool ((xs39 1).b 0), .pointer ((xs39 1).p 0)], .agg #[.int .u64 (((xs20 1).n 0 : Nat) : Int), .pointer ((xs20 1).p 0)]] J3_39 (fun v J' => ∃ x : UX, v = .agg #[.int .u64 ((x.n 0 : Nat) : Int), .pointer (x.p 0)] ∧ (ERep J' FL (x.n 0) (x.p 0)))) (by kernel_rfl) ?_
                intro φ39 xs39 J3_39 leJ
                rintro h39_1_0
                have h20_1_0 := ERep.mono leJ h20_1_0
                exact Fun.mono (ihl hc11 h39_1_0 h20_1_0) (fun v J' _ ⟨y0, y1, hv, g0⟩ => ⟨{ UX.d with n := fun j => y0, p := fun j => y1 }, hv, g0⟩)
              case c39_5 =>
                refine kcast (A := ∀ (φ39 : Nat → Nat) (xs39 : Xs) (J5_39 : IM), I32.Le J5_39 → (TRep J5_39 (T.left i) ((xs39 1).b 0) ((xs39 1).p 0)) → (ERep J5_39 FL ((xs39 3).n 0) ((xs39 3).p 0)) → Fun Tryd.prog 93 #[.agg #[.bool ib, .pointer ip]] J5_39 (fun v J' => ∃ x : UX, v = .agg #[.bool (x.b 0), .pointer (x.p 0)] ∧ (TRep J' (T.right i) (x.b 0) (x.p 0)))) (by kernel_rfl) ?_
                intro φ39 xs39 J5_39 leJ
                rintro h39_1_0 h39_3_0
                have hi := TRep.mono leJ hi
                exact Fun.mono (tright_c hi) (fun v J' _ ⟨y0, y1, hv, g0⟩ => ⟨{ UX.d with b := fun j => y0, p := fun j => y1 }, hv, g0⟩)
              case c39_7 =>
                refine kcast (A := ∀ (φ39 : Nat → Nat) (xs39 : Xs) (J7_39 : IM), I32.Le J7_39 → (TRep J7_39 (T.left i) ((xs39 1).b 0) ((xs39 1).p 0)) → (ERep J7_39 FL ((xs39 3).n 0) ((xs39 3).p 0)) → (TRep J7_39 (T.right i) ((xs39 5).b 0) ((xs39 5).p 0)) → Fun Tryd.prog 53 #[.agg #[.bool ((xs39 5).b 0), .pointer ((xs39 5).p 0)], .agg #[.int .u64 (((xs20 3).n 0 : Nat) : Int), .pointer ((xs20 3).p 0)]] J7_39 (fun v J' => ∃ x : UX, v = .agg #[.int .u64 ((x.n 0 : Nat) : Int), .pointer (x.p 0)] ∧ (ERep J' FR (x.n 0) (x.p 0)))) (by kernel_rfl) ?_
                intro φ39 xs39 J7_39 leJ
                rintro h39_1_0 h39_3_0 h39_5_0
                have h20_3_0 := ERep.mono leJ h20_3_0
                exact Fun.mono (ihr hc11 h39_5_0 h20_3_0) (fun v J' _ ⟨y0, y1, hv, g0⟩ => ⟨{ UX.d with n := fun j => y0, p := fun j => y1 }, hv, g0⟩)
              case k39 =>
                rintro φ39 xs39 I39 w39 le39 s h39_1_0 h39_3_0 h39_5_0 h39_7_0
                replace hi := TRep.mono le39 hi
                replace he := ERep.mono le39 he
                replace h20_1_0 := ERep.mono le39 h20_1_0
                replace h20_3_0 := ERep.mono le39 h20_3_0
                replace h22_0 := TRep.mono le39 h22_0
                replace h31_0 := TRep.mono le39 h31_0
                refine wp_seq ?_
                refine draw_rule (C := []) ⟨(fun φ40 xs40 => [.look 0 [.o 1, .o 1] [(φ1 1), (φ1 1)], .call 37 #[.agg #[.int .u64 ((eb : Nat) : Int), .pointer ep]], .look 0 [.o 3, .o 3] [(φ20 4), (φ20 4)], .look 0 [.o 4, .o 4] [(φ20 5), (φ20 5)], .call 18 #[.int .u64 ((eb : Nat) : Int), .agg #[.int .u64 (((xs39 3).n 0 : Nat) : Int), .pointer ((xs39 3).p 0)], .agg #[.int .u64 (((xs39 7).n 0 : Nat) : Int), .pointer ((xs39 7).p 0)]], .look 0 [] [], .look 0 [] [], .look 0 [] [], .store 0 [.o 1, .o 1] [(φ1 1), (φ1 1)]]), (fun φ40 xs40 => [.agg #[.int .u64 ((eb : Nat) : Int), .pointer ep], .int .u64 ((eb : Nat) : Int), .agg #[.int .u64 (((xs39 3).n 0 : Nat) : Int), .pointer ((xs39 3).p 0)], .agg #[.int .u64 (((xs39 7).n 0 : Nat) : Int), .pointer ((xs39 7).p 0)], .tuple #[.agg #[.int .u64 (((xs40 4).n 0 : Nat) : Int), .pointer ((xs40 4).p 0)], .int .i64 0], .tuple #[.agg #[.int .u64 (((xs40 4).n 0 : Nat) : Int), .pointer ((xs40 4).p 0)], .int .i64 0], .agg #[.int .u64 (((xs40 4).n 0 : Nat) : Int), .pointer ((xs40 4).p 0)], .int .i64 0, undef]), (fun φ40 xs40 => [[((φ1 0), .cells #[.bool ib, .pointer ip] 62), ((φ1 1), .cells #[.int .u64 ((eb : Nat) : Int), .pointer ep] 27), ((φ1 2), .cells #[.int .u64 0, .pointer none] 27), ((φ20 4), .cells #[.int .u64 (((xs39 3).n 0 : Nat) : Int), .pointer ((xs39 3).p 0)] 27), ((φ20 5), .cells #[.int .u64 (((xs39 7).n 0 : Nat) : Int), .pointer ((xs39 7).p 0)] 27)], [((φ1 0), .cells #[.bool ib, .pointer ip] 62), ((φ1 1), .cells #[.int .u64 (((xs40 4).n 0 : Nat) : Int), .pointer ((xs40 4).p 0)] 27), ((φ1 2), .cells #[.int .u64 0, .pointer none] 27), ((φ20 4), .cells #[.int .u64 (((xs39 3).n 0 : Nat) : Int), .pointer ((xs39 3).p 0)] 27), ((φ20 5), .cells #[.int .u64 (((xs39 7).n 0 : Nat) : Int), .pointer ((xs39 7).p 0)] 27)]]), (fun φ40 xs40 => [[default, default, default, default, default, default, default, default, default], [default, default, default, default, default, default, default, default, default]]), [8], [1, 3, 1, 1, 3, 1, 1, 1, 4]⟩ (fun j => ([MP.any, MP.any, MP.any, MP.any, ⟨fun x J => ERep J (E.mk eb FL FR) (x.n 0) (x.p 0), fun le h => ERep.mono le h⟩, MP.any, MP.any, MP.any, MP.any] : List MP).getD j MP.any) [1, 4] [] [] (fun φ40 xs40 => [[none, none, none, none, none, none, none, none, none]]) (fun φ40 xs40 => [(60, .agg #[.int .u64 ((eb : Nat) : Int), .pointer ep]), (61, .int .u64 ((eb : Nat) : Int)), (62, .agg #[.int .u64 (((xs39 3).n 0 : Nat) : Int), .pointer ((xs39 3).p 0)]), (63, .agg #[.int .u64 (((xs39 7).n 0 : Nat) : Int), .pointer ((xs39 7).p 0)]), (64, .tuple #[.agg #[.int .u64 (((xs40 4).n 0 : Nat) : Int), .pointer ((xs40 4).p 0)], .int .i64 0]), (59, .tuple #[.agg #[.int .u64 (((xs40 4).n 0 : Nat) : Int), .pointer ((xs40 4).p 0)], .int .i64 0]), (65, .agg #[.int .u64 (((xs40 4).n 0 : Nat) : Int), .pointer ((xs40 4).p 0)]), (66, .int .i64 0)]) (fun φ40 xs40 => [((φ1 0), .cells #[.bool ib, .pointer ip] 62), ((φ1 1), .cells #[.int .u64 (((xs40 4).n 0 : Nat) : Int), .pointer ((xs40 4).p 0)] 27), ((φ1 2), .cells #[.int .u64 0, .pointer none] 27), ((φ20 4), .cells #[.int .u64 (((xs39 3).n 0 : Nat) : Int), .pointer ((xs39 3).p 0)] 27), ((φ20 5), .cells #[.int .u64 (((xs39 7).n 0 : Nat) : Int), .pointer ((xs39 7).p 0)] 27)]) s trivial (by kernel_rfl) (by kernel_rfl) (fun _ _ => by kernel_rfl) (fun _ _ => by kernel_rfl) ⟨fun _ _ => by kernel_rfl, fun _ _ => by kernel_rfl, fun _ _ => by kernel_rfl, fun _ _ => by kernel_rfl⟩ (fun _ _ _ => by kernel_rfl) (fun _ _ => by kernel_rfl) (fun _ _ => by kernel_rfl) (fun _ _ => by kernel_rfl) (fun _ _ => by kernel_rfl) (fun _ _ => by kernel_rfl) trivial trivial ⟨?c40_1, ?c40_4, trivial⟩ ?k40
                case c40_1 =>
                  refine kcast (A := ∀ (φ40 : Nat → Nat) (xs40 : Xs) (J1_40 : IM), I39.Le J1_40 → Fun Tryd.prog 37 #[.agg #[.int .u64 ((eb : Nat) : Int), .pointer ep]] J1_40 (fun v J' => ∃ x : UX, v = .int .u64 ((eb : Nat) : Int) ∧ (True))) (by kernel_rfl) ?_
                  intro φ40 xs40 J1_40 leJ
                  have he := ERep.mono leJ he
                  exact Fun.mono (base_c he) (fun v J' _ h => ⟨UX.d, h, trivial⟩)
                case c40_4 =>
                  refine kcast (A := ∀ (φ40 : Nat → Nat) (xs40 : Xs) (J4_40 : IM), I39.Le J4_40 → (True) → Fun Tryd.prog 18 #[.int .u64 ((eb : Nat) : Int), .agg #[.int .u64 (((xs39 3).n 0 : Nat) : Int), .pointer ((xs39 3).p 0)], .agg #[.int .u64 (((xs39 7).n 0 : Nat) : Int), .pointer ((xs39 7).p 0)]] J4_40 (fun v J' => ∃ x : UX, v = .tuple #[.agg #[.int .u64 ((x.n 0 : Nat) : Int), .pointer (x.p 0)], .int .i64 0] ∧ (ERep J' (E.mk eb FL FR) (x.n 0) (x.p 0)))) (by kernel_rfl) ?_
                  intro φ40 xs40 J4_40 leJ
                  rintro _
                  have he := ERep.mono leJ he
                  have h39_3_0 := ERep.mono leJ h39_3_0
                  have h39_7_0 := ERep.mono leJ h39_7_0
                  exact Fun.mono (nodeOk_c (n := eb) h39_3_0 h39_7_0 (by have := ERep.base h39_3_0; have := ERep.base h39_7_0; have hn := hnd hc11; have hbe := ERep.base he; (try simp only [E.top_leaf, E.depth_leaf]); omega) (by have := ERep.base h39_3_0; have := ERep.base h39_7_0; have hn := hnd hc11; have hbe := ERep.base he; (try simp only [E.top_leaf, E.depth_leaf]); omega) (by have := ERep.base h39_3_0; have := ERep.base h39_7_0; have hn := hnd hc11; have hbe := ERep.base he; (try simp only [E.top_leaf, E.depth_leaf]); omega)) (fun v J' _ ⟨y0, y1, hv, g0⟩ => ⟨{ UX.d with n := fun j => y0, p := fun j => y1 }, hv, g0⟩)
                case k40 =>
                  rintro φ40 xs40 I40 w40 le40 s _ h40_4_0
                  replace hi := TRep.mono le40 hi
                  replace he := ERep.mono le40 he
                  replace h20_1_0 := ERep.mono le40 h20_1_0
                  replace h20_3_0 := ERep.mono le40 h20_3_0
                  replace h22_0 := TRep.mono le40 h22_0
                  replace h31_0 := TRep.mono le40 h31_0
                  replace h39_1_0 := TRep.mono le40 h39_1_0
                  replace h39_3_0 := ERep.mono le40 h39_3_0
                  replace h39_5_0 := TRep.mono le40 h39_5_0
                  replace h39_7_0 := ERep.mono le40 h39_7_0
                  refine wp_seq ?_
                  refine region_rule ?_
                  refine ops_rule (C := []) [((φ1 0), .cells #[.bool ib, .pointer ip] 62), ((φ1 1), .cells #[.int .u64 (((xs40 4).n 0 : Nat) : Int), .pointer ((xs40 4).p 0)] 27), ((φ1 2), .cells #[.int .u64 0, .pointer none] 27), ((φ20 4), .cells #[.int .u64 (((xs39 3).n 0 : Nat) : Int), .pointer ((xs39 3).p 0)] 27), ((φ20 5), .cells #[.int .u64 (((xs39 7).n 0 : Nat) : Int), .pointer ((xs39 7).p 0)] 27)] [] 2 [.o 1, .o 1, .o 2, .o 2] 0 (fun φ41 => [(67, .agg #[.int .u64 (((xs40 4).n 0 : Nat) : Int), .pointer ((xs40 4).p 0)])]) (fun φ41 => [((φ1 0), .cells #[.bool ib, .pointer ip] 62), ((φ1 1), .cells #[.int .u64 (((xs40 4).n 0 : Nat) : Int), .pointer ((xs40 4).p 0)] 27), ((φ1 2), .cells #[.int .u64 (((xs40 4).n 0 : Nat) : Int), .pointer ((xs40 4).p 0)] 27), ((φ20 4), .cells #[.int .u64 (((xs39 3).n 0 : Nat) : Int), .pointer ((xs39 3).p 0)] 27), ((φ20 5), .cells #[.int .u64 (((xs39 7).n 0 : Nat) : Int), .pointer ((xs39 7).p 0)] 27)]) (fun φ41 => [(φ1 1), (φ1 1), (φ1 2), (φ1 2)]) s trivial (fun φ41 => by kernel_rfl) ?_
                  intro φ41 w41 s
                  refine ops_done (by kernel_rfl) ?_
                  refine wp_ret ?_
                  refine ret_rule (C := []) [((φ1 0), .cells #[.bool ib, .pointer ip] 62), ((φ1 1), .cells #[.int .u64 (((xs40 4).n 0 : Nat) : Int), .pointer ((xs40 4).p 0)] 27), ((φ1 2), .cells #[.int .u64 (((xs40 4).n 0 : Nat) : Int), .pointer ((xs40 4).p 0)] 27), ((φ20 4), .cells #[.int .u64 (((xs39 3).n 0 : Nat) : Int), .pointer ((xs39 3).p 0)] 27), ((φ20 5), .cells #[.int .u64 (((xs39 7).n 0 : Nat) : Int), .pointer ((xs39 7).p 0)] 27)] [] (.agg #[.int .u64 (((xs40 4).n 0 : Nat) : Int), .pointer ((xs40 4).p 0)]) [.o 2, .o 2] [(φ1 2), (φ1 2)] s trivial (by kernel_rfl) ?_
                  simp only [hc5, hc11, hc15, hc25, hc34, ↓reduceIte, Bool.false_eq_true]
                  exact ⟨_, _, _, rfl, s, ⟨_, _, rfl, by first | exact h40_4_0 | (rw [← ERep.base he]; exact h40_4_0) | (rw [← ERep.base h39_3_0, ← ERep.base he]; exact h40_4_0) | (rw [← ERep.base h39_3_0]; exact h40_4_0) | (rw [← ERep.base h39_7_0, ← ERep.base he]; exact h40_4_0) | (rw [← ERep.base h39_7_0]; exact h40_4_0)⟩⟩

end Go.Proofs.YtgdickihjaomjaaDoor
