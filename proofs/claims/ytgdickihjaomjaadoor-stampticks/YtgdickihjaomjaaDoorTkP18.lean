/- The document's Grow. -/
import Derived.Test.YtgdickihjaomjaaDoorTkP17
set_option linter.all false
set_option maxRecDepth 100000
namespace Go.Proofs.YtgdickihjaomjaaDoor
open Go.RowKit Go.Sep

def moreE (e : E) : Nat := if e.isLeaf = true then 1001 else 1
def growD : Nat → T → E → E × Nat
  | 0, _, _ => (.leaf 0, 0)
  | n + 1, i, e => if kindT i = 1 ∧ e.isLeaf = true then (.leaf (e.base + 1), 0) else
      if kindT i.left = 0 then (E.mk e.base e.left (growD n i.right e.right).1, (growD n i.right e.right).2 + moreE e) else
      if kindT i.right = 0 then (E.mk e.base (growD n i.left e.left).1 e.right, (growD n i.left e.left).2 + moreE e) else
      if (growD n i.left e.left).2 < (growD n i.right e.right).2 then (E.mk e.base (growD n i.left e.left).1 e.right, (growD n i.left e.left).2 + moreE e) else
      (E.mk e.base e.left (growD n i.right e.right).1, (growD n i.right e.right).2 + moreE e)
theorem growD_succ (n : Nat) (i : T) (e : E) : growD (n + 1) i e = if kindT i = 1 ∧ e.isLeaf = true then (.leaf (e.base + 1), 0) else
      if kindT i.left = 0 then (E.mk e.base e.left (growD n i.right e.right).1, (growD n i.right e.right).2 + moreE e) else
      if kindT i.right = 0 then (E.mk e.base (growD n i.left e.left).1 e.right, (growD n i.left e.left).2 + moreE e) else
      if (growD n i.left e.left).2 < (growD n i.right e.right).2 then (E.mk e.base (growD n i.left e.left).1 e.right, (growD n i.left e.left).2 + moreE e) else
      (E.mk e.base e.left (growD n i.right e.right).1, (growD n i.right e.right).2 + moreE e) := rfl
theorem growD_le : ∀ (n : Nat) (i : T) (e : E), (growD n i e).2 ≤ 1001 * n
  | 0, i, e => by simp [growD]
  | n + 1, i, e => by
    have h1 := growD_le n i.left e.left
    have h2 := growD_le n i.right e.right
    have h3 : moreE e ≤ 1001 := by unfold moreE; split <;> omega
    rw [growD_succ]
    split
    · simp
    · split
      · simp only; omega
      · split
        · simp only; omega
        · split <;> (simp only; omega)
theorem E.half_nf {e : E} (h : e.nf) : e.left.nf ∧ e.right.nf := by
  cases e with
  | leaf n => exact ⟨trivial, trivial⟩
  | node n l r => exact ⟨h.1, h.2.1⟩
theorem growD_nf : ∀ (n : Nat) (i : T) {e : E}, e.nf → (growD n i e).1.nf
  | 0, _, _, _ => trivial
  | n + 1, i, e, h => by
    have hh := E.half_nf h
    have h1 := growD_nf n i.left hh.1
    have h2 := growD_nf n i.right hh.2
    rw [growD_succ]
    split
    · trivial
    · split
      · exact E.nf_mk hh.1 h2
      · split
        · exact E.nf_mk h1 hh.2
        · split
          · exact E.nf_mk h1 hh.2
          · exact E.nf_mk hh.1 h2
theorem E.base_half (e : E) : e.base + max e.left.top e.right.top = e.top := by cases e <;> rfl
theorem growD_top : ∀ (n : Nat) (i : T) (e : E), (growD n i e).1.top ≤ e.top + 1
  | 0, _, _ => by simp [growD, E.top]
  | n + 1, i, e => by
    have h1 := growD_top n i.left e.left
    have h2 := growD_top n i.right e.right
    have hb := E.base_half e
    have hc := E.base_le e
    have m1 := E.mk_top e.base e.left (growD n i.right e.right).1
    have m2 := E.mk_top e.base (growD n i.left e.left).1 e.right
    rw [growD_succ]
    split
    · simp only [E.top_leaf]; omega
    · split
      · simp only; omega
      · split
        · simp only; omega
        · split <;> (simp only; omega)
theorem half_deep {i : T} {e : E} (hz : i.isZero = false) (ha : (i.isOne && e.isLeaf) = false) : 1 + max (max i.left.depth i.right.depth) (max e.left.depth e.right.depth) ≤ max i.depth e.depth := by
  cases i with
  | zero => cases hz
  | one =>
    cases e with
    | leaf k => cases ha
    | node k l r =>
      show 1 + max (max 0 0) (max l.depth r.depth) ≤ max 0 (1 + max l.depth r.depth)
      omega
  | node a b =>
    cases e with
    | leaf k => show 1 + max (max a.depth b.depth) (max 0 0) ≤ max (1 + max a.depth b.depth) 0; omega
    | node k l r => show 1 + max (max a.depth b.depth) (max l.depth r.depth) ≤ max (1 + max a.depth b.depth) (1 + max l.depth r.depth); omega
theorem nodeR_ok {n : Nat} {l r : E} (h1 : max l.depth r.depth < 16) (h2 : n + max l.top r.top ≤ 1048576) : nodeR n l r = (E.mk n l r, 0) := by
  unfold nodeR; rw [if_neg (by omega), if_neg (by omega), if_neg (by omega)]
set_option maxHeartbeats 4000000 in
theorem grow_eq : ∀ (n : Nat) {i : T} {e : E}, n ≤ 1000 → i.live → i.isZero = false → i.depth + e.depth < n → e.top + 1 ≤ 1048576 → max i.depth e.depth ≤ 16 → growF n i e = ((growD n i e).1, 0) ∧ priceF n i e = (growD n i e).2 ∧ (growD n i e).1.depth ≤ max i.depth e.depth
  | 0, _, _, _, _, _, h, _, _ => by omega
  | n + 1, i, e, hn, hl, hz, h, ht, hd => by
    by_cases ha : i.isOne = true ∧ e.isLeaf = true
    · have hb := E.base_le e
      rw [growD_succ, if_pos ⟨kind_one.1 ha.1, ha.2⟩]
      refine ⟨?_, ?_, Nat.zero_le _⟩
      · rw [growF_succ, if_pos ha, leafR, if_neg (by omega)]
      · rw [priceF_succ, if_neg (show ¬ i.isZero = true by simp [hz]), if_pos ha]
    · have ha' : (i.isOne && e.isLeaf) = false := by simpa using ha
      have g := go_on hz ha' h
      have hh := T.live_half hl
      have dd := half_deep hz ha'
      have hb := E.base_half e
      have hle := E.half_le e
      have hD : ¬ (kindT i = 1 ∧ e.isLeaf = true) := fun q => ha ⟨kind_one.2 q.1, q.2⟩
      have tl := growD_top n i.left e.left
      have tr := growD_top n i.right e.right
      have ml := E.mk_depth e.base (growD n i.left e.left).1 e.right
      have mr := E.mk_depth e.base e.left (growD n i.right e.right).1
      have bl := growD_le n i.left e.left
      have br := growD_le n i.right e.right
      have hpr : ∀ c, (if e.isLeaf = true then 1 + c + 1000 else 1 + c) = c + moreE e := fun c => by unfold moreE; split <;> omega
      rw [growF_succ, priceF_succ, growD_succ, if_neg ha, if_neg (show ¬ i.isZero = true by simp [hz]), if_neg ha, if_neg hD, hpr]
      by_cases zl : i.left.isZero = true
      · have zr : i.right.isZero = false := by have := T.live_or hl hz; rw [zl] at this; simpa using this
        have ir := grow_eq n (by omega) hh.2 zr g.2 (by omega) (by omega)
        have p0 := priceF_zero (n := n) (e := e.left) (by omega) zl
        rw [if_pos (kind_zero'.1 zl), p0, ir.2.1, if_neg (by omega), ir.1, if_neg (by simp), nodeR_ok (by simp only; omega) (by simp only; omega), Nat.min_eq_right (by omega)]
        exact ⟨rfl, rfl, by simp only; omega⟩
      · have zl' : i.left.isZero = false := by simpa using zl
        have il := grow_eq n (by omega) hh.1 zl' g.1 (by omega) (by omega)
        rw [if_neg (fun q => zl (kind_zero'.2 q))]
        by_cases zr : i.right.isZero = true
        · have p0 := priceF_zero (n := n) (e := e.right) (by omega) zr
          rw [if_pos (kind_zero'.1 zr), p0, il.2.1, if_pos (by omega), il.1, if_neg (by simp), nodeR_ok (by simp only; omega) (by simp only; omega), Nat.min_eq_left (by omega)]
          exact ⟨rfl, rfl, by simp only; omega⟩
        · have zr' : i.right.isZero = false := by simpa using zr
          have ir := grow_eq n (by omega) hh.2 zr' g.2 (by omega) (by omega)
          rw [if_neg (fun q => zr (kind_zero'.2 q)), il.2.1, ir.2.1]
          by_cases hc : (growD n i.left e.left).2 < (growD n i.right e.right).2
          · rw [if_pos hc, if_pos hc, il.1, if_neg (by simp), nodeR_ok (by simp only; omega) (by simp only; omega), Nat.min_eq_left (by omega)]
            exact ⟨rfl, rfl, by simp only; omega⟩
          · rw [if_neg hc, if_neg hc, ir.1, if_neg (by simp), nodeR_ok (by simp only; omega) (by simp only; omega), Nat.min_eq_right (by omega)]
            exact ⟨rfl, rfl, by simp only; omega⟩
theorem T.nf_live : ∀ {t : T}, t.nf → t.live
  | .zero, _ => trivial
  | .one, _ => trivial
  | .node l r, ⟨hl, hr, h⟩ => ⟨T.nf_live hl, T.nf_live hr, by cases l <;> cases r <;> simp_all [T.isZero, T.mk]⟩
theorem growR_zero {i : T} (e : E) (h : kindT i = 0) : growR i e = (e, 0, 2) := by rw [growR, if_pos (kind_zero'.2 h)]
theorem growR_eq {i : T} {e : E} (hl : i.nf) (hz : ¬ kindT i = 0) (hi : i.depth ≤ 6) (he : e.depth ≤ 6) (ht : e.top ≤ 1000000) : growR i e = ((growD 40 i e).1, (growD 40 i e).2, 0) := by
  have h := grow_eq 40 (by omega) (T.nf_live hl) (kind_nz hz) (show i.depth + e.depth < 40 by omega) (by omega) (by omega)
  rw [growR, if_neg (fun q => hz (kind_zero'.1 q)), h.1, h.2.1, if_neg (by simp)]
theorem growD_small {i : T} {e : E} (hl : i.nf) (hz : ¬ kindT i = 0) (hi : i.depth ≤ 6) (he : e.depth ≤ 6) (ht : e.top ≤ 1000000) : (growD 40 i e).1.depth ≤ 6 := by
  have h := grow_eq 40 (by omega) (T.nf_live hl) (kind_nz hz) (show i.depth + e.depth < 40 by omega) (by omega) (by omega)
  have := h.2.2
  omega

set_option maxHeartbeats 1000000 in
theorem halves_c {I : IM} {e : E} {k : Nat} (h : RE I e k) : Fun Tryd.prog 97 #[.pointer (some ⟨k, 0, none⟩)] I (fun v J => ∃ k1 k2, v = .tuple #[.pointer (some ⟨k1, 0, none⟩), .pointer (some ⟨k2, 0, none⟩)] ∧ RE J e.left k1 ∧ RE J e.right k2) := by
  cases e with
  | leaf n =>
    have h0 : RE _ (E.leaf n) k := h
    refine enter_rule 19 [(0, .pointer (some ⟨k, 0, none⟩))] Tryd.func97 rfl (by kernel_rfl) ?_
    intro w s
    refine wp_seq ?_
    refine region_rule ?_
    refine ops_rule (C := []) [] [] 2 [] 0 (fun φ1 => [(3, .pointer none), (2, .pointer none)]) (fun φ1 => []) (fun φ1 => []) s trivial (fun φ1 => by kernel_rfl) ?_
    intro φ1 w1 s
    refine ops_done (by kernel_rfl) ?_
    refine wp_seq ?_
    refine wp_seq ?_
    refine region_rule ?_
    refine ops_rule (C := [(k, .cells #[.int .u64 ((n : Nat) : Int), .pointer none, .pointer none] 112)]) [] [] 5 [.c 0] 0 (fun φ2 => [(8, .bool true), (7, .pointer none), (6, .pointer (some ⟨k, 1, none⟩)), (5, .pointer (some ⟨k, 0, none⟩)), (4, .pointer (some ⟨k, 0, none⟩))]) (fun φ2 => []) (fun φ2 => [k]) s ⟨h, trivial⟩ (fun φ2 => by kernel_rfl) ?_
    intro φ2 w2 s
    refine ops_done (by kernel_rfl) ?_
    refine cond_true_rule (b := true) (by kernel_rfl) rfl ?_
    refine wp_seq ?_
    refine region_rule ?_
    refine call_rule (some 9) s (rleaf_c (n := 0)) (by kernel_rfl) ?_
    intro v3 I3 w3 le3 h3 s
    replace h0 := RE.mono le3 h0
    replace h := le3 _ _ h
    obtain ⟨k3, rfl, h3_0⟩ := h3
    refine call_rule (some 10) s (rleaf_c (n := 0)) (by kernel_rfl) ?_
    intro v4 I4 w4 le4 h4 s
    replace h0 := RE.mono le4 h0
    replace h3_0 := RE.mono le4 h3_0
    replace h := le4 _ _ h
    obtain ⟨k4, rfl, h4_0⟩ := h4
    refine ops_rule (C := []) [] [] 2 [] 0 (fun φ5 => [(3, .pointer (some ⟨k4, 0, none⟩)), (2, .pointer (some ⟨k3, 0, none⟩))]) (fun φ5 => []) (fun φ5 => []) s trivial (fun φ5 => by kernel_rfl) ?_
    intro φ5 w5 s
    refine ops_done (by kernel_rfl) ?_
    refine wp_ret ?_
    refine ret_rule (C := []) [] [] (.tuple #[.pointer (some ⟨k3, 0, none⟩), .pointer (some ⟨k4, 0, none⟩)]) [] [] s trivial (by kernel_rfl) ?_
    exact ⟨_, _, _, rfl, s, ⟨_, _, rfl, h3_0, h4_0⟩⟩
  | node n l r =>
    have h0 : RE _ (E.node n l r) k := h
    obtain ⟨kl, kr, hk, hl, hr⟩ := h
    refine enter_rule 19 [(0, .pointer (some ⟨k, 0, none⟩))] Tryd.func97 rfl (by kernel_rfl) ?_
    intro w s
    refine wp_seq ?_
    refine region_rule ?_
    refine ops_rule (C := []) [] [] 2 [] 0 (fun φ1 => [(3, .pointer none), (2, .pointer none)]) (fun φ1 => []) (fun φ1 => []) s trivial (fun φ1 => by kernel_rfl) ?_
    intro φ1 w1 s
    refine ops_done (by kernel_rfl) ?_
    refine wp_seq ?_
    refine wp_seq ?_
    refine region_rule ?_
    refine ops_rule (C := [(k, .cells #[.int .u64 ((n : Nat) : Int), .pointer (some ⟨kl, 0, none⟩), .pointer (some ⟨kr, 0, none⟩)] 112)]) [] [] 5 [.c 0] 0 (fun φ2 => [(8, .bool false), (7, .pointer (some ⟨kl, 0, none⟩)), (6, .pointer (some ⟨k, 1, none⟩)), (5, .pointer (some ⟨k, 0, none⟩)), (4, .pointer (some ⟨k, 0, none⟩))]) (fun φ2 => []) (fun φ2 => [k]) s ⟨hk, trivial⟩ (fun φ2 => by kernel_rfl) ?_
    intro φ2 w2 s
    refine ops_done (by kernel_rfl) ?_
    refine cond_false_rule (b := false) (by kernel_rfl) rfl ?_
    refine wp_skip ?_
    refine wp_seq ?_
    refine draw_rule (C := [(k, .cells #[.int .u64 ((n : Nat) : Int), .pointer (some ⟨kl, 0, none⟩), .pointer (some ⟨kr, 0, none⟩)] 112)]) ⟨(fun φ3 xs3 => [.look 0 [] [], .look 0 [] [], .look 0 [] [], .look 0 [.c 0] [k], .look 0 [] [], .look 0 [] [], .look 0 [] [], .look 0 [.c 0] [k], .look 0 [] [], .look 0 [] []]), (fun φ3 xs3 => [.pointer (some ⟨k, 0, none⟩), .pointer (some ⟨k, 0, none⟩), .pointer (some ⟨k, 1, none⟩), .pointer (some ⟨kl, 0, none⟩), .pointer (some ⟨k, 0, none⟩), .pointer (some ⟨k, 0, none⟩), .pointer (some ⟨k, 2, none⟩), .pointer (some ⟨kr, 0, none⟩), .pointer (some ⟨kl, 0, none⟩), .pointer (some ⟨kr, 0, none⟩)]), (fun φ3 xs3 => [[]]), (fun φ3 xs3 => [[default, default, default, default, default, default, default, default, default, default]]), [], [1, 1, 1, 1, 1, 1, 1, 1, 1, 1]⟩ (fun j => ([MP.any, MP.any, MP.any, MP.any, MP.any, MP.any, MP.any, MP.any, MP.any, MP.any] : List MP).getD j MP.any) [] [] [] (fun φ3 xs3 => []) (fun φ3 xs3 => [(11, .pointer (some ⟨k, 0, none⟩)), (12, .pointer (some ⟨k, 0, none⟩)), (13, .pointer (some ⟨k, 1, none⟩)), (14, .pointer (some ⟨kl, 0, none⟩)), (15, .pointer (some ⟨k, 0, none⟩)), (16, .pointer (some ⟨k, 0, none⟩)), (17, .pointer (some ⟨k, 2, none⟩)), (18, .pointer (some ⟨kr, 0, none⟩)), (2, .pointer (some ⟨kl, 0, none⟩)), (3, .pointer (some ⟨kr, 0, none⟩))]) (fun φ3 xs3 => []) s ⟨hk, trivial⟩ (by kernel_rfl) (by kernel_rfl) (fun _ _ => by kernel_rfl) (fun _ _ => by kernel_rfl) ⟨fun _ _ => by kernel_rfl, fun _ _ => by kernel_rfl, fun _ _ => by kernel_rfl, fun _ _ => by kernel_rfl⟩ (fun _ _ _ => by kernel_rfl) (fun _ _ => by kernel_rfl) (fun _ _ => by kernel_rfl) (fun _ _ => by kernel_rfl) (fun _ _ => by kernel_rfl) (fun _ _ => by kernel_rfl) trivial trivial trivial ?k3
    case k3 =>
      rintro φ3 xs3 I3 w3 le3 s 
      replace hl := RE.mono le3 hl
      replace hr := RE.mono le3 hr
      replace h0 := RE.mono le3 h0
      replace hk := le3 _ _ hk
      refine wp_ret ?_
      refine ret_rule (C := []) [] [] (.tuple #[.pointer (some ⟨kl, 0, none⟩), .pointer (some ⟨kr, 0, none⟩)]) [] [] s trivial (by kernel_rfl) ?_
      exact ⟨_, _, _, rfl, s, ⟨_, _, rfl, hl, hr⟩⟩

theorem rleft_c {I : IM} {t : T} {k : Nat} (h : RT I t k) : Fun Tryd.prog 87 #[.pointer (some ⟨k, 0, none⟩)] I (fun v J => ∃ k, v = .pointer (some ⟨k, 0, none⟩) ∧ RT J t.left k) := by
  cases t with
  | zero =>
    have hz : RT _ T.zero k := h
    refine enter_rule 13 [(0, .pointer (some ⟨k, 0, none⟩))] Tryd.func87 rfl (by kernel_rfl) ?_
    intro w s
    refine wp_seq ?_
    refine region_rule ?_
    refine ops_rule (C := []) [] [] 1 [] 0 (fun φ1 => [(2, .pointer none)]) (fun φ1 => []) (fun φ1 => []) s trivial (fun φ1 => by kernel_rfl) ?_
    intro φ1 w1 s
    refine ops_done (by kernel_rfl) ?_
    refine wp_seq ?_
    refine wp_seq ?_
    refine region_rule ?_
    refine ops_rule (C := [(k, .cells #[.int .i64 0, .pointer none, .pointer none] 84)]) [] [] 5 [.c 0] 0 (fun φ2 => [(7, .bool true), (6, .int .i64 0), (5, .pointer (some ⟨k, 0, none⟩)), (4, .pointer (some ⟨k, 0, none⟩)), (3, .pointer (some ⟨k, 0, none⟩))]) (fun φ2 => []) (fun φ2 => [k]) s ⟨h, trivial⟩ (fun φ2 => by kernel_rfl) ?_
    intro φ2 w2 s
    refine ops_done (by kernel_rfl) ?_
    refine cond_true_rule (b := true) (by kernel_rfl) rfl ?_
    refine wp_seq ?_
    refine region_rule ?_
    refine ops_rule (C := []) [] [] 2 [] 0 (fun φ3 => [(2, .pointer (some ⟨k, 0, none⟩)), (8, .pointer (some ⟨k, 0, none⟩))]) (fun φ3 => []) (fun φ3 => []) s trivial (fun φ3 => by kernel_rfl) ?_
    intro φ3 w3 s
    refine ops_done (by kernel_rfl) ?_
    refine wp_ret ?_
    refine ret_rule (C := []) [] [] (.pointer (some ⟨k, 0, none⟩)) [] [] s trivial (by kernel_rfl) ?_
    exact ⟨_, _, _, rfl, s, ⟨_, rfl, hz⟩⟩
  | one =>
    have hz : RT _ T.one k := h
    refine enter_rule 13 [(0, .pointer (some ⟨k, 0, none⟩))] Tryd.func87 rfl (by kernel_rfl) ?_
    intro w s
    refine wp_seq ?_
    refine region_rule ?_
    refine ops_rule (C := []) [] [] 1 [] 0 (fun φ1 => [(2, .pointer none)]) (fun φ1 => []) (fun φ1 => []) s trivial (fun φ1 => by kernel_rfl) ?_
    intro φ1 w1 s
    refine ops_done (by kernel_rfl) ?_
    refine wp_seq ?_
    refine wp_seq ?_
    refine region_rule ?_
    refine ops_rule (C := [(k, .cells #[.int .i64 1, .pointer none, .pointer none] 84)]) [] [] 5 [.c 0] 0 (fun φ2 => [(7, .bool true), (6, .int .i64 1), (5, .pointer (some ⟨k, 0, none⟩)), (4, .pointer (some ⟨k, 0, none⟩)), (3, .pointer (some ⟨k, 0, none⟩))]) (fun φ2 => []) (fun φ2 => [k]) s ⟨h, trivial⟩ (fun φ2 => by kernel_rfl) ?_
    intro φ2 w2 s
    refine ops_done (by kernel_rfl) ?_
    refine cond_true_rule (b := true) (by kernel_rfl) rfl ?_
    refine wp_seq ?_
    refine region_rule ?_
    refine ops_rule (C := []) [] [] 2 [] 0 (fun φ3 => [(2, .pointer (some ⟨k, 0, none⟩)), (8, .pointer (some ⟨k, 0, none⟩))]) (fun φ3 => []) (fun φ3 => []) s trivial (fun φ3 => by kernel_rfl) ?_
    intro φ3 w3 s
    refine ops_done (by kernel_rfl) ?_
    refine wp_ret ?_
    refine ret_rule (C := []) [] [] (.pointer (some ⟨k, 0, none⟩)) [] [] s trivial (by kernel_rfl) ?_
    exact ⟨_, _, _, rfl, s, ⟨_, rfl, hz⟩⟩
  | node l r =>
    obtain ⟨kl, kr, hk, hl, hr⟩ := h
    refine enter_rule 13 [(0, .pointer (some ⟨k, 0, none⟩))] Tryd.func87 rfl (by kernel_rfl) ?_
    intro w s
    refine wp_seq ?_
    refine region_rule ?_
    refine ops_rule (C := []) [] [] 1 [] 0 (fun φ1 => [(2, .pointer none)]) (fun φ1 => []) (fun φ1 => []) s trivial (fun φ1 => by kernel_rfl) ?_
    intro φ1 w1 s
    refine ops_done (by kernel_rfl) ?_
    refine wp_seq ?_
    refine wp_seq ?_
    refine region_rule ?_
    refine ops_rule (C := [(k, .cells #[.int .i64 2, .pointer (some ⟨kl, 0, none⟩), .pointer (some ⟨kr, 0, none⟩)] 84)]) [] [] 5 [.c 0] 0 (fun φ2 => [(7, .bool false), (6, .int .i64 2), (5, .pointer (some ⟨k, 0, none⟩)), (4, .pointer (some ⟨k, 0, none⟩)), (3, .pointer (some ⟨k, 0, none⟩))]) (fun φ2 => []) (fun φ2 => [k]) s ⟨hk, trivial⟩ (fun φ2 => by kernel_rfl) ?_
    intro φ2 w2 s
    refine ops_done (by kernel_rfl) ?_
    refine cond_false_rule (b := false) (by kernel_rfl) rfl ?_
    refine wp_skip ?_
    refine wp_seq ?_
    refine region_rule ?_
    refine ops_rule (C := [(k, .cells #[.int .i64 2, .pointer (some ⟨kl, 0, none⟩), .pointer (some ⟨kr, 0, none⟩)] 84)]) [] [] 5 [.c 0] 0 (fun φ3 => [(2, .pointer (some ⟨kl, 0, none⟩)), (12, .pointer (some ⟨kl, 0, none⟩)), (11, .pointer (some ⟨k, 1, none⟩)), (10, .pointer (some ⟨k, 0, none⟩)), (9, .pointer (some ⟨k, 0, none⟩))]) (fun φ3 => []) (fun φ3 => [k]) s ⟨hk, trivial⟩ (fun φ3 => by kernel_rfl) ?_
    intro φ3 w3 s
    refine ops_done (by kernel_rfl) ?_
    refine wp_ret ?_
    refine ret_rule (C := []) [] [] (.pointer (some ⟨kl, 0, none⟩)) [] [] s trivial (by kernel_rfl) ?_
    exact ⟨_, _, _, rfl, s, ⟨_, rfl, hl⟩⟩

theorem rright_c {I : IM} {t : T} {k : Nat} (h : RT I t k) : Fun Tryd.prog 88 #[.pointer (some ⟨k, 0, none⟩)] I (fun v J => ∃ k, v = .pointer (some ⟨k, 0, none⟩) ∧ RT J t.right k) := by
  cases t with
  | zero =>
    have hz : RT _ T.zero k := h
    refine enter_rule 13 [(0, .pointer (some ⟨k, 0, none⟩))] Tryd.func88 rfl (by kernel_rfl) ?_
    intro w s
    refine wp_seq ?_
    refine region_rule ?_
    refine ops_rule (C := []) [] [] 1 [] 0 (fun φ1 => [(2, .pointer none)]) (fun φ1 => []) (fun φ1 => []) s trivial (fun φ1 => by kernel_rfl) ?_
    intro φ1 w1 s
    refine ops_done (by kernel_rfl) ?_
    refine wp_seq ?_
    refine wp_seq ?_
    refine region_rule ?_
    refine ops_rule (C := [(k, .cells #[.int .i64 0, .pointer none, .pointer none] 84)]) [] [] 5 [.c 0] 0 (fun φ2 => [(7, .bool true), (6, .int .i64 0), (5, .pointer (some ⟨k, 0, none⟩)), (4, .pointer (some ⟨k, 0, none⟩)), (3, .pointer (some ⟨k, 0, none⟩))]) (fun φ2 => []) (fun φ2 => [k]) s ⟨h, trivial⟩ (fun φ2 => by kernel_rfl) ?_
    intro φ2 w2 s
    refine ops_done (by kernel_rfl) ?_
    refine cond_true_rule (b := true) (by kernel_rfl) rfl ?_
    refine wp_seq ?_
    refine region_rule ?_
    refine ops_rule (C := []) [] [] 2 [] 0 (fun φ3 => [(2, .pointer (some ⟨k, 0, none⟩)), (8, .pointer (some ⟨k, 0, none⟩))]) (fun φ3 => []) (fun φ3 => []) s trivial (fun φ3 => by kernel_rfl) ?_
    intro φ3 w3 s
    refine ops_done (by kernel_rfl) ?_
    refine wp_ret ?_
    refine ret_rule (C := []) [] [] (.pointer (some ⟨k, 0, none⟩)) [] [] s trivial (by kernel_rfl) ?_
    exact ⟨_, _, _, rfl, s, ⟨_, rfl, hz⟩⟩
  | one =>
    have hz : RT _ T.one k := h
    refine enter_rule 13 [(0, .pointer (some ⟨k, 0, none⟩))] Tryd.func88 rfl (by kernel_rfl) ?_
    intro w s
    refine wp_seq ?_
    refine region_rule ?_
    refine ops_rule (C := []) [] [] 1 [] 0 (fun φ1 => [(2, .pointer none)]) (fun φ1 => []) (fun φ1 => []) s trivial (fun φ1 => by kernel_rfl) ?_
    intro φ1 w1 s
    refine ops_done (by kernel_rfl) ?_
    refine wp_seq ?_
    refine wp_seq ?_
    refine region_rule ?_
    refine ops_rule (C := [(k, .cells #[.int .i64 1, .pointer none, .pointer none] 84)]) [] [] 5 [.c 0] 0 (fun φ2 => [(7, .bool true), (6, .int .i64 1), (5, .pointer (some ⟨k, 0, none⟩)), (4, .pointer (some ⟨k, 0, none⟩)), (3, .pointer (some ⟨k, 0, none⟩))]) (fun φ2 => []) (fun φ2 => [k]) s ⟨h, trivial⟩ (fun φ2 => by kernel_rfl) ?_
    intro φ2 w2 s
    refine ops_done (by kernel_rfl) ?_
    refine cond_true_rule (b := true) (by kernel_rfl) rfl ?_
    refine wp_seq ?_
    refine region_rule ?_
    refine ops_rule (C := []) [] [] 2 [] 0 (fun φ3 => [(2, .pointer (some ⟨k, 0, none⟩)), (8, .pointer (some ⟨k, 0, none⟩))]) (fun φ3 => []) (fun φ3 => []) s trivial (fun φ3 => by kernel_rfl) ?_
    intro φ3 w3 s
    refine ops_done (by kernel_rfl) ?_
    refine wp_ret ?_
    refine ret_rule (C := []) [] [] (.pointer (some ⟨k, 0, none⟩)) [] [] s trivial (by kernel_rfl) ?_
    exact ⟨_, _, _, rfl, s, ⟨_, rfl, hz⟩⟩
  | node l r =>
    obtain ⟨kl, kr, hk, hl, hr⟩ := h
    refine enter_rule 13 [(0, .pointer (some ⟨k, 0, none⟩))] Tryd.func88 rfl (by kernel_rfl) ?_
    intro w s
    refine wp_seq ?_
    refine region_rule ?_
    refine ops_rule (C := []) [] [] 1 [] 0 (fun φ1 => [(2, .pointer none)]) (fun φ1 => []) (fun φ1 => []) s trivial (fun φ1 => by kernel_rfl) ?_
    intro φ1 w1 s
    refine ops_done (by kernel_rfl) ?_
    refine wp_seq ?_
    refine wp_seq ?_
    refine region_rule ?_
    refine ops_rule (C := [(k, .cells #[.int .i64 2, .pointer (some ⟨kl, 0, none⟩), .pointer (some ⟨kr, 0, none⟩)] 84)]) [] [] 5 [.c 0] 0 (fun φ2 => [(7, .bool false), (6, .int .i64 2), (5, .pointer (some ⟨k, 0, none⟩)), (4, .pointer (some ⟨k, 0, none⟩)), (3, .pointer (some ⟨k, 0, none⟩))]) (fun φ2 => []) (fun φ2 => [k]) s ⟨hk, trivial⟩ (fun φ2 => by kernel_rfl) ?_
    intro φ2 w2 s
    refine ops_done (by kernel_rfl) ?_
    refine cond_false_rule (b := false) (by kernel_rfl) rfl ?_
    refine wp_skip ?_
    refine wp_seq ?_
    refine region_rule ?_
    refine ops_rule (C := [(k, .cells #[.int .i64 2, .pointer (some ⟨kl, 0, none⟩), .pointer (some ⟨kr, 0, none⟩)] 84)]) [] [] 5 [.c 0] 0 (fun φ3 => [(2, .pointer (some ⟨kr, 0, none⟩)), (12, .pointer (some ⟨kr, 0, none⟩)), (11, .pointer (some ⟨k, 2, none⟩)), (10, .pointer (some ⟨k, 0, none⟩)), (9, .pointer (some ⟨k, 0, none⟩))]) (fun φ3 => []) (fun φ3 => [k]) s ⟨hk, trivial⟩ (fun φ3 => by kernel_rfl) ?_
    intro φ3 w3 s
    refine ops_done (by kernel_rfl) ?_
    refine wp_ret ?_
    refine ret_rule (C := []) [] [] (.pointer (some ⟨kr, 0, none⟩)) [] [] s trivial (by kernel_rfl) ?_
    exact ⟨_, _, _, rfl, s, ⟨_, rfl, hr⟩⟩

set_option maxHeartbeats 4000000 in
theorem rgrow_step {I : IM} {n : Nat} {i : T} {e : E} {ki ke : Nat} (hi : RT I i ki) (he : RE I e ke) (hnf : e.nf) (ht : e.top + 1 < 18446744073709551616) (hn9 : n ≤ 1000) (hor : kindT (T.left i) = 0 → kindT (T.right i) ≠ 0) (ihl : ¬ (kindT i = 1 ∧ e.isLeaf = true) → kindT (T.left i) ≠ 0 → ∀ {J : IM} {k1 k2 : Nat}, RT J (T.left i) k1 → RE J (E.left e) k2 → Fun Tryd.prog 56 #[.pointer (some ⟨k1, 0, none⟩), .pointer (some ⟨k2, 0, none⟩)] J (fun v J => ∃ k, v = .tuple #[.pointer (some ⟨k, 0, none⟩), .int .i64 (((growD n (T.left i) (E.left e)).2 : Nat) : Int)] ∧ RE J (growD n (T.left i) (E.left e)).1 k)) (ihr : ¬ (kindT i = 1 ∧ e.isLeaf = true) → kindT (T.right i) ≠ 0 → ∀ {J : IM} {k1 k2 : Nat}, RT J (T.right i) k1 → RE J (E.right e) k2 → Fun Tryd.prog 56 #[.pointer (some ⟨k1, 0, none⟩), .pointer (some ⟨k2, 0, none⟩)] J (fun v J => ∃ k, v = .tuple #[.pointer (some ⟨k, 0, none⟩), .int .i64 (((growD n (T.right i) (E.right e)).2 : Nat) : Int)] ∧ RE J (growD n (T.right i) (E.right e)).1 k)) : Fun Tryd.prog 56 #[.pointer (some ⟨ki, 0, none⟩), .pointer (some ⟨ke, 0, none⟩)] I (fun v J => ∃ k, v = .tuple #[.pointer (some ⟨k, 0, none⟩), .int .i64 (((growD (n + 1) i e).2 : Nat) : Int)] ∧ RE J (growD (n + 1) i e).1 k) := by
  have hh := E.half_nf hnf
  have hgl := growD_nf n (T.left i) hh.1
  have hgr := growD_nf n (T.right i) hh.2
  have tl := growD_top n i.left e.left
  have tr := growD_top n i.right e.right
  have bl := growD_le n i.left e.left
  have br := growD_le n i.right e.right
  have hle := E.half_le e
  have hbh := E.base_half e
  have hbt := E.base_le e
  cases e with
  | leaf m =>
    have he0 : RE _ (E.leaf m) ke := he
    have hbt' : m ≤ (E.leaf m).top := hbt
    have hbh' : m + max (E.leaf m).left.top (E.leaf m).right.top = (E.leaf m).top := hbh
    refine enter_rule 128 [(0, .pointer (some ⟨ki, 0, none⟩)), (1, .pointer (some ⟨ke, 0, none⟩))] Tryd.func56 rfl (by kernel_rfl) ?_
    intro w s
    refine wp_seq ?_
    refine region_rule ?_
    refine ops_rule (C := []) [] [] 2 [] 0 (fun φ1 => [(5, .int .i64 0), (4, .pointer none)]) (fun φ1 => []) (fun φ1 => []) s trivial (fun φ1 => by kernel_rfl) ?_
    intro φ1 w1 s
    refine ops_done (by kernel_rfl) ?_
    refine wp_seq ?_
    refine wp_seq ?_
    refine region_rule ?_
    obtain ⟨pl2, pr2, hp2⟩ := RT.peek hi
    refine ops_rule (C := [(ke, .cells #[.int .u64 ((m : Nat) : Int), .pointer none, .pointer none] 112), (ki, .cells #[.int .i64 ((kindT i : Nat) : Int), .pointer pl2, .pointer pr2] 84)]) [] [] 12 [.c 0, .c 1] 0 (fun φ2 => [(30, .bool (((kindT i : Nat) : Int) == ((1 : Nat) : Int))), (29, .bool (((kindT i : Nat) : Int) == ((1 : Nat) : Int))), (28, .int .i64 ((kindT i : Nat) : Int)), (27, .pointer (some ⟨ki, 0, none⟩)), (26, .pointer (some ⟨ki, 0, none⟩)), (25, .pointer (some ⟨ki, 0, none⟩)), (24, .bool true), (23, .bool true), (22, .pointer none), (21, .pointer (some ⟨ke, 1, none⟩)), (20, .pointer (some ⟨ke, 0, none⟩)), (19, .pointer (some ⟨ke, 0, none⟩))]) (fun φ2 => []) (fun φ2 => [ke, ki]) s ⟨he, ⟨hp2, trivial⟩⟩ (fun φ2 => by kernel_rfl) ?_
    intro φ2 w2 s
    rw [nat_eql (a := (kindT i)) (b := 1)]
    refine ops_done (by kernel_rfl) ?_
    rcases Bool.eq_false_or_eq_true (decide ((kindT i) = 1)) with hc4 | hc4
    ·
      rw [hc4]
      refine cond_true_rule (b := true) (by kernel_rfl) rfl ?_
      refine wp_seq ?_
      refine region_rule ?_
      refine ops_rule (C := [(ke, .cells #[.int .u64 ((m : Nat) : Int), .pointer none, .pointer none] 112)]) [] [] 5 [.c 0] 0 (fun φ5 => [(35, .int .u64 (IntKind.wrap .u64 (((m : Nat) : Int) + ((1 : Nat) : Int)))), (34, .int .u64 ((m : Nat) : Int)), (33, .pointer (some ⟨ke, 0, none⟩)), (32, .pointer (some ⟨ke, 0, none⟩)), (31, .pointer (some ⟨ke, 0, none⟩))]) (fun φ5 => []) (fun φ5 => [ke]) s ⟨he, trivial⟩ (fun φ5 => by kernel_rfl) ?_
      intro φ5 w5 s
      rw [nat_addU (a := m) (b := 1) (by omega)]
      refine call_rule (some 36) s (rleaf_c (n := (m + 1))) (by kernel_rfl) ?_
      intro v6 I6 w6 le6 h6 s
      replace he0 := RE.mono le6 he0
      replace hi := RT.mono le6 hi
      replace he := le6 _ _ he
      replace hp2 := le6 _ _ hp2
      obtain ⟨k6, rfl, h6_0⟩ := h6
      refine ops_rule (C := []) [] [] 2 [] 0 (fun φ7 => [(5, .int .i64 0), (4, .pointer (some ⟨k6, 0, none⟩))]) (fun φ7 => []) (fun φ7 => []) s trivial (fun φ7 => by kernel_rfl) ?_
      intro φ7 w7 s
      refine ops_done (by kernel_rfl) ?_
      refine wp_ret ?_
      refine ret_rule (C := []) [] [] (.tuple #[.pointer (some ⟨k6, 0, none⟩), .int .i64 0]) [] [] s trivial (by kernel_rfl) ?_
      exact ⟨_, _, _, rfl, s, (by rw [growD_succ, if_pos ⟨of_decide_eq_true hc4, rfl⟩]; exact ⟨_, rfl, h6_0⟩)⟩
    ·
      rw [hc4]
      refine cond_false_rule (b := false) (by kernel_rfl) rfl ?_
      refine wp_skip ?_
      refine wp_seq ?_
      refine region_rule ?_
      refine ops_rule (C := []) [] [] 1 [] 0 (fun φ8 => [(6, .int .i64 1)]) (fun φ8 => []) (fun φ8 => []) s trivial (fun φ8 => by kernel_rfl) ?_
      intro φ8 w8 s
      refine ops_done (by kernel_rfl) ?_
      refine wp_seq ?_
      refine wp_seq ?_
      refine region_rule ?_
      refine ops_rule (C := [(ke, .cells #[.int .u64 ((m : Nat) : Int), .pointer none, .pointer none] 112)]) [] [] 5 [.c 0] 0 (fun φ9 => [(41, .bool true), (40, .pointer none), (39, .pointer (some ⟨ke, 1, none⟩)), (38, .pointer (some ⟨ke, 0, none⟩)), (37, .pointer (some ⟨ke, 0, none⟩))]) (fun φ9 => []) (fun φ9 => [ke]) s ⟨he, trivial⟩ (fun φ9 => by kernel_rfl) ?_
      intro φ9 w9 s
      refine ops_done (by kernel_rfl) ?_
      refine cond_true_rule (b := true) (by kernel_rfl) rfl ?_
      refine region_rule ?_
      refine ops_rule (C := []) [] [] 1 [] 0 (fun φ10 => [(6, .int .i64 1001)]) (fun φ10 => []) (fun φ10 => []) s trivial (fun φ10 => by kernel_rfl) ?_
      intro φ10 w10 s
      refine ops_done (by kernel_rfl) ?_
      refine wp_seq ?_
      refine region_rule ?_
      refine ops_rule (C := []) [] [] 1 [] 0 (fun φ11 => [(43, .pointer (some ⟨ke, 0, none⟩))]) (fun φ11 => []) (fun φ11 => []) s trivial (fun φ11 => by kernel_rfl) ?_
      intro φ11 w11 s
      refine call_rule (some 44) s (halves_c he0) (by kernel_rfl) ?_
      intro v12 I12 w12 le12 h12 s
      replace he0 := RE.mono le12 he0
      replace hi := RT.mono le12 hi
      replace he := le12 _ _ he
      replace hp2 := le12 _ _ hp2
      obtain ⟨k12, k2_12, rfl, h12_0, h12_1⟩ := h12
      refine ops_rule (C := []) [] [] 5 [] 0 (fun φ13 => [(8, .pointer (some ⟨k2_12, 0, none⟩)), (7, .pointer (some ⟨k12, 0, none⟩)), (46, .pointer (some ⟨k2_12, 0, none⟩)), (45, .pointer (some ⟨k12, 0, none⟩)), (42, .tuple #[.pointer (some ⟨k12, 0, none⟩), .pointer (some ⟨k2_12, 0, none⟩)])]) (fun φ13 => []) (fun φ13 => []) s trivial (fun φ13 => by kernel_rfl) ?_
      intro φ13 w13 s
      refine ops_done (by kernel_rfl) ?_
      refine wp_seq ?_
      refine region_rule ?_
      refine ops_rule (C := []) [] [] 1 [] 0 (fun φ14 => [(47, .pointer (some ⟨ki, 0, none⟩))]) (fun φ14 => []) (fun φ14 => []) s trivial (fun φ14 => by kernel_rfl) ?_
      intro φ14 w14 s
      refine call_rule (some 48) s (rleft_c hi) (by kernel_rfl) ?_
      intro v15 I15 w15 le15 h15 s
      replace he0 := RE.mono le15 he0
      replace hi := RT.mono le15 hi
      replace h12_0 := RE.mono le15 h12_0
      replace h12_1 := RE.mono le15 h12_1
      replace he := le15 _ _ he
      replace hp2 := le15 _ _ hp2
      obtain ⟨k15, rfl, h15_0⟩ := h15
      refine ops_rule (C := []) [] [] 1 [] 0 (fun φ16 => [(49, .pointer (some ⟨ki, 0, none⟩))]) (fun φ16 => []) (fun φ16 => []) s trivial (fun φ16 => by kernel_rfl) ?_
      intro φ16 w16 s
      refine call_rule (some 50) s (rright_c hi) (by kernel_rfl) ?_
      intro v17 I17 w17 le17 h17 s
      replace he0 := RE.mono le17 he0
      replace hi := RT.mono le17 hi
      replace h12_0 := RE.mono le17 h12_0
      replace h12_1 := RE.mono le17 h12_1
      replace h15_0 := RT.mono le17 h15_0
      replace he := le17 _ _ he
      replace hp2 := le17 _ _ hp2
      obtain ⟨k17, rfl, h17_0⟩ := h17
      refine ops_rule (C := []) [] [] 2 [] 0 (fun φ18 => [(10, .pointer (some ⟨k17, 0, none⟩)), (9, .pointer (some ⟨k15, 0, none⟩))]) (fun φ18 => []) (fun φ18 => []) s trivial (fun φ18 => by kernel_rfl) ?_
      intro φ18 w18 s
      refine ops_done (by kernel_rfl) ?_
      refine wp_seq ?_
      refine wp_seq ?_
      refine region_rule ?_
      obtain ⟨pl19, pr19, hp19⟩ := RT.peek h15_0
      refine ops_rule (C := [(k15, .cells #[.int .i64 ((kindT (T.left i) : Nat) : Int), .pointer pl19, .pointer pr19] 84)]) [] [] 5 [.c 0] 0 (fun φ19 => [(55, .bool (((kindT (T.left i) : Nat) : Int) == ((0 : Nat) : Int))), (54, .int .i64 ((kindT (T.left i) : Nat) : Int)), (53, .pointer (some ⟨k15, 0, none⟩)), (52, .pointer (some ⟨k15, 0, none⟩)), (51, .pointer (some ⟨k15, 0, none⟩))]) (fun φ19 => []) (fun φ19 => [k15]) s ⟨hp19, trivial⟩ (fun φ19 => by kernel_rfl) ?_
      intro φ19 w19 s
      rw [nat_eql (a := (kindT (T.left i))) (b := 0)]
      refine ops_done (by kernel_rfl) ?_
      rcases Bool.eq_false_or_eq_true (decide ((kindT (T.left i)) = 0)) with hc21 | hc21
      ·
        rw [hc21]
        refine cond_true_rule (b := true) (by kernel_rfl) rfl ?_
        refine wp_seq ?_
        refine region_rule ?_
        refine ops_rule (C := []) [] [] 2 [] 0 (fun φ22 => [(58, .pointer (some ⟨k2_12, 0, none⟩)), (57, .pointer (some ⟨k17, 0, none⟩))]) (fun φ22 => []) (fun φ22 => []) s trivial (fun φ22 => by kernel_rfl) ?_
        intro φ22 w22 s
        refine call_rule (some 59) s (ihr (fun q => (of_decide_eq_false hc4) q.1) (hor (of_decide_eq_true hc21)) h17_0 h12_1) (by kernel_rfl) ?_
        intro v23 I23 w23 le23 h23 s
        replace he0 := RE.mono le23 he0
        replace hi := RT.mono le23 hi
        replace h12_0 := RE.mono le23 h12_0
        replace h12_1 := RE.mono le23 h12_1
        replace h15_0 := RT.mono le23 h15_0
        replace h17_0 := RT.mono le23 h17_0
        replace he := le23 _ _ he
        replace hp2 := le23 _ _ hp2
        replace hp19 := le23 _ _ hp19
        obtain ⟨k23, rfl, h23_0⟩ := h23
        refine ops_rule (C := []) [] [] 5 [] 0 (fun φ24 => [(12, .int .i64 (((growD n (T.right i) (E.right (E.leaf m))).2 : Nat) : Int)), (11, .pointer (some ⟨k23, 0, none⟩)), (61, .int .i64 (((growD n (T.right i) (E.right (E.leaf m))).2 : Nat) : Int)), (60, .pointer (some ⟨k23, 0, none⟩)), (56, .tuple #[.pointer (some ⟨k23, 0, none⟩), .int .i64 (((growD n (T.right i) (E.right (E.leaf m))).2 : Nat) : Int)])]) (fun φ24 => []) (fun φ24 => []) s trivial (fun φ24 => by kernel_rfl) ?_
        intro φ24 w24 s
        refine ops_done (by kernel_rfl) ?_
        refine wp_seq ?_
        refine region_rule ?_
        refine ops_rule (C := [(ke, .cells #[.int .u64 ((m : Nat) : Int), .pointer none, .pointer none] 112)]) [] [] 6 [.c 0] 0 (fun φ25 => [(67, .pointer (some ⟨k23, 0, none⟩)), (66, .pointer (some ⟨k12, 0, none⟩)), (65, .int .u64 ((m : Nat) : Int)), (64, .pointer (some ⟨ke, 0, none⟩)), (63, .pointer (some ⟨ke, 0, none⟩)), (62, .pointer (some ⟨ke, 0, none⟩))]) (fun φ25 => []) (fun φ25 => [ke]) s ⟨he, trivial⟩ (fun φ25 => by kernel_rfl) ?_
        intro φ25 w25 s
        refine call_rule (some 68) s (rnode_c (n := m) h12_0 h23_0 hh.1 hgr (by omega)) (by kernel_rfl) ?_
        intro v26 I26 w26 le26 h26 s
        replace he0 := RE.mono le26 he0
        replace hi := RT.mono le26 hi
        replace h12_0 := RE.mono le26 h12_0
        replace h12_1 := RE.mono le26 h12_1
        replace h15_0 := RT.mono le26 h15_0
        replace h17_0 := RT.mono le26 h17_0
        replace h23_0 := RE.mono le26 h23_0
        replace he := le26 _ _ he
        replace hp2 := le26 _ _ hp2
        replace hp19 := le26 _ _ hp19
        obtain ⟨k26, rfl, h26_0⟩ := h26
        refine ops_rule (C := []) [] [] 5 [] 0 (fun φ27 => [(5, .int .i64 (IntKind.wrap .i64 ((((growD n (T.right i) (E.right (E.leaf m))).2 : Nat) : Int) + ((1001 : Nat) : Int)))), (4, .pointer (some ⟨k26, 0, none⟩)), (71, .int .i64 (IntKind.wrap .i64 ((((growD n (T.right i) (E.right (E.leaf m))).2 : Nat) : Int) + ((1001 : Nat) : Int)))), (70, .int .i64 1001), (69, .int .i64 (((growD n (T.right i) (E.right (E.leaf m))).2 : Nat) : Int))]) (fun φ27 => []) (fun φ27 => []) s trivial (fun φ27 => by kernel_rfl) ?_
        intro φ27 w27 s
        rw [nat_addI (a := ((growD n (T.right i) (E.right (E.leaf m))).2)) (b := 1001) (by omega)]
        refine ops_done (by kernel_rfl) ?_
        refine wp_ret ?_
        refine ret_rule (C := []) [] [] (.tuple #[.pointer (some ⟨k26, 0, none⟩), .int .i64 ((((growD n (T.right i) (E.right (E.leaf m))).2) + 1001 : Nat) : Int)]) [] [] s trivial (by kernel_rfl) ?_
        exact ⟨_, _, _, rfl, s, (by rw [growD_succ, if_neg (fun q => (of_decide_eq_false hc4) q.1), if_pos (of_decide_eq_true hc21)]; exact ⟨_, rfl, h26_0⟩)⟩
      ·
        rw [hc21]
        refine cond_false_rule (b := false) (by kernel_rfl) rfl ?_
        refine wp_skip ?_
        refine wp_seq ?_
        refine wp_seq ?_
        refine region_rule ?_
        obtain ⟨pl28, pr28, hp28⟩ := RT.peek h17_0
        refine ops_rule (C := [(k17, .cells #[.int .i64 ((kindT (T.right i) : Nat) : Int), .pointer pl28, .pointer pr28] 84)]) [] [] 5 [.c 0] 0 (fun φ28 => [(76, .bool (((kindT (T.right i) : Nat) : Int) == ((0 : Nat) : Int))), (75, .int .i64 ((kindT (T.right i) : Nat) : Int)), (74, .pointer (some ⟨k17, 0, none⟩)), (73, .pointer (some ⟨k17, 0, none⟩)), (72, .pointer (some ⟨k17, 0, none⟩))]) (fun φ28 => []) (fun φ28 => [k17]) s ⟨hp28, trivial⟩ (fun φ28 => by kernel_rfl) ?_
        intro φ28 w28 s
        rw [nat_eql (a := (kindT (T.right i))) (b := 0)]
        refine ops_done (by kernel_rfl) ?_
        rcases Bool.eq_false_or_eq_true (decide ((kindT (T.right i)) = 0)) with hc30 | hc30
        ·
          rw [hc30]
          refine cond_true_rule (b := true) (by kernel_rfl) rfl ?_
          refine wp_seq ?_
          refine region_rule ?_
          refine ops_rule (C := []) [] [] 2 [] 0 (fun φ31 => [(79, .pointer (some ⟨k12, 0, none⟩)), (78, .pointer (some ⟨k15, 0, none⟩))]) (fun φ31 => []) (fun φ31 => []) s trivial (fun φ31 => by kernel_rfl) ?_
          intro φ31 w31 s
          refine call_rule (some 80) s (ihl (fun q => (of_decide_eq_false hc4) q.1) (of_decide_eq_false hc21) h15_0 h12_0) (by kernel_rfl) ?_
          intro v32 I32 w32 le32 h32 s
          replace he0 := RE.mono le32 he0
          replace hi := RT.mono le32 hi
          replace h12_0 := RE.mono le32 h12_0
          replace h12_1 := RE.mono le32 h12_1
          replace h15_0 := RT.mono le32 h15_0
          replace h17_0 := RT.mono le32 h17_0
          replace he := le32 _ _ he
          replace hp2 := le32 _ _ hp2
          replace hp19 := le32 _ _ hp19
          replace hp28 := le32 _ _ hp28
          obtain ⟨k32, rfl, h32_0⟩ := h32
          refine ops_rule (C := []) [] [] 5 [] 0 (fun φ33 => [(14, .int .i64 (((growD n (T.left i) (E.left (E.leaf m))).2 : Nat) : Int)), (13, .pointer (some ⟨k32, 0, none⟩)), (82, .int .i64 (((growD n (T.left i) (E.left (E.leaf m))).2 : Nat) : Int)), (81, .pointer (some ⟨k32, 0, none⟩)), (77, .tuple #[.pointer (some ⟨k32, 0, none⟩), .int .i64 (((growD n (T.left i) (E.left (E.leaf m))).2 : Nat) : Int)])]) (fun φ33 => []) (fun φ33 => []) s trivial (fun φ33 => by kernel_rfl) ?_
          intro φ33 w33 s
          refine ops_done (by kernel_rfl) ?_
          refine wp_seq ?_
          refine region_rule ?_
          refine ops_rule (C := [(ke, .cells #[.int .u64 ((m : Nat) : Int), .pointer none, .pointer none] 112)]) [] [] 6 [.c 0] 0 (fun φ34 => [(88, .pointer (some ⟨k2_12, 0, none⟩)), (87, .pointer (some ⟨k32, 0, none⟩)), (86, .int .u64 ((m : Nat) : Int)), (85, .pointer (some ⟨ke, 0, none⟩)), (84, .pointer (some ⟨ke, 0, none⟩)), (83, .pointer (some ⟨ke, 0, none⟩))]) (fun φ34 => []) (fun φ34 => [ke]) s ⟨he, trivial⟩ (fun φ34 => by kernel_rfl) ?_
          intro φ34 w34 s
          refine call_rule (some 89) s (rnode_c (n := m) h32_0 h12_1 hgl hh.2 (by omega)) (by kernel_rfl) ?_
          intro v35 I35 w35 le35 h35 s
          replace he0 := RE.mono le35 he0
          replace hi := RT.mono le35 hi
          replace h12_0 := RE.mono le35 h12_0
          replace h12_1 := RE.mono le35 h12_1
          replace h15_0 := RT.mono le35 h15_0
          replace h17_0 := RT.mono le35 h17_0
          replace h32_0 := RE.mono le35 h32_0
          replace he := le35 _ _ he
          replace hp2 := le35 _ _ hp2
          replace hp19 := le35 _ _ hp19
          replace hp28 := le35 _ _ hp28
          obtain ⟨k35, rfl, h35_0⟩ := h35
          refine ops_rule (C := []) [] [] 5 [] 0 (fun φ36 => [(5, .int .i64 (IntKind.wrap .i64 ((((growD n (T.left i) (E.left (E.leaf m))).2 : Nat) : Int) + ((1001 : Nat) : Int)))), (4, .pointer (some ⟨k35, 0, none⟩)), (92, .int .i64 (IntKind.wrap .i64 ((((growD n (T.left i) (E.left (E.leaf m))).2 : Nat) : Int) + ((1001 : Nat) : Int)))), (91, .int .i64 1001), (90, .int .i64 (((growD n (T.left i) (E.left (E.leaf m))).2 : Nat) : Int))]) (fun φ36 => []) (fun φ36 => []) s trivial (fun φ36 => by kernel_rfl) ?_
          intro φ36 w36 s
          rw [nat_addI (a := ((growD n (T.left i) (E.left (E.leaf m))).2)) (b := 1001) (by omega)]
          refine ops_done (by kernel_rfl) ?_
          refine wp_ret ?_
          refine ret_rule (C := []) [] [] (.tuple #[.pointer (some ⟨k35, 0, none⟩), .int .i64 ((((growD n (T.left i) (E.left (E.leaf m))).2) + 1001 : Nat) : Int)]) [] [] s trivial (by kernel_rfl) ?_
          exact ⟨_, _, _, rfl, s, (by rw [growD_succ, if_neg (fun q => (of_decide_eq_false hc4) q.1), if_neg (of_decide_eq_false hc21), if_pos (of_decide_eq_true hc30)]; exact ⟨_, rfl, h35_0⟩)⟩
        ·
          rw [hc30]
          refine cond_false_rule (b := false) (by kernel_rfl) rfl ?_
          refine wp_skip ?_
          refine wp_seq ?_
          refine region_rule ?_
          refine ops_rule (C := []) [] [] 2 [] 0 (fun φ37 => [(95, .pointer (some ⟨k12, 0, none⟩)), (94, .pointer (some ⟨k15, 0, none⟩))]) (fun φ37 => []) (fun φ37 => []) s trivial (fun φ37 => by kernel_rfl) ?_
          intro φ37 w37 s
          refine call_rule (some 96) s (ihl (fun q => (of_decide_eq_false hc4) q.1) (of_decide_eq_false hc21) h15_0 h12_0) (by kernel_rfl) ?_
          intro v38 I38 w38 le38 h38 s
          replace he0 := RE.mono le38 he0
          replace hi := RT.mono le38 hi
          replace h12_0 := RE.mono le38 h12_0
          replace h12_1 := RE.mono le38 h12_1
          replace h15_0 := RT.mono le38 h15_0
          replace h17_0 := RT.mono le38 h17_0
          replace he := le38 _ _ he
          replace hp2 := le38 _ _ hp2
          replace hp19 := le38 _ _ hp19
          replace hp28 := le38 _ _ hp28
          obtain ⟨k38, rfl, h38_0⟩ := h38
          refine ops_rule (C := []) [] [] 5 [] 0 (fun φ39 => [(16, .int .i64 (((growD n (T.left i) (E.left (E.leaf m))).2 : Nat) : Int)), (15, .pointer (some ⟨k38, 0, none⟩)), (98, .int .i64 (((growD n (T.left i) (E.left (E.leaf m))).2 : Nat) : Int)), (97, .pointer (some ⟨k38, 0, none⟩)), (93, .tuple #[.pointer (some ⟨k38, 0, none⟩), .int .i64 (((growD n (T.left i) (E.left (E.leaf m))).2 : Nat) : Int)])]) (fun φ39 => []) (fun φ39 => []) s trivial (fun φ39 => by kernel_rfl) ?_
          intro φ39 w39 s
          refine ops_done (by kernel_rfl) ?_
          refine wp_seq ?_
          refine region_rule ?_
          refine ops_rule (C := []) [] [] 2 [] 0 (fun φ40 => [(101, .pointer (some ⟨k2_12, 0, none⟩)), (100, .pointer (some ⟨k17, 0, none⟩))]) (fun φ40 => []) (fun φ40 => []) s trivial (fun φ40 => by kernel_rfl) ?_
          intro φ40 w40 s
          refine call_rule (some 102) s (ihr (fun q => (of_decide_eq_false hc4) q.1) (of_decide_eq_false hc30) h17_0 h12_1) (by kernel_rfl) ?_
          intro v41 I41 w41 le41 h41 s
          replace he0 := RE.mono le41 he0
          replace hi := RT.mono le41 hi
          replace h12_0 := RE.mono le41 h12_0
          replace h12_1 := RE.mono le41 h12_1
          replace h15_0 := RT.mono le41 h15_0
          replace h17_0 := RT.mono le41 h17_0
          replace h38_0 := RE.mono le41 h38_0
          replace he := le41 _ _ he
          replace hp2 := le41 _ _ hp2
          replace hp19 := le41 _ _ hp19
          replace hp28 := le41 _ _ hp28
          obtain ⟨k41, rfl, h41_0⟩ := h41
          refine ops_rule (C := []) [] [] 5 [] 0 (fun φ42 => [(18, .int .i64 (((growD n (T.right i) (E.right (E.leaf m))).2 : Nat) : Int)), (17, .pointer (some ⟨k41, 0, none⟩)), (104, .int .i64 (((growD n (T.right i) (E.right (E.leaf m))).2 : Nat) : Int)), (103, .pointer (some ⟨k41, 0, none⟩)), (99, .tuple #[.pointer (some ⟨k41, 0, none⟩), .int .i64 (((growD n (T.right i) (E.right (E.leaf m))).2 : Nat) : Int)])]) (fun φ42 => []) (fun φ42 => []) s trivial (fun φ42 => by kernel_rfl) ?_
          intro φ42 w42 s
          refine ops_done (by kernel_rfl) ?_
          refine wp_seq ?_
          refine wp_seq ?_
          refine region_rule ?_
          refine ops_rule (C := []) [] [] 3 [] 0 (fun φ43 => [(107, .bool (decide ((((growD n (T.left i) (E.left (E.leaf m))).2 : Nat) : Int) < (((growD n (T.right i) (E.right (E.leaf m))).2 : Nat) : Int)))), (106, .int .i64 (((growD n (T.right i) (E.right (E.leaf m))).2 : Nat) : Int)), (105, .int .i64 (((growD n (T.left i) (E.left (E.leaf m))).2 : Nat) : Int))]) (fun φ43 => []) (fun φ43 => []) s trivial (fun φ43 => by kernel_rfl) ?_
          intro φ43 w43 s
          rw [nat_lss (a := ((growD n (T.left i) (E.left (E.leaf m))).2)) (b := ((growD n (T.right i) (E.right (E.leaf m))).2))]
          refine ops_done (by kernel_rfl) ?_
          rcases Bool.eq_false_or_eq_true (decide (((growD n (T.left i) (E.left (E.leaf m))).2) < ((growD n (T.right i) (E.right (E.leaf m))).2))) with hc44 | hc44
          ·
            rw [hc44]
            refine cond_true_rule (b := true) (by kernel_rfl) rfl ?_
            refine wp_seq ?_
            refine region_rule ?_
            refine ops_rule (C := [(ke, .cells #[.int .u64 ((m : Nat) : Int), .pointer none, .pointer none] 112)]) [] [] 6 [.c 0] 0 (fun φ45 => [(113, .pointer (some ⟨k2_12, 0, none⟩)), (112, .pointer (some ⟨k38, 0, none⟩)), (111, .int .u64 ((m : Nat) : Int)), (110, .pointer (some ⟨ke, 0, none⟩)), (109, .pointer (some ⟨ke, 0, none⟩)), (108, .pointer (some ⟨ke, 0, none⟩))]) (fun φ45 => []) (fun φ45 => [ke]) s ⟨he, trivial⟩ (fun φ45 => by kernel_rfl) ?_
            intro φ45 w45 s
            refine call_rule (some 114) s (rnode_c (n := m) h38_0 h12_1 hgl hh.2 (by omega)) (by kernel_rfl) ?_
            intro v46 I46 w46 le46 h46 s
            replace he0 := RE.mono le46 he0
            replace hi := RT.mono le46 hi
            replace h12_0 := RE.mono le46 h12_0
            replace h12_1 := RE.mono le46 h12_1
            replace h15_0 := RT.mono le46 h15_0
            replace h17_0 := RT.mono le46 h17_0
            replace h38_0 := RE.mono le46 h38_0
            replace h41_0 := RE.mono le46 h41_0
            replace he := le46 _ _ he
            replace hp2 := le46 _ _ hp2
            replace hp19 := le46 _ _ hp19
            replace hp28 := le46 _ _ hp28
            obtain ⟨k46, rfl, h46_0⟩ := h46
            refine ops_rule (C := []) [] [] 5 [] 0 (fun φ47 => [(5, .int .i64 (IntKind.wrap .i64 ((((growD n (T.left i) (E.left (E.leaf m))).2 : Nat) : Int) + ((1001 : Nat) : Int)))), (4, .pointer (some ⟨k46, 0, none⟩)), (117, .int .i64 (IntKind.wrap .i64 ((((growD n (T.left i) (E.left (E.leaf m))).2 : Nat) : Int) + ((1001 : Nat) : Int)))), (116, .int .i64 1001), (115, .int .i64 (((growD n (T.left i) (E.left (E.leaf m))).2 : Nat) : Int))]) (fun φ47 => []) (fun φ47 => []) s trivial (fun φ47 => by kernel_rfl) ?_
            intro φ47 w47 s
            rw [nat_addI (a := ((growD n (T.left i) (E.left (E.leaf m))).2)) (b := 1001) (by omega)]
            refine ops_done (by kernel_rfl) ?_
            refine wp_ret ?_
            refine ret_rule (C := []) [] [] (.tuple #[.pointer (some ⟨k46, 0, none⟩), .int .i64 ((((growD n (T.left i) (E.left (E.leaf m))).2) + 1001 : Nat) : Int)]) [] [] s trivial (by kernel_rfl) ?_
            exact ⟨_, _, _, rfl, s, (by rw [growD_succ, if_neg (fun q => (of_decide_eq_false hc4) q.1), if_neg (of_decide_eq_false hc21), if_neg (of_decide_eq_false hc30), if_pos (of_decide_eq_true hc44)]; exact ⟨_, rfl, h46_0⟩)⟩
          ·
            rw [hc44]
            refine cond_false_rule (b := false) (by kernel_rfl) rfl ?_
            refine wp_skip ?_
            refine wp_seq ?_
            refine region_rule ?_
            refine ops_rule (C := [(ke, .cells #[.int .u64 ((m : Nat) : Int), .pointer none, .pointer none] 112)]) [] [] 6 [.c 0] 0 (fun φ48 => [(123, .pointer (some ⟨k41, 0, none⟩)), (122, .pointer (some ⟨k12, 0, none⟩)), (121, .int .u64 ((m : Nat) : Int)), (120, .pointer (some ⟨ke, 0, none⟩)), (119, .pointer (some ⟨ke, 0, none⟩)), (118, .pointer (some ⟨ke, 0, none⟩))]) (fun φ48 => []) (fun φ48 => [ke]) s ⟨he, trivial⟩ (fun φ48 => by kernel_rfl) ?_
            intro φ48 w48 s
            refine call_rule (some 124) s (rnode_c (n := m) h12_0 h41_0 hh.1 hgr (by omega)) (by kernel_rfl) ?_
            intro v49 I49 w49 le49 h49 s
            replace he0 := RE.mono le49 he0
            replace hi := RT.mono le49 hi
            replace h12_0 := RE.mono le49 h12_0
            replace h12_1 := RE.mono le49 h12_1
            replace h15_0 := RT.mono le49 h15_0
            replace h17_0 := RT.mono le49 h17_0
            replace h38_0 := RE.mono le49 h38_0
            replace h41_0 := RE.mono le49 h41_0
            replace he := le49 _ _ he
            replace hp2 := le49 _ _ hp2
            replace hp19 := le49 _ _ hp19
            replace hp28 := le49 _ _ hp28
            obtain ⟨k49, rfl, h49_0⟩ := h49
            refine ops_rule (C := []) [] [] 5 [] 0 (fun φ50 => [(5, .int .i64 (IntKind.wrap .i64 ((((growD n (T.right i) (E.right (E.leaf m))).2 : Nat) : Int) + ((1001 : Nat) : Int)))), (4, .pointer (some ⟨k49, 0, none⟩)), (127, .int .i64 (IntKind.wrap .i64 ((((growD n (T.right i) (E.right (E.leaf m))).2 : Nat) : Int) + ((1001 : Nat) : Int)))), (126, .int .i64 1001), (125, .int .i64 (((growD n (T.right i) (E.right (E.leaf m))).2 : Nat) : Int))]) (fun φ50 => []) (fun φ50 => []) s trivial (fun φ50 => by kernel_rfl) ?_
            intro φ50 w50 s
            rw [nat_addI (a := ((growD n (T.right i) (E.right (E.leaf m))).2)) (b := 1001) (by omega)]
            refine ops_done (by kernel_rfl) ?_
            refine wp_ret ?_
            refine ret_rule (C := []) [] [] (.tuple #[.pointer (some ⟨k49, 0, none⟩), .int .i64 ((((growD n (T.right i) (E.right (E.leaf m))).2) + 1001 : Nat) : Int)]) [] [] s trivial (by kernel_rfl) ?_
            exact ⟨_, _, _, rfl, s, (by rw [growD_succ, if_neg (fun q => (of_decide_eq_false hc4) q.1), if_neg (of_decide_eq_false hc21), if_neg (of_decide_eq_false hc30), if_neg (of_decide_eq_false hc44)]; exact ⟨_, rfl, h49_0⟩)⟩
  | node m l r =>
    have he0 : RE _ (E.node m l r) ke := he
    obtain ⟨kl, kr, hek, hl, hr⟩ := he
    have hbt' : m ≤ (E.node m l r).top := hbt
    have hbh' : m + max (E.node m l r).left.top (E.node m l r).right.top = (E.node m l r).top := hbh
    have ha : ¬ (kindT i = 1 ∧ (E.node m l r).isLeaf = true) := fun q => by cases q.2
    refine enter_rule 128 [(0, .pointer (some ⟨ki, 0, none⟩)), (1, .pointer (some ⟨ke, 0, none⟩))] Tryd.func56 rfl (by kernel_rfl) ?_
    intro w s
    refine wp_seq ?_
    refine region_rule ?_
    refine ops_rule (C := []) [] [] 2 [] 0 (fun φ1 => [(5, .int .i64 0), (4, .pointer none)]) (fun φ1 => []) (fun φ1 => []) s trivial (fun φ1 => by kernel_rfl) ?_
    intro φ1 w1 s
    refine ops_done (by kernel_rfl) ?_
    refine wp_seq ?_
    refine wp_seq ?_
    refine region_rule ?_
    refine ops_rule (C := [(ke, .cells #[.int .u64 ((m : Nat) : Int), .pointer (some ⟨kl, 0, none⟩), .pointer (some ⟨kr, 0, none⟩)] 112)]) [] [] 12 [.c 0] 0 (fun φ2 => [(30, .bool false), (29, undef), (28, undef), (27, undef), (26, undef), (25, undef), (24, .bool false), (23, .bool false), (22, .pointer (some ⟨kl, 0, none⟩)), (21, .pointer (some ⟨ke, 1, none⟩)), (20, .pointer (some ⟨ke, 0, none⟩)), (19, .pointer (some ⟨ke, 0, none⟩))]) (fun φ2 => []) (fun φ2 => [ke]) s ⟨hek, trivial⟩ (fun φ2 => by kernel_rfl) ?_
    intro φ2 w2 s
    refine ops_done (by kernel_rfl) ?_
    refine cond_false_rule (b := false) (by kernel_rfl) rfl ?_
    refine wp_skip ?_
    refine wp_seq ?_
    refine region_rule ?_
    refine ops_rule (C := []) [] [] 1 [] 0 (fun φ3 => [(6, .int .i64 1)]) (fun φ3 => []) (fun φ3 => []) s trivial (fun φ3 => by kernel_rfl) ?_
    intro φ3 w3 s
    refine ops_done (by kernel_rfl) ?_
    refine wp_seq ?_
    refine wp_seq ?_
    refine region_rule ?_
    refine ops_rule (C := [(ke, .cells #[.int .u64 ((m : Nat) : Int), .pointer (some ⟨kl, 0, none⟩), .pointer (some ⟨kr, 0, none⟩)] 112)]) [] [] 5 [.c 0] 0 (fun φ4 => [(41, .bool false), (40, .pointer (some ⟨kl, 0, none⟩)), (39, .pointer (some ⟨ke, 1, none⟩)), (38, .pointer (some ⟨ke, 0, none⟩)), (37, .pointer (some ⟨ke, 0, none⟩))]) (fun φ4 => []) (fun φ4 => [ke]) s ⟨hek, trivial⟩ (fun φ4 => by kernel_rfl) ?_
    intro φ4 w4 s
    refine ops_done (by kernel_rfl) ?_
    refine cond_false_rule (b := false) (by kernel_rfl) rfl ?_
    refine wp_skip ?_
    refine wp_seq ?_
    refine region_rule ?_
    refine ops_rule (C := []) [] [] 1 [] 0 (fun φ5 => [(43, .pointer (some ⟨ke, 0, none⟩))]) (fun φ5 => []) (fun φ5 => []) s trivial (fun φ5 => by kernel_rfl) ?_
    intro φ5 w5 s
    refine call_rule (some 44) s (halves_c he0) (by kernel_rfl) ?_
    intro v6 I6 w6 le6 h6 s
    replace hl := RE.mono le6 hl
    replace hr := RE.mono le6 hr
    replace he0 := RE.mono le6 he0
    replace hi := RT.mono le6 hi
    replace hek := le6 _ _ hek
    obtain ⟨k6, k2_6, rfl, h6_0, h6_1⟩ := h6
    refine ops_rule (C := []) [] [] 5 [] 0 (fun φ7 => [(8, .pointer (some ⟨k2_6, 0, none⟩)), (7, .pointer (some ⟨k6, 0, none⟩)), (46, .pointer (some ⟨k2_6, 0, none⟩)), (45, .pointer (some ⟨k6, 0, none⟩)), (42, .tuple #[.pointer (some ⟨k6, 0, none⟩), .pointer (some ⟨k2_6, 0, none⟩)])]) (fun φ7 => []) (fun φ7 => []) s trivial (fun φ7 => by kernel_rfl) ?_
    intro φ7 w7 s
    refine ops_done (by kernel_rfl) ?_
    refine wp_seq ?_
    refine region_rule ?_
    refine ops_rule (C := []) [] [] 1 [] 0 (fun φ8 => [(47, .pointer (some ⟨ki, 0, none⟩))]) (fun φ8 => []) (fun φ8 => []) s trivial (fun φ8 => by kernel_rfl) ?_
    intro φ8 w8 s
    refine call_rule (some 48) s (rleft_c hi) (by kernel_rfl) ?_
    intro v9 I9 w9 le9 h9 s
    replace hl := RE.mono le9 hl
    replace hr := RE.mono le9 hr
    replace he0 := RE.mono le9 he0
    replace hi := RT.mono le9 hi
    replace h6_0 := RE.mono le9 h6_0
    replace h6_1 := RE.mono le9 h6_1
    replace hek := le9 _ _ hek
    obtain ⟨k9, rfl, h9_0⟩ := h9
    refine ops_rule (C := []) [] [] 1 [] 0 (fun φ10 => [(49, .pointer (some ⟨ki, 0, none⟩))]) (fun φ10 => []) (fun φ10 => []) s trivial (fun φ10 => by kernel_rfl) ?_
    intro φ10 w10 s
    refine call_rule (some 50) s (rright_c hi) (by kernel_rfl) ?_
    intro v11 I11 w11 le11 h11 s
    replace hl := RE.mono le11 hl
    replace hr := RE.mono le11 hr
    replace he0 := RE.mono le11 he0
    replace hi := RT.mono le11 hi
    replace h6_0 := RE.mono le11 h6_0
    replace h6_1 := RE.mono le11 h6_1
    replace h9_0 := RT.mono le11 h9_0
    replace hek := le11 _ _ hek
    obtain ⟨k11, rfl, h11_0⟩ := h11
    refine ops_rule (C := []) [] [] 2 [] 0 (fun φ12 => [(10, .pointer (some ⟨k11, 0, none⟩)), (9, .pointer (some ⟨k9, 0, none⟩))]) (fun φ12 => []) (fun φ12 => []) s trivial (fun φ12 => by kernel_rfl) ?_
    intro φ12 w12 s
    refine ops_done (by kernel_rfl) ?_
    refine wp_seq ?_
    refine wp_seq ?_
    refine region_rule ?_
    obtain ⟨pl13, pr13, hp13⟩ := RT.peek h9_0
    refine ops_rule (C := [(k9, .cells #[.int .i64 ((kindT (T.left i) : Nat) : Int), .pointer pl13, .pointer pr13] 84)]) [] [] 5 [.c 0] 0 (fun φ13 => [(55, .bool (((kindT (T.left i) : Nat) : Int) == ((0 : Nat) : Int))), (54, .int .i64 ((kindT (T.left i) : Nat) : Int)), (53, .pointer (some ⟨k9, 0, none⟩)), (52, .pointer (some ⟨k9, 0, none⟩)), (51, .pointer (some ⟨k9, 0, none⟩))]) (fun φ13 => []) (fun φ13 => [k9]) s ⟨hp13, trivial⟩ (fun φ13 => by kernel_rfl) ?_
    intro φ13 w13 s
    rw [nat_eql (a := (kindT (T.left i))) (b := 0)]
    refine ops_done (by kernel_rfl) ?_
    rcases Bool.eq_false_or_eq_true (decide ((kindT (T.left i)) = 0)) with hc15 | hc15
    ·
      rw [hc15]
      refine cond_true_rule (b := true) (by kernel_rfl) rfl ?_
      refine wp_seq ?_
      refine region_rule ?_
      refine ops_rule (C := []) [] [] 2 [] 0 (fun φ16 => [(58, .pointer (some ⟨k2_6, 0, none⟩)), (57, .pointer (some ⟨k11, 0, none⟩))]) (fun φ16 => []) (fun φ16 => []) s trivial (fun φ16 => by kernel_rfl) ?_
      intro φ16 w16 s
      refine call_rule (some 59) s (ihr ha (hor (of_decide_eq_true hc15)) h11_0 h6_1) (by kernel_rfl) ?_
      intro v17 I17 w17 le17 h17 s
      replace hl := RE.mono le17 hl
      replace hr := RE.mono le17 hr
      replace he0 := RE.mono le17 he0
      replace hi := RT.mono le17 hi
      replace h6_0 := RE.mono le17 h6_0
      replace h6_1 := RE.mono le17 h6_1
      replace h9_0 := RT.mono le17 h9_0
      replace h11_0 := RT.mono le17 h11_0
      replace hek := le17 _ _ hek
      replace hp13 := le17 _ _ hp13
      obtain ⟨k17, rfl, h17_0⟩ := h17
      refine ops_rule (C := []) [] [] 5 [] 0 (fun φ18 => [(12, .int .i64 (((growD n (T.right i) (E.right (E.node m l r))).2 : Nat) : Int)), (11, .pointer (some ⟨k17, 0, none⟩)), (61, .int .i64 (((growD n (T.right i) (E.right (E.node m l r))).2 : Nat) : Int)), (60, .pointer (some ⟨k17, 0, none⟩)), (56, .tuple #[.pointer (some ⟨k17, 0, none⟩), .int .i64 (((growD n (T.right i) (E.right (E.node m l r))).2 : Nat) : Int)])]) (fun φ18 => []) (fun φ18 => []) s trivial (fun φ18 => by kernel_rfl) ?_
      intro φ18 w18 s
      refine ops_done (by kernel_rfl) ?_
      refine wp_seq ?_
      refine region_rule ?_
      refine ops_rule (C := [(ke, .cells #[.int .u64 ((m : Nat) : Int), .pointer (some ⟨kl, 0, none⟩), .pointer (some ⟨kr, 0, none⟩)] 112)]) [] [] 6 [.c 0] 0 (fun φ19 => [(67, .pointer (some ⟨k17, 0, none⟩)), (66, .pointer (some ⟨k6, 0, none⟩)), (65, .int .u64 ((m : Nat) : Int)), (64, .pointer (some ⟨ke, 0, none⟩)), (63, .pointer (some ⟨ke, 0, none⟩)), (62, .pointer (some ⟨ke, 0, none⟩))]) (fun φ19 => []) (fun φ19 => [ke]) s ⟨hek, trivial⟩ (fun φ19 => by kernel_rfl) ?_
      intro φ19 w19 s
      refine call_rule (some 68) s (rnode_c (n := m) h6_0 h17_0 hh.1 hgr (by omega)) (by kernel_rfl) ?_
      intro v20 I20 w20 le20 h20 s
      replace hl := RE.mono le20 hl
      replace hr := RE.mono le20 hr
      replace he0 := RE.mono le20 he0
      replace hi := RT.mono le20 hi
      replace h6_0 := RE.mono le20 h6_0
      replace h6_1 := RE.mono le20 h6_1
      replace h9_0 := RT.mono le20 h9_0
      replace h11_0 := RT.mono le20 h11_0
      replace h17_0 := RE.mono le20 h17_0
      replace hek := le20 _ _ hek
      replace hp13 := le20 _ _ hp13
      obtain ⟨k20, rfl, h20_0⟩ := h20
      refine ops_rule (C := []) [] [] 5 [] 0 (fun φ21 => [(5, .int .i64 (IntKind.wrap .i64 ((((growD n (T.right i) (E.right (E.node m l r))).2 : Nat) : Int) + ((1 : Nat) : Int)))), (4, .pointer (some ⟨k20, 0, none⟩)), (71, .int .i64 (IntKind.wrap .i64 ((((growD n (T.right i) (E.right (E.node m l r))).2 : Nat) : Int) + ((1 : Nat) : Int)))), (70, .int .i64 1), (69, .int .i64 (((growD n (T.right i) (E.right (E.node m l r))).2 : Nat) : Int))]) (fun φ21 => []) (fun φ21 => []) s trivial (fun φ21 => by kernel_rfl) ?_
      intro φ21 w21 s
      rw [nat_addI (a := ((growD n (T.right i) (E.right (E.node m l r))).2)) (b := 1) (by omega)]
      refine ops_done (by kernel_rfl) ?_
      refine wp_ret ?_
      refine ret_rule (C := []) [] [] (.tuple #[.pointer (some ⟨k20, 0, none⟩), .int .i64 ((((growD n (T.right i) (E.right (E.node m l r))).2) + 1 : Nat) : Int)]) [] [] s trivial (by kernel_rfl) ?_
      exact ⟨_, _, _, rfl, s, (by rw [growD_succ, if_neg (fun q => by cases q.2), if_pos (of_decide_eq_true hc15)]; exact ⟨_, rfl, h20_0⟩)⟩
    ·
      rw [hc15]
      refine cond_false_rule (b := false) (by kernel_rfl) rfl ?_
      refine wp_skip ?_
      refine wp_seq ?_
      refine wp_seq ?_
      refine region_rule ?_
      obtain ⟨pl22, pr22, hp22⟩ := RT.peek h11_0
      refine ops_rule (C := [(k11, .cells #[.int .i64 ((kindT (T.right i) : Nat) : Int), .pointer pl22, .pointer pr22] 84)]) [] [] 5 [.c 0] 0 (fun φ22 => [(76, .bool (((kindT (T.right i) : Nat) : Int) == ((0 : Nat) : Int))), (75, .int .i64 ((kindT (T.right i) : Nat) : Int)), (74, .pointer (some ⟨k11, 0, none⟩)), (73, .pointer (some ⟨k11, 0, none⟩)), (72, .pointer (some ⟨k11, 0, none⟩))]) (fun φ22 => []) (fun φ22 => [k11]) s ⟨hp22, trivial⟩ (fun φ22 => by kernel_rfl) ?_
      intro φ22 w22 s
      rw [nat_eql (a := (kindT (T.right i))) (b := 0)]
      refine ops_done (by kernel_rfl) ?_
      rcases Bool.eq_false_or_eq_true (decide ((kindT (T.right i)) = 0)) with hc24 | hc24
      ·
        rw [hc24]
        refine cond_true_rule (b := true) (by kernel_rfl) rfl ?_
        refine wp_seq ?_
        refine region_rule ?_
        refine ops_rule (C := []) [] [] 2 [] 0 (fun φ25 => [(79, .pointer (some ⟨k6, 0, none⟩)), (78, .pointer (some ⟨k9, 0, none⟩))]) (fun φ25 => []) (fun φ25 => []) s trivial (fun φ25 => by kernel_rfl) ?_
        intro φ25 w25 s
        refine call_rule (some 80) s (ihl ha (of_decide_eq_false hc15) h9_0 h6_0) (by kernel_rfl) ?_
        intro v26 I26 w26 le26 h26 s
        replace hl := RE.mono le26 hl
        replace hr := RE.mono le26 hr
        replace he0 := RE.mono le26 he0
        replace hi := RT.mono le26 hi
        replace h6_0 := RE.mono le26 h6_0
        replace h6_1 := RE.mono le26 h6_1
        replace h9_0 := RT.mono le26 h9_0
        replace h11_0 := RT.mono le26 h11_0
        replace hek := le26 _ _ hek
        replace hp13 := le26 _ _ hp13
        replace hp22 := le26 _ _ hp22
        obtain ⟨k26, rfl, h26_0⟩ := h26
        refine ops_rule (C := []) [] [] 5 [] 0 (fun φ27 => [(14, .int .i64 (((growD n (T.left i) (E.left (E.node m l r))).2 : Nat) : Int)), (13, .pointer (some ⟨k26, 0, none⟩)), (82, .int .i64 (((growD n (T.left i) (E.left (E.node m l r))).2 : Nat) : Int)), (81, .pointer (some ⟨k26, 0, none⟩)), (77, .tuple #[.pointer (some ⟨k26, 0, none⟩), .int .i64 (((growD n (T.left i) (E.left (E.node m l r))).2 : Nat) : Int)])]) (fun φ27 => []) (fun φ27 => []) s trivial (fun φ27 => by kernel_rfl) ?_
        intro φ27 w27 s
        refine ops_done (by kernel_rfl) ?_
        refine wp_seq ?_
        refine region_rule ?_
        refine ops_rule (C := [(ke, .cells #[.int .u64 ((m : Nat) : Int), .pointer (some ⟨kl, 0, none⟩), .pointer (some ⟨kr, 0, none⟩)] 112)]) [] [] 6 [.c 0] 0 (fun φ28 => [(88, .pointer (some ⟨k2_6, 0, none⟩)), (87, .pointer (some ⟨k26, 0, none⟩)), (86, .int .u64 ((m : Nat) : Int)), (85, .pointer (some ⟨ke, 0, none⟩)), (84, .pointer (some ⟨ke, 0, none⟩)), (83, .pointer (some ⟨ke, 0, none⟩))]) (fun φ28 => []) (fun φ28 => [ke]) s ⟨hek, trivial⟩ (fun φ28 => by kernel_rfl) ?_
        intro φ28 w28 s
        refine call_rule (some 89) s (rnode_c (n := m) h26_0 h6_1 hgl hh.2 (by omega)) (by kernel_rfl) ?_
        intro v29 I29 w29 le29 h29 s
        replace hl := RE.mono le29 hl
        replace hr := RE.mono le29 hr
        replace he0 := RE.mono le29 he0
        replace hi := RT.mono le29 hi
        replace h6_0 := RE.mono le29 h6_0
        replace h6_1 := RE.mono le29 h6_1
        replace h9_0 := RT.mono le29 h9_0
        replace h11_0 := RT.mono le29 h11_0
        replace h26_0 := RE.mono le29 h26_0
        replace hek := le29 _ _ hek
        replace hp13 := le29 _ _ hp13
        replace hp22 := le29 _ _ hp22
        obtain ⟨k29, rfl, h29_0⟩ := h29
        refine ops_rule (C := []) [] [] 5 [] 0 (fun φ30 => [(5, .int .i64 (IntKind.wrap .i64 ((((growD n (T.left i) (E.left (E.node m l r))).2 : Nat) : Int) + ((1 : Nat) : Int)))), (4, .pointer (some ⟨k29, 0, none⟩)), (92, .int .i64 (IntKind.wrap .i64 ((((growD n (T.left i) (E.left (E.node m l r))).2 : Nat) : Int) + ((1 : Nat) : Int)))), (91, .int .i64 1), (90, .int .i64 (((growD n (T.left i) (E.left (E.node m l r))).2 : Nat) : Int))]) (fun φ30 => []) (fun φ30 => []) s trivial (fun φ30 => by kernel_rfl) ?_
        intro φ30 w30 s
        rw [nat_addI (a := ((growD n (T.left i) (E.left (E.node m l r))).2)) (b := 1) (by omega)]
        refine ops_done (by kernel_rfl) ?_
        refine wp_ret ?_
        refine ret_rule (C := []) [] [] (.tuple #[.pointer (some ⟨k29, 0, none⟩), .int .i64 ((((growD n (T.left i) (E.left (E.node m l r))).2) + 1 : Nat) : Int)]) [] [] s trivial (by kernel_rfl) ?_
        exact ⟨_, _, _, rfl, s, (by rw [growD_succ, if_neg (fun q => by cases q.2), if_neg (of_decide_eq_false hc15), if_pos (of_decide_eq_true hc24)]; exact ⟨_, rfl, h29_0⟩)⟩
      ·
        rw [hc24]
        refine cond_false_rule (b := false) (by kernel_rfl) rfl ?_
        refine wp_skip ?_
        refine wp_seq ?_
        refine region_rule ?_
        refine ops_rule (C := []) [] [] 2 [] 0 (fun φ31 => [(95, .pointer (some ⟨k6, 0, none⟩)), (94, .pointer (some ⟨k9, 0, none⟩))]) (fun φ31 => []) (fun φ31 => []) s trivial (fun φ31 => by kernel_rfl) ?_
        intro φ31 w31 s
        refine call_rule (some 96) s (ihl ha (of_decide_eq_false hc15) h9_0 h6_0) (by kernel_rfl) ?_
        intro v32 I32 w32 le32 h32 s
        replace hl := RE.mono le32 hl
        replace hr := RE.mono le32 hr
        replace he0 := RE.mono le32 he0
        replace hi := RT.mono le32 hi
        replace h6_0 := RE.mono le32 h6_0
        replace h6_1 := RE.mono le32 h6_1
        replace h9_0 := RT.mono le32 h9_0
        replace h11_0 := RT.mono le32 h11_0
        replace hek := le32 _ _ hek
        replace hp13 := le32 _ _ hp13
        replace hp22 := le32 _ _ hp22
        obtain ⟨k32, rfl, h32_0⟩ := h32
        refine ops_rule (C := []) [] [] 5 [] 0 (fun φ33 => [(16, .int .i64 (((growD n (T.left i) (E.left (E.node m l r))).2 : Nat) : Int)), (15, .pointer (some ⟨k32, 0, none⟩)), (98, .int .i64 (((growD n (T.left i) (E.left (E.node m l r))).2 : Nat) : Int)), (97, .pointer (some ⟨k32, 0, none⟩)), (93, .tuple #[.pointer (some ⟨k32, 0, none⟩), .int .i64 (((growD n (T.left i) (E.left (E.node m l r))).2 : Nat) : Int)])]) (fun φ33 => []) (fun φ33 => []) s trivial (fun φ33 => by kernel_rfl) ?_
        intro φ33 w33 s
        refine ops_done (by kernel_rfl) ?_
        refine wp_seq ?_
        refine region_rule ?_
        refine ops_rule (C := []) [] [] 2 [] 0 (fun φ34 => [(101, .pointer (some ⟨k2_6, 0, none⟩)), (100, .pointer (some ⟨k11, 0, none⟩))]) (fun φ34 => []) (fun φ34 => []) s trivial (fun φ34 => by kernel_rfl) ?_
        intro φ34 w34 s
        refine call_rule (some 102) s (ihr ha (of_decide_eq_false hc24) h11_0 h6_1) (by kernel_rfl) ?_
        intro v35 I35 w35 le35 h35 s
        replace hl := RE.mono le35 hl
        replace hr := RE.mono le35 hr
        replace he0 := RE.mono le35 he0
        replace hi := RT.mono le35 hi
        replace h6_0 := RE.mono le35 h6_0
        replace h6_1 := RE.mono le35 h6_1
        replace h9_0 := RT.mono le35 h9_0
        replace h11_0 := RT.mono le35 h11_0
        replace h32_0 := RE.mono le35 h32_0
        replace hek := le35 _ _ hek
        replace hp13 := le35 _ _ hp13
        replace hp22 := le35 _ _ hp22
        obtain ⟨k35, rfl, h35_0⟩ := h35
        refine ops_rule (C := []) [] [] 5 [] 0 (fun φ36 => [(18, .int .i64 (((growD n (T.right i) (E.right (E.node m l r))).2 : Nat) : Int)), (17, .pointer (some ⟨k35, 0, none⟩)), (104, .int .i64 (((growD n (T.right i) (E.right (E.node m l r))).2 : Nat) : Int)), (103, .pointer (some ⟨k35, 0, none⟩)), (99, .tuple #[.pointer (some ⟨k35, 0, none⟩), .int .i64 (((growD n (T.right i) (E.right (E.node m l r))).2 : Nat) : Int)])]) (fun φ36 => []) (fun φ36 => []) s trivial (fun φ36 => by kernel_rfl) ?_
        intro φ36 w36 s
        refine ops_done (by kernel_rfl) ?_
        refine wp_seq ?_
        refine wp_seq ?_
        refine region_rule ?_
        refine ops_rule (C := []) [] [] 3 [] 0 (fun φ37 => [(107, .bool (decide ((((growD n (T.left i) (E.left (E.node m l r))).2 : Nat) : Int) < (((growD n (T.right i) (E.right (E.node m l r))).2 : Nat) : Int)))), (106, .int .i64 (((growD n (T.right i) (E.right (E.node m l r))).2 : Nat) : Int)), (105, .int .i64 (((growD n (T.left i) (E.left (E.node m l r))).2 : Nat) : Int))]) (fun φ37 => []) (fun φ37 => []) s trivial (fun φ37 => by kernel_rfl) ?_
        intro φ37 w37 s
        rw [nat_lss (a := ((growD n (T.left i) (E.left (E.node m l r))).2)) (b := ((growD n (T.right i) (E.right (E.node m l r))).2))]
        refine ops_done (by kernel_rfl) ?_
        rcases Bool.eq_false_or_eq_true (decide (((growD n (T.left i) (E.left (E.node m l r))).2) < ((growD n (T.right i) (E.right (E.node m l r))).2))) with hc38 | hc38
        ·
          rw [hc38]
          refine cond_true_rule (b := true) (by kernel_rfl) rfl ?_
          refine wp_seq ?_
          refine region_rule ?_
          refine ops_rule (C := [(ke, .cells #[.int .u64 ((m : Nat) : Int), .pointer (some ⟨kl, 0, none⟩), .pointer (some ⟨kr, 0, none⟩)] 112)]) [] [] 6 [.c 0] 0 (fun φ39 => [(113, .pointer (some ⟨k2_6, 0, none⟩)), (112, .pointer (some ⟨k32, 0, none⟩)), (111, .int .u64 ((m : Nat) : Int)), (110, .pointer (some ⟨ke, 0, none⟩)), (109, .pointer (some ⟨ke, 0, none⟩)), (108, .pointer (some ⟨ke, 0, none⟩))]) (fun φ39 => []) (fun φ39 => [ke]) s ⟨hek, trivial⟩ (fun φ39 => by kernel_rfl) ?_
          intro φ39 w39 s
          refine call_rule (some 114) s (rnode_c (n := m) h32_0 h6_1 hgl hh.2 (by omega)) (by kernel_rfl) ?_
          intro v40 I40 w40 le40 h40 s
          replace hl := RE.mono le40 hl
          replace hr := RE.mono le40 hr
          replace he0 := RE.mono le40 he0
          replace hi := RT.mono le40 hi
          replace h6_0 := RE.mono le40 h6_0
          replace h6_1 := RE.mono le40 h6_1
          replace h9_0 := RT.mono le40 h9_0
          replace h11_0 := RT.mono le40 h11_0
          replace h32_0 := RE.mono le40 h32_0
          replace h35_0 := RE.mono le40 h35_0
          replace hek := le40 _ _ hek
          replace hp13 := le40 _ _ hp13
          replace hp22 := le40 _ _ hp22
          obtain ⟨k40, rfl, h40_0⟩ := h40
          refine ops_rule (C := []) [] [] 5 [] 0 (fun φ41 => [(5, .int .i64 (IntKind.wrap .i64 ((((growD n (T.left i) (E.left (E.node m l r))).2 : Nat) : Int) + ((1 : Nat) : Int)))), (4, .pointer (some ⟨k40, 0, none⟩)), (117, .int .i64 (IntKind.wrap .i64 ((((growD n (T.left i) (E.left (E.node m l r))).2 : Nat) : Int) + ((1 : Nat) : Int)))), (116, .int .i64 1), (115, .int .i64 (((growD n (T.left i) (E.left (E.node m l r))).2 : Nat) : Int))]) (fun φ41 => []) (fun φ41 => []) s trivial (fun φ41 => by kernel_rfl) ?_
          intro φ41 w41 s
          rw [nat_addI (a := ((growD n (T.left i) (E.left (E.node m l r))).2)) (b := 1) (by omega)]
          refine ops_done (by kernel_rfl) ?_
          refine wp_ret ?_
          refine ret_rule (C := []) [] [] (.tuple #[.pointer (some ⟨k40, 0, none⟩), .int .i64 ((((growD n (T.left i) (E.left (E.node m l r))).2) + 1 : Nat) : Int)]) [] [] s trivial (by kernel_rfl) ?_
          exact ⟨_, _, _, rfl, s, (by rw [growD_succ, if_neg (fun q => by cases q.2), if_neg (of_decide_eq_false hc15), if_neg (of_decide_eq_false hc24), if_pos (of_decide_eq_true hc38)]; exact ⟨_, rfl, h40_0⟩)⟩
        ·
          rw [hc38]
          refine cond_false_rule (b := false) (by kernel_rfl) rfl ?_
          refine wp_skip ?_
          refine wp_seq ?_
          refine region_rule ?_
          refine ops_rule (C := [(ke, .cells #[.int .u64 ((m : Nat) : Int), .pointer (some ⟨kl, 0, none⟩), .pointer (some ⟨kr, 0, none⟩)] 112)]) [] [] 6 [.c 0] 0 (fun φ42 => [(123, .pointer (some ⟨k35, 0, none⟩)), (122, .pointer (some ⟨k6, 0, none⟩)), (121, .int .u64 ((m : Nat) : Int)), (120, .pointer (some ⟨ke, 0, none⟩)), (119, .pointer (some ⟨ke, 0, none⟩)), (118, .pointer (some ⟨ke, 0, none⟩))]) (fun φ42 => []) (fun φ42 => [ke]) s ⟨hek, trivial⟩ (fun φ42 => by kernel_rfl) ?_
          intro φ42 w42 s
          refine call_rule (some 124) s (rnode_c (n := m) h6_0 h35_0 hh.1 hgr (by omega)) (by kernel_rfl) ?_
          intro v43 I43 w43 le43 h43 s
          replace hl := RE.mono le43 hl
          replace hr := RE.mono le43 hr
          replace he0 := RE.mono le43 he0
          replace hi := RT.mono le43 hi
          replace h6_0 := RE.mono le43 h6_0
          replace h6_1 := RE.mono le43 h6_1
          replace h9_0 := RT.mono le43 h9_0
          replace h11_0 := RT.mono le43 h11_0
          replace h32_0 := RE.mono le43 h32_0
          replace h35_0 := RE.mono le43 h35_0
          replace hek := le43 _ _ hek
          replace hp13 := le43 _ _ hp13
          replace hp22 := le43 _ _ hp22
          obtain ⟨k43, rfl, h43_0⟩ := h43
          refine ops_rule (C := []) [] [] 5 [] 0 (fun φ44 => [(5, .int .i64 (IntKind.wrap .i64 ((((growD n (T.right i) (E.right (E.node m l r))).2 : Nat) : Int) + ((1 : Nat) : Int)))), (4, .pointer (some ⟨k43, 0, none⟩)), (127, .int .i64 (IntKind.wrap .i64 ((((growD n (T.right i) (E.right (E.node m l r))).2 : Nat) : Int) + ((1 : Nat) : Int)))), (126, .int .i64 1), (125, .int .i64 (((growD n (T.right i) (E.right (E.node m l r))).2 : Nat) : Int))]) (fun φ44 => []) (fun φ44 => []) s trivial (fun φ44 => by kernel_rfl) ?_
          intro φ44 w44 s
          rw [nat_addI (a := ((growD n (T.right i) (E.right (E.node m l r))).2)) (b := 1) (by omega)]
          refine ops_done (by kernel_rfl) ?_
          refine wp_ret ?_
          refine ret_rule (C := []) [] [] (.tuple #[.pointer (some ⟨k43, 0, none⟩), .int .i64 ((((growD n (T.right i) (E.right (E.node m l r))).2) + 1 : Nat) : Int)]) [] [] s trivial (by kernel_rfl) ?_
          exact ⟨_, _, _, rfl, s, (by rw [growD_succ, if_neg (fun q => by cases q.2), if_neg (of_decide_eq_false hc15), if_neg (of_decide_eq_false hc24), if_neg (of_decide_eq_false hc38)]; exact ⟨_, rfl, h43_0⟩)⟩

end Go.Proofs.YtgdickihjaomjaaDoor
