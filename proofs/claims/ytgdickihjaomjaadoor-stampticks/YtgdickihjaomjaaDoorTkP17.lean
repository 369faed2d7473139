/- The document's Fill and Grow. -/
import Derived.Test.YtgdickihjaomjaaDoorTkP15
set_option linter.all false
set_option maxRecDepth 100000
namespace Go.Proofs.YtgdickihjaomjaaDoor
open Go.RowKit Go.Sep

theorem fill_nf : ∀ {e : E} (i : T), e.nf → (fillE i e).nf
  | .leaf n, i, _ => by simp [fillE, E.nf]
  | .node n l r, i, h => by
    have h1 := fill_nf i.left h.1
    have h2 := fill_nf i.right h.2.1
    unfold fillE
    split
    · exact h
    · split
      · trivial
      · split
        · exact E.nf_mk trivial h2
        · split
          · exact E.nf_mk h1 trivial
          · exact E.nf_mk h1 h2
theorem kind_one {t : T} : t.isOne = true ↔ kindT t = 1 := by cases t <;> simp [T.isOne, kindT]
theorem kind_zero' {t : T} : t.isZero = true ↔ kindT t = 0 := by cases t <;> simp [T.isZero, kindT]
theorem fill_l {n : Nat} {l r : E} {a b : T} (h : kindT a = 1) : fillE (.node a b) (.node n l r) = E.mk n (.leaf (max l.top (fillE b r).base)) (fillE b r) := by
  rw [fillE, if_neg (by intro k; cases k), if_neg (by intro k; cases k)]; exact if_pos (kind_one.2 h)
theorem fill_r {n : Nat} {l r : E} {a b : T} (h : ¬ kindT a = 1) (h2 : kindT b = 1) : fillE (.node a b) (.node n l r) = E.mk n (fillE a l) (.leaf (max r.top (fillE a l).base)) := by
  rw [fillE, if_neg (by intro k; cases k), if_neg (by intro k; cases k)]
  exact (if_neg (fun k => h (kind_one.1 k))).trans (if_pos (kind_one.2 h2))
theorem fill_b {n : Nat} {l r : E} {a b : T} (h : ¬ kindT a = 1) (h2 : ¬ kindT b = 1) : fillE (.node a b) (.node n l r) = E.mk n (fillE a l) (fillE b r) := by
  rw [fillE, if_neg (by intro k; cases k), if_neg (by intro k; cases k)]
  exact (if_neg (fun k => h (kind_one.1 k))).trans (if_neg (fun k => h2 (kind_one.1 k)))

set_option maxHeartbeats 2000000 in
theorem rmax_step {I : IM} {e : E} {k : Nat} (h : RE I e k) (ht : e.top < 18446744073709551616) (ih : ∀ n l r, e = .node n l r → (∀ {J : IM} {k : Nat}, RE J l k → l.top < 18446744073709551616 → Fun Tryd.prog 67 #[.pointer (some ⟨k, 0, none⟩)] J (fun v J => v = .int .u64 ((l.top : Nat) : Int))) ∧ (∀ {J : IM} {k : Nat}, RE J r k → r.top < 18446744073709551616 → Fun Tryd.prog 67 #[.pointer (some ⟨k, 0, none⟩)] J (fun v J => v = .int .u64 ((r.top : Nat) : Int)))) : Fun Tryd.prog 67 #[.pointer (some ⟨k, 0, none⟩)] I (fun v J => v = .int .u64 ((e.top : Nat) : Int)) := by
  cases e with
  | leaf n =>
    have h0 : RE _ (E.leaf n) k := h
    refine enter_rule 39 [(0, .pointer (some ⟨k, 0, none⟩))] Tryd.func67 rfl (by kernel_rfl) ?_
    intro w s
    refine wp_seq ?_
    refine region_rule ?_
    refine ops_rule (C := []) [] [] 1 [] 0 (fun φ1 => [(2, .int .u64 0)]) (fun φ1 => []) (fun φ1 => []) s trivial (fun φ1 => by kernel_rfl) ?_
    intro φ1 w1 s
    refine ops_done (by kernel_rfl) ?_
    refine wp_seq ?_
    refine wp_seq ?_
    refine region_rule ?_
    refine ops_rule (C := [(k, .cells #[.int .u64 ((n : Nat) : Int), .pointer none, .pointer none] 112)]) [] [] 5 [.c 0] 0 (fun φ2 => [(9, .bool true), (8, .pointer none), (7, .pointer (some ⟨k, 1, none⟩)), (6, .pointer (some ⟨k, 0, none⟩)), (5, .pointer (some ⟨k, 0, none⟩))]) (fun φ2 => []) (fun φ2 => [k]) s ⟨h, trivial⟩ (fun φ2 => by kernel_rfl) ?_
    intro φ2 w2 s
    refine ops_done (by kernel_rfl) ?_
    refine cond_true_rule (b := true) (by kernel_rfl) rfl ?_
    refine wp_seq ?_
    refine region_rule ?_
    refine ops_rule (C := [(k, .cells #[.int .u64 ((n : Nat) : Int), .pointer none, .pointer none] 112)]) [] [] 5 [.c 0] 0 (fun φ3 => [(2, .int .u64 ((n : Nat) : Int)), (13, .int .u64 ((n : Nat) : Int)), (12, .pointer (some ⟨k, 0, none⟩)), (11, .pointer (some ⟨k, 0, none⟩)), (10, .pointer (some ⟨k, 0, none⟩))]) (fun φ3 => []) (fun φ3 => [k]) s ⟨h, trivial⟩ (fun φ3 => by kernel_rfl) ?_
    intro φ3 w3 s
    refine ops_done (by kernel_rfl) ?_
    refine wp_ret ?_
    refine ret_rule (C := []) [] [] (.int .u64 ((n : Nat) : Int)) [] [] s trivial (by kernel_rfl) ?_
    exact ⟨_, _, _, rfl, s, rfl⟩
  | node n l r =>
    have h0 : RE _ (E.node n l r) k := h
    obtain ⟨kl, kr, hk, hl, hr⟩ := h
    obtain ⟨ihl, ihr⟩ := ih n l r rfl
    clear ih
    have ht1 : n + max l.top r.top < 18446744073709551616 := ht
    refine enter_rule 39 [(0, .pointer (some ⟨k, 0, none⟩))] Tryd.func67 rfl (by kernel_rfl) ?_
    intro w s
    refine wp_seq ?_
    refine region_rule ?_
    refine ops_rule (C := []) [] [] 1 [] 0 (fun φ1 => [(2, .int .u64 0)]) (fun φ1 => []) (fun φ1 => []) s trivial (fun φ1 => by kernel_rfl) ?_
    intro φ1 w1 s
    refine ops_done (by kernel_rfl) ?_
    refine wp_seq ?_
    refine wp_seq ?_
    refine region_rule ?_
    refine ops_rule (C := [(k, .cells #[.int .u64 ((n : Nat) : Int), .pointer (some ⟨kl, 0, none⟩), .pointer (some ⟨kr, 0, none⟩)] 112)]) [] [] 5 [.c 0] 0 (fun φ2 => [(9, .bool false), (8, .pointer (some ⟨kl, 0, none⟩)), (7, .pointer (some ⟨k, 1, none⟩)), (6, .pointer (some ⟨k, 0, none⟩)), (5, .pointer (some ⟨k, 0, none⟩))]) (fun φ2 => []) (fun φ2 => [k]) s ⟨hk, trivial⟩ (fun φ2 => by kernel_rfl) ?_
    intro φ2 w2 s
    refine ops_done (by kernel_rfl) ?_
    refine cond_false_rule (b := false) (by kernel_rfl) rfl ?_
    refine wp_skip ?_
    refine wp_seq ?_
    refine draw_rule (C := [(k, .cells #[.int .u64 ((n : Nat) : Int), .pointer (some ⟨kl, 0, none⟩), .pointer (some ⟨kr, 0, none⟩)] 112)]) ⟨(fun φ3 xs3 => [.look 0 [] [], .look 0 [] [], .look 0 [] [], .look 0 [.c 0] [k], .call 67 #[.pointer (some ⟨kl, 0, none⟩)], .look 0 [] [], .look 0 [] [], .look 0 [] [], .look 0 [.c 0] [k], .call 67 #[.pointer (some ⟨kr, 0, none⟩)], .look 0 [] [], .look 0 [] []]), (fun φ3 xs3 => [.pointer (some ⟨k, 0, none⟩), .pointer (some ⟨k, 0, none⟩), .pointer (some ⟨k, 1, none⟩), .pointer (some ⟨kl, 0, none⟩), .int .u64 ((l.top : Nat) : Int), .pointer (some ⟨k, 0, none⟩), .pointer (some ⟨k, 0, none⟩), .pointer (some ⟨k, 2, none⟩), .pointer (some ⟨kr, 0, none⟩), .int .u64 ((r.top : Nat) : Int), .int .u64 ((l.top : Nat) : Int), .int .u64 ((r.top : Nat) : Int)]), (fun φ3 xs3 => [[]]), (fun φ3 xs3 => [[default, default, default, default, default, default, default, default, default, default, default, default]]), [], [1, 1, 1, 1, 3, 1, 1, 1, 1, 3, 1, 1]⟩ (fun j => ([MP.any, MP.any, MP.any, MP.any, MP.any, MP.any, MP.any, MP.any, MP.any, MP.any, MP.any, MP.any] : List MP).getD j MP.any) [4, 9] [] [] (fun φ3 xs3 => []) (fun φ3 xs3 => [(14, .pointer (some ⟨k, 0, none⟩)), (15, .pointer (some ⟨k, 0, none⟩)), (16, .pointer (some ⟨k, 1, none⟩)), (17, .pointer (some ⟨kl, 0, none⟩)), (18, .int .u64 ((l.top : Nat) : Int)), (19, .pointer (some ⟨k, 0, none⟩)), (20, .pointer (some ⟨k, 0, none⟩)), (21, .pointer (some ⟨k, 2, none⟩)), (22, .pointer (some ⟨kr, 0, none⟩)), (23, .int .u64 ((r.top : Nat) : Int)), (3, .int .u64 ((l.top : Nat) : Int)), (4, .int .u64 ((r.top : Nat) : Int))]) (fun φ3 xs3 => []) s ⟨hk, trivial⟩ (by kernel_rfl) (by kernel_rfl) (fun _ _ => by kernel_rfl) (fun _ _ => by kernel_rfl) ⟨fun _ _ => by kernel_rfl, fun _ _ => by kernel_rfl, fun _ _ => by kernel_rfl, fun _ _ => by kernel_rfl⟩ (fun _ _ _ => by kernel_rfl) (fun _ _ => by kernel_rfl) (fun _ _ => by kernel_rfl) (fun _ _ => by kernel_rfl) (fun _ _ => by kernel_rfl) (fun _ _ => by kernel_rfl) trivial trivial ⟨?c3_4, ?c3_9, trivial⟩ ?k3
    case c3_4 =>
      refine kcast (A := ∀ (φ3 : Nat → Nat) (xs3 : Xs) (J4_3 : IM), I.Le J4_3 → Fun Tryd.prog 67 #[.pointer (some ⟨kl, 0, none⟩)] J4_3 (fun v J' => ∃ x : UX, v = .int .u64 ((l.top : Nat) : Int) ∧ (True))) (by kernel_rfl) ?_
      intro φ3 xs3 J4_3 leJ
      have hl := RE.mono leJ hl
      exact Fun.mono (ihl hl (by omega)) (fun v J' _ h => ⟨UX.d, h, trivial⟩)
    case c3_9 =>
      refine kcast (A := ∀ (φ3 : Nat → Nat) (xs3 : Xs) (J9_3 : IM), I.Le J9_3 → (True) → Fun Tryd.prog 67 #[.pointer (some ⟨kr, 0, none⟩)] J9_3 (fun v J' => ∃ x : UX, v = .int .u64 ((r.top : Nat) : Int) ∧ (True))) (by kernel_rfl) ?_
      intro φ3 xs3 J9_3 leJ
      rintro _
      have hr := RE.mono leJ hr
      exact Fun.mono (ihr hr (by omega)) (fun v J' _ h => ⟨UX.d, h, trivial⟩)
    case k3 =>
      rintro φ3 xs3 I3 w3 le3 s _ _
      replace hl := RE.mono le3 hl
      replace hr := RE.mono le3 hr
      replace h0 := RE.mono le3 h0
      replace hk := le3 _ _ hk
      refine wp_seq ?_
      refine wp_seq ?_
      refine region_rule ?_
      refine ops_rule (C := []) [] [] 3 [] 0 (fun φ4 => [(26, .bool (decide (((l.top : Nat) : Int) > ((r.top : Nat) : Int)))), (25, .int .u64 ((r.top : Nat) : Int)), (24, .int .u64 ((l.top : Nat) : Int))]) (fun φ4 => []) (fun φ4 => []) s trivial (fun φ4 => by kernel_rfl) ?_
      intro φ4 w4 s
      rw [nat_gtr (a := l.top) (b := r.top)]
      refine ops_done (by kernel_rfl) ?_
      rcases Bool.eq_false_or_eq_true (decide (r.top < l.top)) with hc5 | hc5
      ·
        rw [hc5]
        refine cond_true_rule (b := true) (by kernel_rfl) rfl ?_
        refine wp_seq ?_
        refine region_rule ?_
        refine ops_rule (C := [(k, .cells #[.int .u64 ((n : Nat) : Int), .pointer (some ⟨kl, 0, none⟩), .pointer (some ⟨kr, 0, none⟩)] 112)]) [] [] 7 [.c 0] 0 (fun φ6 => [(2, .int .u64 (IntKind.wrap .u64 (((n : Nat) : Int) + ((l.top : Nat) : Int)))), (32, .int .u64 (IntKind.wrap .u64 (((n : Nat) : Int) + ((l.top : Nat) : Int)))), (31, .int .u64 ((l.top : Nat) : Int)), (30, .int .u64 ((n : Nat) : Int)), (29, .pointer (some ⟨k, 0, none⟩)), (28, .pointer (some ⟨k, 0, none⟩)), (27, .pointer (some ⟨k, 0, none⟩))]) (fun φ6 => []) (fun φ6 => [k]) s ⟨hk, trivial⟩ (fun φ6 => by kernel_rfl) ?_
        intro φ6 w6 s
        rw [nat_addU (a := n) (b := l.top) (by omega)]
        refine ops_done (by kernel_rfl) ?_
        refine wp_ret ?_
        refine ret_rule (C := []) [] [] (.int .u64 ((n + l.top : Nat) : Int)) [] [] s trivial (by kernel_rfl) ?_
        exact ⟨_, _, _, rfl, s, (by have hc := of_decide_eq_true hc5; show _ = Value.int .u64 ((n + max l.top r.top : Nat) : Int); rw [Nat.max_eq_left (by omega)])⟩
      ·
        rw [hc5]
        refine cond_false_rule (b := false) (by kernel_rfl) rfl ?_
        refine wp_skip ?_
        refine wp_seq ?_
        refine region_rule ?_
        refine ops_rule (C := [(k, .cells #[.int .u64 ((n : Nat) : Int), .pointer (some ⟨kl, 0, none⟩), .pointer (some ⟨kr, 0, none⟩)] 112)]) [] [] 7 [.c 0] 0 (fun φ7 => [(2, .int .u64 (IntKind.wrap .u64 (((n : Nat) : Int) + ((r.top : Nat) : Int)))), (38, .int .u64 (IntKind.wrap .u64 (((n : Nat) : Int) + ((r.top : Nat) : Int)))), (37, .int .u64 ((r.top : Nat) : Int)), (36, .int .u64 ((n : Nat) : Int)), (35, .pointer (some ⟨k, 0, none⟩)), (34, .pointer (some ⟨k, 0, none⟩)), (33, .pointer (some ⟨k, 0, none⟩))]) (fun φ7 => []) (fun φ7 => [k]) s ⟨hk, trivial⟩ (fun φ7 => by kernel_rfl) ?_
        intro φ7 w7 s
        rw [nat_addU (a := n) (b := r.top) (by omega)]
        refine ops_done (by kernel_rfl) ?_
        refine wp_ret ?_
        refine ret_rule (C := []) [] [] (.int .u64 ((n + r.top : Nat) : Int)) [] [] s trivial (by kernel_rfl) ?_
        exact ⟨_, _, _, rfl, s, (by have hc := of_decide_eq_false hc5; show _ = Value.int .u64 ((n + max l.top r.top : Nat) : Int); rw [Nat.max_eq_right (by omega)])⟩

theorem rmax_c : ∀ (e : E) {I : IM} {k : Nat}, RE I e k → e.top < 18446744073709551616 → Fun Tryd.prog 67 #[.pointer (some ⟨k, 0, none⟩)] I (fun v _ => v = .int .u64 ((e.top : Nat) : Int))
  | .leaf n, _, _, h, ht => rmax_step h ht (fun n l r h => by cases h)
  | .node n l r, _, _, h, ht => rmax_step h ht (fun n' l' r' e => by
      cases e
      exact ⟨fun {J} {k} a b => rmax_c l a b, fun {J} {k} a b => rmax_c r a b⟩)

set_option maxHeartbeats 400000 in
theorem greater_c {I : IM} {a b : Nat} : Fun Tryd.prog 94 #[.int .u64 ((a : Nat) : Int), .int .u64 ((b : Nat) : Int)] I (fun v J => v = .int .u64 ((max a b : Nat) : Int)) := by
  refine enter_rule 10 [(0, .int .u64 ((a : Nat) : Int)), (1, .int .u64 ((b : Nat) : Int))] Tryd.func94 rfl (by kernel_rfl) ?_
  intro w s
  refine wp_seq ?_
  refine region_rule ?_
  refine ops_rule (C := []) [] [] 1 [] 0 (fun φ1 => [(4, .int .u64 0)]) (fun φ1 => []) (fun φ1 => []) s trivial (fun φ1 => by kernel_rfl) ?_
  intro φ1 w1 s
  refine ops_done (by kernel_rfl) ?_
  refine wp_seq ?_
  refine wp_seq ?_
  refine region_rule ?_
  refine ops_rule (C := []) [] [] 3 [] 0 (fun φ2 => [(7, .bool (decide (((a : Nat) : Int) > ((b : Nat) : Int)))), (6, .int .u64 ((b : Nat) : Int)), (5, .int .u64 ((a : Nat) : Int))]) (fun φ2 => []) (fun φ2 => []) s trivial (fun φ2 => by kernel_rfl) ?_
  intro φ2 w2 s
  rw [nat_gtr (a := a) (b := b)]
  refine ops_done (by kernel_rfl) ?_
  rcases Bool.eq_false_or_eq_true (decide (b < a)) with hc3 | hc3
  ·
    rw [hc3]
    refine cond_true_rule (b := true) (by kernel_rfl) rfl ?_
    refine wp_seq ?_
    refine region_rule ?_
    refine ops_rule (C := []) [] [] 2 [] 0 (fun φ4 => [(4, .int .u64 ((a : Nat) : Int)), (8, .int .u64 ((a : Nat) : Int))]) (fun φ4 => []) (fun φ4 => []) s trivial (fun φ4 => by kernel_rfl) ?_
    intro φ4 w4 s
    refine ops_done (by kernel_rfl) ?_
    refine wp_ret ?_
    refine ret_rule (C := []) [] [] (.int .u64 ((a : Nat) : Int)) [] [] s trivial (by kernel_rfl) ?_
    exact ⟨_, _, _, rfl, s, (by have hc := of_decide_eq_true hc3; rw [Nat.max_eq_left (by omega)])⟩
  ·
    rw [hc3]
    refine cond_false_rule (b := false) (by kernel_rfl) rfl ?_
    refine wp_skip ?_
    refine wp_seq ?_
    refine region_rule ?_
    refine ops_rule (C := []) [] [] 2 [] 0 (fun φ5 => [(4, .int .u64 ((b : Nat) : Int)), (9, .int .u64 ((b : Nat) : Int))]) (fun φ5 => []) (fun φ5 => []) s trivial (fun φ5 => by kernel_rfl) ?_
    intro φ5 w5 s
    refine ops_done (by kernel_rfl) ?_
    refine wp_ret ?_
    refine ret_rule (C := []) [] [] (.int .u64 ((b : Nat) : Int)) [] [] s trivial (by kernel_rfl) ?_
    exact ⟨_, _, _, rfl, s, (by have hc := of_decide_eq_false hc3; rw [Nat.max_eq_right (by omega)])⟩

set_option maxHeartbeats 4000000 in
theorem rfill_step {I : IM} {i : T} {e : E} {ki ke : Nat} (hi : RT I i ki) (he : RE I e ke) (hnf : e.nf) (ht : e.top < 18446744073709551616) (ih : ∀ i1 i2 n l r, i = .node i1 i2 → e = .node n l r → (∀ {J : IM} {k1 k2 : Nat}, RT J i1 k1 → RE J l k2 → Fun Tryd.prog 54 #[.pointer (some ⟨k1, 0, none⟩), .pointer (some ⟨k2, 0, none⟩)] J (fun v J => ∃ k, v = .pointer (some ⟨k, 0, none⟩) ∧ RE J (fillE i1 l) k)) ∧ (∀ {J : IM} {k1 k2 : Nat}, RT J i2 k1 → RE J r k2 → Fun Tryd.prog 54 #[.pointer (some ⟨k1, 0, none⟩), .pointer (some ⟨k2, 0, none⟩)] J (fun v J => ∃ k, v = .pointer (some ⟨k, 0, none⟩) ∧ RE J (fillE i2 r) k))) : Fun Tryd.prog 54 #[.pointer (some ⟨ki, 0, none⟩), .pointer (some ⟨ke, 0, none⟩)] I (fun v J => ∃ k, v = .pointer (some ⟨k, 0, none⟩) ∧ RE J (fillE i e) k) := by
  cases e with
  | leaf n =>
    have he0 : RE _ (E.leaf n) ke := he
    cases i with
    | zero =>
      refine enter_rule 115 [(0, .pointer (some ⟨ki, 0, none⟩)), (1, .pointer (some ⟨ke, 0, none⟩))] Tryd.func54 rfl (by kernel_rfl) ?_
      intro w s
      refine wp_seq ?_
      refine region_rule ?_
      refine ops_rule (C := []) [] [] 1 [] 0 (fun φ1 => [(4, .pointer none)]) (fun φ1 => []) (fun φ1 => []) s trivial (fun φ1 => by kernel_rfl) ?_
      intro φ1 w1 s
      refine ops_done (by kernel_rfl) ?_
      refine wp_seq ?_
      refine wp_seq ?_
      refine region_rule ?_
      refine ops_rule (C := [(ki, .cells #[.int .i64 0, .pointer none, .pointer none] 84)]) [] [] 12 [.c 0] 0 (fun φ2 => [(18, .bool true), (17, undef), (16, undef), (15, undef), (14, undef), (13, undef), (12, .bool true), (11, .bool true), (10, .int .i64 0), (9, .pointer (some ⟨ki, 0, none⟩)), (8, .pointer (some ⟨ki, 0, none⟩)), (7, .pointer (some ⟨ki, 0, none⟩))]) (fun φ2 => []) (fun φ2 => [ki]) s ⟨hi, trivial⟩ (fun φ2 => by kernel_rfl) ?_
      intro φ2 w2 s
      refine ops_done (by kernel_rfl) ?_
      refine cond_true_rule (b := true) (by kernel_rfl) rfl ?_
      refine wp_seq ?_
      refine region_rule ?_
      refine ops_rule (C := []) [] [] 2 [] 0 (fun φ3 => [(4, .pointer (some ⟨ke, 0, none⟩)), (19, .pointer (some ⟨ke, 0, none⟩))]) (fun φ3 => []) (fun φ3 => []) s trivial (fun φ3 => by kernel_rfl) ?_
      intro φ3 w3 s
      refine ops_done (by kernel_rfl) ?_
      refine wp_ret ?_
      refine ret_rule (C := []) [] [] (.pointer (some ⟨ke, 0, none⟩)) [] [] s trivial (by kernel_rfl) ?_
      exact ⟨_, _, _, rfl, s, ⟨_, rfl, by rw [fillE]; exact he0⟩⟩
    | one =>
      refine enter_rule 115 [(0, .pointer (some ⟨ki, 0, none⟩)), (1, .pointer (some ⟨ke, 0, none⟩))] Tryd.func54 rfl (by kernel_rfl) ?_
      intro w s
      refine wp_seq ?_
      refine region_rule ?_
      refine ops_rule (C := []) [] [] 1 [] 0 (fun φ1 => [(4, .pointer none)]) (fun φ1 => []) (fun φ1 => []) s trivial (fun φ1 => by kernel_rfl) ?_
      intro φ1 w1 s
      refine ops_done (by kernel_rfl) ?_
      refine wp_seq ?_
      refine wp_seq ?_
      refine region_rule ?_
      refine ops_rule (C := [(ki, .cells #[.int .i64 1, .pointer none, .pointer none] 84), (ke, .cells #[.int .u64 ((n : Nat) : Int), .pointer none, .pointer none] 112)]) [] [] 12 [.c 0, .c 1] 0 (fun φ2 => [(18, .bool true), (17, .bool true), (16, .pointer none), (15, .pointer (some ⟨ke, 1, none⟩)), (14, .pointer (some ⟨ke, 0, none⟩)), (13, .pointer (some ⟨ke, 0, none⟩)), (12, .bool false), (11, .bool false), (10, .int .i64 1), (9, .pointer (some ⟨ki, 0, none⟩)), (8, .pointer (some ⟨ki, 0, none⟩)), (7, .pointer (some ⟨ki, 0, none⟩))]) (fun φ2 => []) (fun φ2 => [ki, ke]) s ⟨hi, ⟨he, trivial⟩⟩ (fun φ2 => by kernel_rfl) ?_
      intro φ2 w2 s
      refine ops_done (by kernel_rfl) ?_
      refine cond_true_rule (b := true) (by kernel_rfl) rfl ?_
      refine wp_seq ?_
      refine region_rule ?_
      refine ops_rule (C := []) [] [] 2 [] 0 (fun φ3 => [(4, .pointer (some ⟨ke, 0, none⟩)), (19, .pointer (some ⟨ke, 0, none⟩))]) (fun φ3 => []) (fun φ3 => []) s trivial (fun φ3 => by kernel_rfl) ?_
      intro φ3 w3 s
      refine ops_done (by kernel_rfl) ?_
      refine wp_ret ?_
      refine ret_rule (C := []) [] [] (.pointer (some ⟨ke, 0, none⟩)) [] [] s trivial (by kernel_rfl) ?_
      exact ⟨_, _, _, rfl, s, ⟨_, rfl, by rw [fillE]; exact he0⟩⟩
    | node i1 i2 =>
      obtain ⟨ki1, ki2, hik, hi1, hi2⟩ := hi
      refine enter_rule 115 [(0, .pointer (some ⟨ki, 0, none⟩)), (1, .pointer (some ⟨ke, 0, none⟩))] Tryd.func54 rfl (by kernel_rfl) ?_
      intro w s
      refine wp_seq ?_
      refine region_rule ?_
      refine ops_rule (C := []) [] [] 1 [] 0 (fun φ1 => [(4, .pointer none)]) (fun φ1 => []) (fun φ1 => []) s trivial (fun φ1 => by kernel_rfl) ?_
      intro φ1 w1 s
      refine ops_done (by kernel_rfl) ?_
      refine wp_seq ?_
      refine wp_seq ?_
      refine region_rule ?_
      refine ops_rule (C := [(ki, .cells #[.int .i64 2, .pointer (some ⟨ki1, 0, none⟩), .pointer (some ⟨ki2, 0, none⟩)] 84), (ke, .cells #[.int .u64 ((n : Nat) : Int), .pointer none, .pointer none] 112)]) [] [] 12 [.c 0, .c 1] 0 (fun φ2 => [(18, .bool true), (17, .bool true), (16, .pointer none), (15, .pointer (some ⟨ke, 1, none⟩)), (14, .pointer (some ⟨ke, 0, none⟩)), (13, .pointer (some ⟨ke, 0, none⟩)), (12, .bool false), (11, .bool false), (10, .int .i64 2), (9, .pointer (some ⟨ki, 0, none⟩)), (8, .pointer (some ⟨ki, 0, none⟩)), (7, .pointer (some ⟨ki, 0, none⟩))]) (fun φ2 => []) (fun φ2 => [ki, ke]) s ⟨hik, ⟨he, trivial⟩⟩ (fun φ2 => by kernel_rfl) ?_
      intro φ2 w2 s
      refine ops_done (by kernel_rfl) ?_
      refine cond_true_rule (b := true) (by kernel_rfl) rfl ?_
      refine wp_seq ?_
      refine region_rule ?_
      refine ops_rule (C := []) [] [] 2 [] 0 (fun φ3 => [(4, .pointer (some ⟨ke, 0, none⟩)), (19, .pointer (some ⟨ke, 0, none⟩))]) (fun φ3 => []) (fun φ3 => []) s trivial (fun φ3 => by kernel_rfl) ?_
      intro φ3 w3 s
      refine ops_done (by kernel_rfl) ?_
      refine wp_ret ?_
      refine ret_rule (C := []) [] [] (.pointer (some ⟨ke, 0, none⟩)) [] [] s trivial (by kernel_rfl) ?_
      exact ⟨_, _, _, rfl, s, ⟨_, rfl, by rw [fillE]; exact he0⟩⟩
  | node n l r =>
    have he0 : RE _ (E.node n l r) ke := he
    obtain ⟨kl, kr, hek, hl, hr⟩ := he
    have ht1 : n + max l.top r.top < 18446744073709551616 := ht
    cases i with
    | zero =>
      refine enter_rule 115 [(0, .pointer (some ⟨ki, 0, none⟩)), (1, .pointer (some ⟨ke, 0, none⟩))] Tryd.func54 rfl (by kernel_rfl) ?_
      intro w s
      refine wp_seq ?_
      refine region_rule ?_
      refine ops_rule (C := []) [] [] 1 [] 0 (fun φ1 => [(4, .pointer none)]) (fun φ1 => []) (fun φ1 => []) s trivial (fun φ1 => by kernel_rfl) ?_
      intro φ1 w1 s
      refine ops_done (by kernel_rfl) ?_
      refine wp_seq ?_
      refine wp_seq ?_
      refine region_rule ?_
      refine ops_rule (C := [(ki, .cells #[.int .i64 0, .pointer none, .pointer none] 84)]) [] [] 12 [.c 0] 0 (fun φ2 => [(18, .bool true), (17, undef), (16, undef), (15, undef), (14, undef), (13, undef), (12, .bool true), (11, .bool true), (10, .int .i64 0), (9, .pointer (some ⟨ki, 0, none⟩)), (8, .pointer (some ⟨ki, 0, none⟩)), (7, .pointer (some ⟨ki, 0, none⟩))]) (fun φ2 => []) (fun φ2 => [ki]) s ⟨hi, trivial⟩ (fun φ2 => by kernel_rfl) ?_
      intro φ2 w2 s
      refine ops_done (by kernel_rfl) ?_
      refine cond_true_rule (b := true) (by kernel_rfl) rfl ?_
      refine wp_seq ?_
      refine region_rule ?_
      refine ops_rule (C := []) [] [] 2 [] 0 (fun φ3 => [(4, .pointer (some ⟨ke, 0, none⟩)), (19, .pointer (some ⟨ke, 0, none⟩))]) (fun φ3 => []) (fun φ3 => []) s trivial (fun φ3 => by kernel_rfl) ?_
      intro φ3 w3 s
      refine ops_done (by kernel_rfl) ?_
      refine wp_ret ?_
      refine ret_rule (C := []) [] [] (.pointer (some ⟨ke, 0, none⟩)) [] [] s trivial (by kernel_rfl) ?_
      exact ⟨_, _, _, rfl, s, ⟨_, rfl, he0⟩⟩
    | one =>
      refine enter_rule 115 [(0, .pointer (some ⟨ki, 0, none⟩)), (1, .pointer (some ⟨ke, 0, none⟩))] Tryd.func54 rfl (by kernel_rfl) ?_
      intro w s
      refine wp_seq ?_
      refine region_rule ?_
      refine ops_rule (C := []) [] [] 1 [] 0 (fun φ1 => [(4, .pointer none)]) (fun φ1 => []) (fun φ1 => []) s trivial (fun φ1 => by kernel_rfl) ?_
      intro φ1 w1 s
      refine ops_done (by kernel_rfl) ?_
      refine wp_seq ?_
      refine wp_seq ?_
      refine region_rule ?_
      refine ops_rule (C := [(ki, .cells #[.int .i64 1, .pointer none, .pointer none] 84), (ke, .cells #[.int .u64 ((n : Nat) : Int), .pointer (some ⟨kl, 0, none⟩), .pointer (some ⟨kr, 0, none⟩)] 112)]) [] [] 12 [.c 0, .c 1] 0 (fun φ2 => [(18, .bool false), (17, .bool false), (16, .pointer (some ⟨kl, 0, none⟩)), (15, .pointer (some ⟨ke, 1, none⟩)), (14, .pointer (some ⟨ke, 0, none⟩)), (13, .pointer (some ⟨ke, 0, none⟩)), (12, .bool false), (11, .bool false), (10, .int .i64 1), (9, .pointer (some ⟨ki, 0, none⟩)), (8, .pointer (some ⟨ki, 0, none⟩)), (7, .pointer (some ⟨ki, 0, none⟩))]) (fun φ2 => []) (fun φ2 => [ki, ke]) s ⟨hi, ⟨hek, trivial⟩⟩ (fun φ2 => by kernel_rfl) ?_
      intro φ2 w2 s
      refine ops_done (by kernel_rfl) ?_
      refine cond_false_rule (b := false) (by kernel_rfl) rfl ?_
      refine wp_skip ?_
      refine wp_seq ?_
      refine wp_seq ?_
      refine region_rule ?_
      refine ops_rule (C := [(ki, .cells #[.int .i64 1, .pointer none, .pointer none] 84)]) [] [] 5 [.c 0] 0 (fun φ3 => [(24, .bool true), (23, .int .i64 1), (22, .pointer (some ⟨ki, 0, none⟩)), (21, .pointer (some ⟨ki, 0, none⟩)), (20, .pointer (some ⟨ki, 0, none⟩))]) (fun φ3 => []) (fun φ3 => [ki]) s ⟨hi, trivial⟩ (fun φ3 => by kernel_rfl) ?_
      intro φ3 w3 s
      refine ops_done (by kernel_rfl) ?_
      refine cond_true_rule (b := true) (by kernel_rfl) rfl ?_
      refine wp_seq ?_
      refine region_rule ?_
      refine ops_rule (C := []) [] [] 1 [] 0 (fun φ4 => [(25, .pointer (some ⟨ke, 0, none⟩))]) (fun φ4 => []) (fun φ4 => []) s trivial (fun φ4 => by kernel_rfl) ?_
      intro φ4 w4 s
      refine call_rule (some 26) s (rmax_c (E.node n l r) he0 (by first | exact ht | omega)) (by kernel_rfl) ?_
      intro v5 I5 w5 le5 h5 s
      replace hl := RE.mono le5 hl
      replace hr := RE.mono le5 hr
      replace he0 := RE.mono le5 he0
      replace hek := le5 _ _ hek
      replace hi := le5 _ _ hi
      obtain rfl := h5
      refine call_rule (some 27) s (rleaf_c (n := ((E.node n l r).top))) (by kernel_rfl) ?_
      intro v6 I6 w6 le6 h6 s
      replace hl := RE.mono le6 hl
      replace hr := RE.mono le6 hr
      replace he0 := RE.mono le6 he0
      replace hek := le6 _ _ hek
      replace hi := le6 _ _ hi
      obtain ⟨k6, rfl, h6_0⟩ := h6
      refine ops_rule (C := []) [] [] 1 [] 0 (fun φ7 => [(4, .pointer (some ⟨k6, 0, none⟩))]) (fun φ7 => []) (fun φ7 => []) s trivial (fun φ7 => by kernel_rfl) ?_
      intro φ7 w7 s
      refine ops_done (by kernel_rfl) ?_
      refine wp_ret ?_
      refine ret_rule (C := []) [] [] (.pointer (some ⟨k6, 0, none⟩)) [] [] s trivial (by kernel_rfl) ?_
      exact ⟨_, _, _, rfl, s, ⟨_, rfl, h6_0⟩⟩
    | node i1 i2 =>
      obtain ⟨ki1, ki2, hik, hi1, hi2⟩ := hi
      obtain ⟨ihl, ihr⟩ := ih i1 i2 n l r rfl rfl
      clear ih
      have hnl := fill_nf i1 hnf.1
      have hnr := fill_nf i2 hnf.2.1
      have hbl := fill_bounds l i1
      have hbr := fill_bounds r i2
      have hcl := E.base_le (fillE i1 l)
      have hcr := E.base_le (fillE i2 r)
      refine enter_rule 115 [(0, .pointer (some ⟨ki, 0, none⟩)), (1, .pointer (some ⟨ke, 0, none⟩))] Tryd.func54 rfl (by kernel_rfl) ?_
      intro w s
      refine wp_seq ?_
      refine region_rule ?_
      refine ops_rule (C := []) [] [] 1 [] 0 (fun φ1 => [(4, .pointer none)]) (fun φ1 => []) (fun φ1 => []) s trivial (fun φ1 => by kernel_rfl) ?_
      intro φ1 w1 s
      refine ops_done (by kernel_rfl) ?_
      refine wp_seq ?_
      refine wp_seq ?_
      refine region_rule ?_
      refine ops_rule (C := [(ki, .cells #[.int .i64 2, .pointer (some ⟨ki1, 0, none⟩), .pointer (some ⟨ki2, 0, none⟩)] 84), (ke, .cells #[.int .u64 ((n : Nat) : Int), .pointer (some ⟨kl, 0, none⟩), .pointer (some ⟨kr, 0, none⟩)] 112)]) [] [] 12 [.c 0, .c 1] 0 (fun φ2 => [(18, .bool false), (17, .bool false), (16, .pointer (some ⟨kl, 0, none⟩)), (15, .pointer (some ⟨ke, 1, none⟩)), (14, .pointer (some ⟨ke, 0, none⟩)), (13, .pointer (some ⟨ke, 0, none⟩)), (12, .bool false), (11, .bool false), (10, .int .i64 2), (9, .pointer (some ⟨ki, 0, none⟩)), (8, .pointer (some ⟨ki, 0, none⟩)), (7, .pointer (some ⟨ki, 0, none⟩))]) (fun φ2 => []) (fun φ2 => [ki, ke]) s ⟨hik, ⟨hek, trivial⟩⟩ (fun φ2 => by kernel_rfl) ?_
      intro φ2 w2 s
      refine ops_done (by kernel_rfl) ?_
      refine cond_false_rule (b := false) (by kernel_rfl) rfl ?_
      refine wp_skip ?_
      refine wp_seq ?_
      refine wp_seq ?_
      refine region_rule ?_
      refine ops_rule (C := [(ki, .cells #[.int .i64 2, .pointer (some ⟨ki1, 0, none⟩), .pointer (some ⟨ki2, 0, none⟩)] 84)]) [] [] 5 [.c 0] 0 (fun φ3 => [(24, .bool false), (23, .int .i64 2), (22, .pointer (some ⟨ki, 0, none⟩)), (21, .pointer (some ⟨ki, 0, none⟩)), (20, .pointer (some ⟨ki, 0, none⟩))]) (fun φ3 => []) (fun φ3 => [ki]) s ⟨hik, trivial⟩ (fun φ3 => by kernel_rfl) ?_
      intro φ3 w3 s
      refine ops_done (by kernel_rfl) ?_
      refine cond_false_rule (b := false) (by kernel_rfl) rfl ?_
      refine wp_skip ?_
      refine wp_seq ?_
      refine wp_seq ?_
      refine region_rule ?_
      obtain ⟨pl4, pr4, hp4⟩ := RT.peek hi1
      refine ops_rule (C := [(ki, .cells #[.int .i64 2, .pointer (some ⟨ki1, 0, none⟩), .pointer (some ⟨ki2, 0, none⟩)] 84), (ki1, .cells #[.int .i64 ((kindT i1 : Nat) : Int), .pointer pl4, .pointer pr4] 84)]) [] [] 8 [.c 0, .c 1] 0 (fun φ4 => [(35, .bool (((kindT i1 : Nat) : Int) == ((1 : Nat) : Int))), (34, .int .i64 ((kindT i1 : Nat) : Int)), (33, .pointer (some ⟨ki1, 0, none⟩)), (32, .pointer (some ⟨ki1, 0, none⟩)), (31, .pointer (some ⟨ki1, 0, none⟩)), (30, .pointer (some ⟨ki, 1, none⟩)), (29, .pointer (some ⟨ki, 0, none⟩)), (28, .pointer (some ⟨ki, 0, none⟩))]) (fun φ4 => []) (fun φ4 => [ki, ki1]) s ⟨hik, ⟨hp4, trivial⟩⟩ (fun φ4 => by kernel_rfl) ?_
      intro φ4 w4 s
      rw [nat_eql (a := (kindT i1)) (b := 1)]
      refine ops_done (by kernel_rfl) ?_
      rcases Bool.eq_false_or_eq_true (decide ((kindT i1) = 1)) with hc6 | hc6
      ·
        rw [hc6]
        refine cond_true_rule (b := true) (by kernel_rfl) rfl ?_
        refine wp_seq ?_
        refine draw_rule (C := [(ki, .cells #[.int .i64 2, .pointer (some ⟨ki1, 0, none⟩), .pointer (some ⟨ki2, 0, none⟩)] 84), (ke, .cells #[.int .u64 ((n : Nat) : Int), .pointer (some ⟨kl, 0, none⟩), .pointer (some ⟨kr, 0, none⟩)] 112)]) ⟨(fun φ7 xs7 => [.look 0 [] [], .look 0 [] [], .look 0 [] [], .look 0 [.c 0] [ki], .look 0 [] [], .look 0 [] [], .look 0 [] [], .look 0 [.c 1] [ke], .call 54 #[.pointer (some ⟨ki2, 0, none⟩), .pointer (some ⟨kr, 0, none⟩)], .look 0 [] []]), (fun φ7 xs7 => [.pointer (some ⟨ki, 0, none⟩), .pointer (some ⟨ki, 0, none⟩), .pointer (some ⟨ki, 2, none⟩), .pointer (some ⟨ki2, 0, none⟩), .pointer (some ⟨ke, 0, none⟩), .pointer (some ⟨ke, 0, none⟩), .pointer (some ⟨ke, 2, none⟩), .pointer (some ⟨kr, 0, none⟩), .pointer (some ⟨(xs7 8).n 0, 0, none⟩), .pointer (some ⟨(xs7 8).n 0, 0, none⟩)]), (fun φ7 xs7 => [[]]), (fun φ7 xs7 => [[default, default, default, default, default, default, default, default, default, default]]), [], [1, 1, 1, 1, 1, 1, 1, 1, 3, 1]⟩ (fun j => ([MP.any, MP.any, MP.any, MP.any, MP.any, MP.any, MP.any, MP.any, ⟨fun x J => RE J (fillE i2 r) (x.n 0), fun le h => RE.mono le h⟩, MP.any] : List MP).getD j MP.any) [8] [] [] (fun φ7 xs7 => []) (fun φ7 xs7 => [(36, .pointer (some ⟨ki, 0, none⟩)), (37, .pointer (some ⟨ki, 0, none⟩)), (38, .pointer (some ⟨ki, 2, none⟩)), (39, .pointer (some ⟨ki2, 0, none⟩)), (40, .pointer (some ⟨ke, 0, none⟩)), (41, .pointer (some ⟨ke, 0, none⟩)), (42, .pointer (some ⟨ke, 2, none⟩)), (43, .pointer (some ⟨kr, 0, none⟩)), (44, .pointer (some ⟨(xs7 8).n 0, 0, none⟩)), (5, .pointer (some ⟨(xs7 8).n 0, 0, none⟩))]) (fun φ7 xs7 => []) s ⟨hik, ⟨hek, trivial⟩⟩ (by kernel_rfl) (by kernel_rfl) (fun _ _ => by kernel_rfl) (fun _ _ => by kernel_rfl) ⟨fun _ _ => by kernel_rfl, fun _ _ => by kernel_rfl, fun _ _ => by kernel_rfl, fun _ _ => by kernel_rfl⟩ (fun _ _ _ => by kernel_rfl) (fun _ _ => by kernel_rfl) (fun _ _ => by kernel_rfl) (fun _ _ => by kernel_rfl) (fun _ _ => by kernel_rfl) (fun _ _ => by kernel_rfl) trivial trivial ⟨?c7_8, trivial⟩ ?k7
        case c7_8 =>
          refine kcast (A := ∀ (φ7 : Nat → Nat) (xs7 : Xs) (J8_7 : IM), I.Le J8_7 → Fun Tryd.prog 54 #[.pointer (some ⟨ki2, 0, none⟩), .pointer (some ⟨kr, 0, none⟩)] J8_7 (fun v J' => ∃ x : UX, v = .pointer (some ⟨x.n 0, 0, none⟩) ∧ (RE J' (fillE i2 r) (x.n 0)))) (by kernel_rfl) ?_
          intro φ7 xs7 J8_7 leJ
          have hr := RE.mono leJ hr
          have hi2 := RT.mono leJ hi2
          exact Fun.mono (ihr hi2 hr) (fun v J' _ ⟨y0, hv, g0⟩ => ⟨{ UX.d with n := fun j => y0 }, hv, g0⟩)
        case k7 =>
          rintro φ7 xs7 I7 w7 le7 s h7_8_0
          replace hl := RE.mono le7 hl
          replace hr := RE.mono le7 hr
          replace he0 := RE.mono le7 he0
          replace hi1 := RT.mono le7 hi1
          replace hi2 := RT.mono le7 hi2
          replace hek := le7 _ _ hek
          replace hik := le7 _ _ hik
          replace hp4 := le7 _ _ hp4
          refine wp_seq ?_
          refine draw_rule (C := [(ke, .cells #[.int .u64 ((n : Nat) : Int), .pointer (some ⟨kl, 0, none⟩), .pointer (some ⟨kr, 0, none⟩)] 112)]) ⟨(fun φ8 xs8 => [.look 0 [] [], .look 0 [] [], .look 0 [] [], .look 0 [.c 0] [ke], .look 0 [] [], .look 0 [] [], .look 0 [] [], .look 0 [.c 0] [ke], .call 67 #[.pointer (some ⟨kl, 0, none⟩)], .look 0 [] [], .call 71 #[.pointer (some ⟨(xs7 8).n 0, 0, none⟩)], .call 94 #[.int .u64 ((l.top : Nat) : Int), .int .u64 (((fillE i2 r).base : Nat) : Int)], .call 26 #[.int .u64 ((max l.top ((fillE i2 r).base) : Nat) : Int)], .look 0 [] [], .call 19 #[.int .u64 ((n : Nat) : Int), .pointer (some ⟨(xs8 12).n 0, 0, none⟩), .pointer (some ⟨(xs7 8).n 0, 0, none⟩)], .look 0 [] []]), (fun φ8 xs8 => [.pointer (some ⟨ke, 0, none⟩), .pointer (some ⟨ke, 0, none⟩), .pointer (some ⟨ke, 0, none⟩), .int .u64 ((n : Nat) : Int), .pointer (some ⟨ke, 0, none⟩), .pointer (some ⟨ke, 0, none⟩), .pointer (some ⟨ke, 1, none⟩), .pointer (some ⟨kl, 0, none⟩), .int .u64 ((l.top : Nat) : Int), .pointer (some ⟨(xs7 8).n 0, 0, none⟩), .int .u64 (((fillE i2 r).base : Nat) : Int), .int .u64 ((max l.top ((fillE i2 r).base) : Nat) : Int), .pointer (some ⟨(xs8 12).n 0, 0, none⟩), .pointer (some ⟨(xs7 8).n 0, 0, none⟩), .pointer (some ⟨(xs8 14).n 0, 0, none⟩), .pointer (some ⟨(xs8 14).n 0, 0, none⟩)]), (fun φ8 xs8 => [[]]), (fun φ8 xs8 => [[default, default, default, default, default, default, default, default, default, default, default, default, default, default, default, default]]), [], [1, 1, 1, 1, 1, 1, 1, 1, 3, 1, 3, 3, 3, 1, 3, 1]⟩ (fun j => ([MP.any, MP.any, MP.any, MP.any, MP.any, MP.any, MP.any, MP.any, MP.any, MP.any, MP.any, MP.any, ⟨fun x J => RE J (E.leaf (max l.top ((fillE i2 r).base))) (x.n 0), fun le h => RE.mono le h⟩, MP.any, ⟨fun x J => RE J (E.mk n (E.leaf (max l.top ((fillE i2 r).base))) (fillE i2 r)) (x.n 0), fun le h => RE.mono le h⟩, MP.any] : List MP).getD j MP.any) [8, 10, 11, 12, 14] [] [] (fun φ8 xs8 => []) (fun φ8 xs8 => [(45, .pointer (some ⟨ke, 0, none⟩)), (46, .pointer (some ⟨ke, 0, none⟩)), (47, .pointer (some ⟨ke, 0, none⟩)), (48, .int .u64 ((n : Nat) : Int)), (49, .pointer (some ⟨ke, 0, none⟩)), (50, .pointer (some ⟨ke, 0, none⟩)), (51, .pointer (some ⟨ke, 1, none⟩)), (52, .pointer (some ⟨kl, 0, none⟩)), (53, .int .u64 ((l.top : Nat) : Int)), (54, .pointer (some ⟨(xs7 8).n 0, 0, none⟩)), (55, .int .u64 (((fillE i2 r).base : Nat) : Int)), (56, .int .u64 ((max l.top ((fillE i2 r).base) : Nat) : Int)), (57, .pointer (some ⟨(xs8 12).n 0, 0, none⟩)), (58, .pointer (some ⟨(xs7 8).n 0, 0, none⟩)), (59, .pointer (some ⟨(xs8 14).n 0, 0, none⟩)), (4, .pointer (some ⟨(xs8 14).n 0, 0, none⟩))]) (fun φ8 xs8 => []) s ⟨hek, trivial⟩ (by kernel_rfl) (by kernel_rfl) (fun _ _ => by kernel_rfl) (fun _ _ => by kernel_rfl) ⟨fun _ _ => by kernel_rfl, fun _ _ => by kernel_rfl, fun _ _ => by kernel_rfl, fun _ _ => by kernel_rfl⟩ (fun _ _ _ => by kernel_rfl) (fun _ _ => by kernel_rfl) (fun _ _ => by kernel_rfl) (fun _ _ => by kernel_rfl) (fun _ _ => by kernel_rfl) (fun _ _ => by kernel_rfl) trivial trivial ⟨?c8_8, ?c8_10, ?c8_11, ?c8_12, ?c8_14, trivial⟩ ?k8
          case c8_8 =>
            refine kcast (A := ∀ (φ8 : Nat → Nat) (xs8 : Xs) (J8_8 : IM), I7.Le J8_8 → Fun Tryd.prog 67 #[.pointer (some ⟨kl, 0, none⟩)] J8_8 (fun v J' => ∃ x : UX, v = .int .u64 ((l.top : Nat) : Int) ∧ (True))) (by kernel_rfl) ?_
            intro φ8 xs8 J8_8 leJ
            have hl := RE.mono leJ hl
            exact Fun.mono (rmax_c l hl (by first | exact ht | omega)) (fun v J' _ h => ⟨UX.d, h, trivial⟩)
          case c8_10 =>
            refine kcast (A := ∀ (φ8 : Nat → Nat) (xs8 : Xs) (J10_8 : IM), I7.Le J10_8 → (True) → Fun Tryd.prog 71 #[.pointer (some ⟨(xs7 8).n 0, 0, none⟩)] J10_8 (fun v J' => ∃ x : UX, v = .int .u64 (((fillE i2 r).base : Nat) : Int) ∧ (True))) (by kernel_rfl) ?_
            intro φ8 xs8 J10_8 leJ
            rintro _
            have h7_8_0 := RE.mono leJ h7_8_0
            exact Fun.mono (rminB_c h7_8_0 hnr (by omega)) (fun v J' _ h => ⟨UX.d, h, trivial⟩)
          case c8_11 =>
            refine kcast (A := ∀ (φ8 : Nat → Nat) (xs8 : Xs) (J11_8 : IM), I7.Le J11_8 → (True) → (True) → Fun Tryd.prog 94 #[.int .u64 ((l.top : Nat) : Int), .int .u64 (((fillE i2 r).base : Nat) : Int)] J11_8 (fun v J' => ∃ x : UX, v = .int .u64 ((max l.top ((fillE i2 r).base) : Nat) : Int) ∧ (True))) (by kernel_rfl) ?_
            intro φ8 xs8 J11_8 leJ
            rintro _ _
            exact Fun.mono (greater_c (a := l.top) (b := ((fillE i2 r).base))) (fun v J' _ h => ⟨UX.d, h, trivial⟩)
          case c8_12 =>
            refine kcast (A := ∀ (φ8 : Nat → Nat) (xs8 : Xs) (J12_8 : IM), I7.Le J12_8 → (True) → (True) → (True) → Fun Tryd.prog 26 #[.int .u64 ((max l.top ((fillE i2 r).base) : Nat) : Int)] J12_8 (fun v J' => ∃ x : UX, v = .pointer (some ⟨x.n 0, 0, none⟩) ∧ (RE J' (E.leaf (max l.top ((fillE i2 r).base))) (x.n 0)))) (by kernel_rfl) ?_
            intro φ8 xs8 J12_8 leJ
            rintro _ _ _
            exact Fun.mono (rleaf_c (n := (max l.top ((fillE i2 r).base)))) (fun v J' _ ⟨y0, hv, g0⟩ => ⟨{ UX.d with n := fun j => y0 }, hv, g0⟩)
          case c8_14 =>
            refine kcast (A := ∀ (φ8 : Nat → Nat) (xs8 : Xs) (J14_8 : IM), I7.Le J14_8 → (True) → (True) → (True) → (RE J14_8 (E.leaf (max l.top ((fillE i2 r).base))) ((xs8 12).n 0)) → Fun Tryd.prog 19 #[.int .u64 ((n : Nat) : Int), .pointer (some ⟨(xs8 12).n 0, 0, none⟩), .pointer (some ⟨(xs7 8).n 0, 0, none⟩)] J14_8 (fun v J' => ∃ x : UX, v = .pointer (some ⟨x.n 0, 0, none⟩) ∧ (RE J' (E.mk n (E.leaf (max l.top ((fillE i2 r).base))) (fillE i2 r)) (x.n 0)))) (by kernel_rfl) ?_
            intro φ8 xs8 J14_8 leJ
            rintro _ _ _ h8_12_0
            have h7_8_0 := RE.mono leJ h7_8_0
            exact Fun.mono (rnode_c (n := n) h8_12_0 h7_8_0 trivial hnr (by (try simp only [E.top_leaf]); omega)) (fun v J' _ ⟨y0, hv, g0⟩ => ⟨{ UX.d with n := fun j => y0 }, hv, g0⟩)
          case k8 =>
            rintro φ8 xs8 I8 w8 le8 s _ _ _ h8_12_0 h8_14_0
            replace hl := RE.mono le8 hl
            replace hr := RE.mono le8 hr
            replace he0 := RE.mono le8 he0
            replace hi1 := RT.mono le8 hi1
            replace hi2 := RT.mono le8 hi2
            replace h7_8_0 := RE.mono le8 h7_8_0
            replace hek := le8 _ _ hek
            replace hik := le8 _ _ hik
            replace hp4 := le8 _ _ hp4
            refine wp_ret ?_
            refine ret_rule (C := []) [] [] (.pointer (some ⟨(xs8 14).n 0, 0, none⟩)) [] [] s trivial (by kernel_rfl) ?_
            exact ⟨_, _, _, rfl, s, ⟨_, rfl, by rw [fill_l (of_decide_eq_true hc6)]; exact h8_14_0⟩⟩
      ·
        rw [hc6]
        refine cond_false_rule (b := false) (by kernel_rfl) rfl ?_
        refine wp_skip ?_
        refine wp_seq ?_
        refine wp_seq ?_
        refine region_rule ?_
        obtain ⟨pl9, pr9, hp9⟩ := RT.peek hi2
        refine ops_rule (C := [(ki, .cells #[.int .i64 2, .pointer (some ⟨ki1, 0, none⟩), .pointer (some ⟨ki2, 0, none⟩)] 84), (ki2, .cells #[.int .i64 ((kindT i2 : Nat) : Int), .pointer pl9, .pointer pr9] 84)]) [] [] 8 [.c 0, .c 1] 0 (fun φ9 => [(67, .bool (((kindT i2 : Nat) : Int) == ((1 : Nat) : Int))), (66, .int .i64 ((kindT i2 : Nat) : Int)), (65, .pointer (some ⟨ki2, 0, none⟩)), (64, .pointer (some ⟨ki2, 0, none⟩)), (63, .pointer (some ⟨ki2, 0, none⟩)), (62, .pointer (some ⟨ki, 2, none⟩)), (61, .pointer (some ⟨ki, 0, none⟩)), (60, .pointer (some ⟨ki, 0, none⟩))]) (fun φ9 => []) (fun φ9 => [ki, ki2]) s ⟨hik, ⟨hp9, trivial⟩⟩ (fun φ9 => by kernel_rfl) ?_
        intro φ9 w9 s
        rw [nat_eql (a := (kindT i2)) (b := 1)]
        refine ops_done (by kernel_rfl) ?_
        rcases Bool.eq_false_or_eq_true (decide ((kindT i2) = 1)) with hc11 | hc11
        ·
          rw [hc11]
          refine cond_true_rule (b := true) (by kernel_rfl) rfl ?_
          refine wp_seq ?_
          refine draw_rule (C := [(ki, .cells #[.int .i64 2, .pointer (some ⟨ki1, 0, none⟩), .pointer (some ⟨ki2, 0, none⟩)] 84), (ke, .cells #[.int .u64 ((n : Nat) : Int), .pointer (some ⟨kl, 0, none⟩), .pointer (some ⟨kr, 0, none⟩)] 112)]) ⟨(fun φ12 xs12 => [.look 0 [] [], .look 0 [] [], .look 0 [] [], .look 0 [.c 0] [ki], .look 0 [] [], .look 0 [] [], .look 0 [] [], .look 0 [.c 1] [ke], .call 54 #[.pointer (some ⟨ki1, 0, none⟩), .pointer (some ⟨kl, 0, none⟩)], .look 0 [] []]), (fun φ12 xs12 => [.pointer (some ⟨ki, 0, none⟩), .pointer (some ⟨ki, 0, none⟩), .pointer (some ⟨ki, 1, none⟩), .pointer (some ⟨ki1, 0, none⟩), .pointer (some ⟨ke, 0, none⟩), .pointer (some ⟨ke, 0, none⟩), .pointer (some ⟨ke, 1, none⟩), .pointer (some ⟨kl, 0, none⟩), .pointer (some ⟨(xs12 8).n 0, 0, none⟩), .pointer (some ⟨(xs12 8).n 0, 0, none⟩)]), (fun φ12 xs12 => [[]]), (fun φ12 xs12 => [[default, default, default, default, default, default, default, default, default, default]]), [], [1, 1, 1, 1, 1, 1, 1, 1, 3, 1]⟩ (fun j => ([MP.any, MP.any, MP.any, MP.any, MP.any, MP.any, MP.any, MP.any, ⟨fun x J => RE J (fillE i1 l) (x.n 0), fun le h => RE.mono le h⟩, MP.any] : List MP).getD j MP.any) [8] [] [] (fun φ12 xs12 => []) (fun φ12 xs12 => [(68, .pointer (some ⟨ki, 0, none⟩)), (69, .pointer (some ⟨ki, 0, none⟩)), (70, .pointer (some ⟨ki, 1, none⟩)), (71, .pointer (some ⟨ki1, 0, none⟩)), (72, .pointer (some ⟨ke, 0, none⟩)), (73, .pointer (some ⟨ke, 0, none⟩)), (74, .pointer (some ⟨ke, 1, none⟩)), (75, .pointer (some ⟨kl, 0, none⟩)), (76, .pointer (some ⟨(xs12 8).n 0, 0, none⟩)), (6, .pointer (some ⟨(xs12 8).n 0, 0, none⟩))]) (fun φ12 xs12 => []) s ⟨hik, ⟨hek, trivial⟩⟩ (by kernel_rfl) (by kernel_rfl) (fun _ _ => by kernel_rfl) (fun _ _ => by kernel_rfl) ⟨fun _ _ => by kernel_rfl, fun _ _ => by kernel_rfl, fun _ _ => by kernel_rfl, fun _ _ => by kernel_rfl⟩ (fun _ _ _ => by kernel_rfl) (fun _ _ => by kernel_rfl) (fun _ _ => by kernel_rfl) (fun _ _ => by kernel_rfl) (fun _ _ => by kernel_rfl) (fun _ _ => by kernel_rfl) trivial trivial ⟨?c12_8, trivial⟩ ?k12
          case c12_8 =>
            refine kcast (A := ∀ (φ12 : Nat → Nat) (xs12 : Xs) (J8_12 : IM), I.Le J8_12 → Fun Tryd.prog 54 #[.pointer (some ⟨ki1, 0, none⟩), .pointer (some ⟨kl, 0, none⟩)] J8_12 (fun v J' => ∃ x : UX, v = .pointer (some ⟨x.n 0, 0, none⟩) ∧ (RE J' (fillE i1 l) (x.n 0)))) (by kernel_rfl) ?_
            intro φ12 xs12 J8_12 leJ
            have hl := RE.mono leJ hl
            have hi1 := RT.mono leJ hi1
            exact Fun.mono (ihl hi1 hl) (fun v J' _ ⟨y0, hv, g0⟩ => ⟨{ UX.d with n := fun j => y0 }, hv, g0⟩)
          case k12 =>
            rintro φ12 xs12 I12 w12 le12 s h12_8_0
            replace hl := RE.mono le12 hl
            replace hr := RE.mono le12 hr
            replace he0 := RE.mono le12 he0
            replace hi1 := RT.mono le12 hi1
            replace hi2 := RT.mono le12 hi2
            replace hek := le12 _ _ hek
            replace hik := le12 _ _ hik
            replace hp4 := le12 _ _ hp4
            replace hp9 := le12 _ _ hp9
            refine wp_seq ?_
            refine draw_rule (C := [(ke, .cells #[.int .u64 ((n : Nat) : Int), .pointer (some ⟨kl, 0, none⟩), .pointer (some ⟨kr, 0, none⟩)] 112)]) ⟨(fun φ13 xs13 => [.look 0 [] [], .look 0 [] [], .look 0 [] [], .look 0 [.c 0] [ke], .look 0 [] [], .look 0 [] [], .look 0 [] [], .look 0 [] [], .look 0 [.c 0] [ke], .call 67 #[.pointer (some ⟨kr, 0, none⟩)], .look 0 [] [], .call 71 #[.pointer (some ⟨(xs12 8).n 0, 0, none⟩)], .call 94 #[.int .u64 ((r.top : Nat) : Int), .int .u64 (((fillE i1 l).base : Nat) : Int)], .call 26 #[.int .u64 ((max r.top ((fillE i1 l).base) : Nat) : Int)], .call 19 #[.int .u64 ((n : Nat) : Int), .pointer (some ⟨(xs12 8).n 0, 0, none⟩), .pointer (some ⟨(xs13 13).n 0, 0, none⟩)], .look 0 [] []]), (fun φ13 xs13 => [.pointer (some ⟨ke, 0, none⟩), .pointer (some ⟨ke, 0, none⟩), .pointer (some ⟨ke, 0, none⟩), .int .u64 ((n : Nat) : Int), .pointer (some ⟨(xs12 8).n 0, 0, none⟩), .pointer (some ⟨ke, 0, none⟩), .pointer (some ⟨ke, 0, none⟩), .pointer (some ⟨ke, 2, none⟩), .pointer (some ⟨kr, 0, none⟩), .int .u64 ((r.top : Nat) : Int), .pointer (some ⟨(xs12 8).n 0, 0, none⟩), .int .u64 (((fillE i1 l).base : Nat) : Int), .int .u64 ((max r.top ((fillE i1 l).base) : Nat) : Int), .pointer (some ⟨(xs13 13).n 0, 0, none⟩), .pointer (some ⟨(xs13 14).n 0, 0, none⟩), .pointer (some ⟨(xs13 14).n 0, 0, none⟩)]), (fun φ13 xs13 => [[]]), (fun φ13 xs13 => [[default, default, default, default, default, default, default, default, default, default, default, default, default, default, default, default]]), [], [1, 1, 1, 1, 1, 1, 1, 1, 1, 3, 1, 3, 3, 3, 3, 1]⟩ (fun j => ([MP.any, MP.any, MP.any, MP.any, MP.any, MP.any, MP.any, MP.any, MP.any, MP.any, MP.any, MP.any, MP.any, ⟨fun x J => RE J (E.leaf (max r.top ((fillE i1 l).base))) (x.n 0), fun le h => RE.mono le h⟩, ⟨fun x J => RE J (E.mk n (fillE i1 l) (E.leaf (max r.top ((fillE i1 l).base)))) (x.n 0), fun le h => RE.mono le h⟩, MP.any] : List MP).getD j MP.any) [9, 11, 12, 13, 14] [] [] (fun φ13 xs13 => []) (fun φ13 xs13 => [(77, .pointer (some ⟨ke, 0, none⟩)), (78, .pointer (some ⟨ke, 0, none⟩)), (79, .pointer (some ⟨ke, 0, none⟩)), (80, .int .u64 ((n : Nat) : Int)), (81, .pointer (some ⟨(xs12 8).n 0, 0, none⟩)), (82, .pointer (some ⟨ke, 0, none⟩)), (83, .pointer (some ⟨ke, 0, none⟩)), (84, .pointer (some ⟨ke, 2, none⟩)), (85, .pointer (some ⟨kr, 0, none⟩)), (86, .int .u64 ((r.top : Nat) : Int)), (87, .pointer (some ⟨(xs12 8).n 0, 0, none⟩)), (88, .int .u64 (((fillE i1 l).base : Nat) : Int)), (89, .int .u64 ((max r.top ((fillE i1 l).base) : Nat) : Int)), (90, .pointer (some ⟨(xs13 13).n 0, 0, none⟩)), (91, .pointer (some ⟨(xs13 14).n 0, 0, none⟩)), (4, .pointer (some ⟨(xs13 14).n 0, 0, none⟩))]) (fun φ13 xs13 => []) s ⟨hek, trivial⟩ (by kernel_rfl) (by kernel_rfl) (fun _ _ => by kernel_rfl) (fun _ _ => by kernel_rfl) ⟨fun _ _ => by kernel_rfl, fun _ _ => by kernel_rfl, fun _ _ => by kernel_rfl, fun _ _ => by kernel_rfl⟩ (fun _ _ _ => by kernel_rfl) (fun _ _ => by kernel_rfl) (fun _ _ => by kernel_rfl) (fun _ _ => by kernel_rfl) (fun _ _ => by kernel_rfl) (fun _ _ => by kernel_rfl) trivial trivial ⟨?c13_9, ?c13_11, ?c13_12, ?c13_13, ?c13_14, trivial⟩ ?k13
            case c13_9 =>
              refine kcast (A := ∀ (φ13 : Nat → Nat) (xs13 : Xs) (J9_13 : IM), I12.Le J9_13 → Fun Tryd.prog 67 #[.pointer (some ⟨kr, 0, none⟩)] J9_13 (fun v J' => ∃ x : UX, v = .int .u64 ((r.top : Nat) : Int) ∧ (True))) (by kernel_rfl) ?_
              intro φ13 xs13 J9_13 leJ
              have hr := RE.mono leJ hr
              exact Fun.mono (rmax_c r hr (by first | exact ht | omega)) (fun v J' _ h => ⟨UX.d, h, trivial⟩)
            case c13_11 =>
              refine kcast (A := ∀ (φ13 : Nat → Nat) (xs13 : Xs) (J11_13 : IM), I12.Le J11_13 → (True) → Fun Tryd.prog 71 #[.pointer (some ⟨(xs12 8).n 0, 0, none⟩)] J11_13 (fun v J' => ∃ x : UX, v = .int .u64 (((fillE i1 l).base : Nat) : Int) ∧ (True))) (by kernel_rfl) ?_
              intro φ13 xs13 J11_13 leJ
              rintro _
              have h12_8_0 := RE.mono leJ h12_8_0
              exact Fun.mono (rminB_c h12_8_0 hnl (by omega)) (fun v J' _ h => ⟨UX.d, h, trivial⟩)
            case c13_12 =>
              refine kcast (A := ∀ (φ13 : Nat → Nat) (xs13 : Xs) (J12_13 : IM), I12.Le J12_13 → (True) → (True) → Fun Tryd.prog 94 #[.int .u64 ((r.top : Nat) : Int), .int .u64 (((fillE i1 l).base : Nat) : Int)] J12_13 (fun v J' => ∃ x : UX, v = .int .u64 ((max r.top ((fillE i1 l).base) : Nat) : Int) ∧ (True))) (by kernel_rfl) ?_
              intro φ13 xs13 J12_13 leJ
              rintro _ _
              exact Fun.mono (greater_c (a := r.top) (b := ((fillE i1 l).base))) (fun v J' _ h => ⟨UX.d, h, trivial⟩)
            case c13_13 =>
              refine kcast (A := ∀ (φ13 : Nat → Nat) (xs13 : Xs) (J13_13 : IM), I12.Le J13_13 → (True) → (True) → (True) → Fun Tryd.prog 26 #[.int .u64 ((max r.top ((fillE i1 l).base) : Nat) : Int)] J13_13 (fun v J' => ∃ x : UX, v = .pointer (some ⟨x.n 0, 0, none⟩) ∧ (RE J' (E.leaf (max r.top ((fillE i1 l).base))) (x.n 0)))) (by kernel_rfl) ?_
              intro φ13 xs13 J13_13 leJ
              rintro _ _ _
              exact Fun.mono (rleaf_c (n := (max r.top ((fillE i1 l).base)))) (fun v J' _ ⟨y0, hv, g0⟩ => ⟨{ UX.d with n := fun j => y0 }, hv, g0⟩)
            case c13_14 =>
              refine kcast (A := ∀ (φ13 : Nat → Nat) (xs13 : Xs) (J14_13 : IM), I12.Le J14_13 → (True) → (True) → (True) → (RE J14_13 (E.leaf (max r.top ((fillE i1 l).base))) ((xs13 13).n 0)) → Fun Tryd.prog 19 #[.int .u64 ((n : Nat) : Int), .pointer (some ⟨(xs12 8).n 0, 0, none⟩), .pointer (some ⟨(xs13 13).n 0, 0, none⟩)] J14_13 (fun v J' => ∃ x : UX, v = .pointer (some ⟨x.n 0, 0, none⟩) ∧ (RE J' (E.mk n (fillE i1 l) (E.leaf (max r.top ((fillE i1 l).base)))) (x.n 0)))) (by kernel_rfl) ?_
              intro φ13 xs13 J14_13 leJ
              rintro _ _ _ h13_13_0
              have h12_8_0 := RE.mono leJ h12_8_0
              exact Fun.mono (rnode_c (n := n) h12_8_0 h13_13_0 hnl trivial (by (try simp only [E.top_leaf]); omega)) (fun v J' _ ⟨y0, hv, g0⟩ => ⟨{ UX.d with n := fun j => y0 }, hv, g0⟩)
            case k13 =>
              rintro φ13 xs13 I13 w13 le13 s _ _ _ h13_13_0 h13_14_0
              replace hl := RE.mono le13 hl
              replace hr := RE.mono le13 hr
              replace he0 := RE.mono le13 he0
              replace hi1 := RT.mono le13 hi1
              replace hi2 := RT.mono le13 hi2
              replace h12_8_0 := RE.mono le13 h12_8_0
              replace hek := le13 _ _ hek
              replace hik := le13 _ _ hik
              replace hp4 := le13 _ _ hp4
              replace hp9 := le13 _ _ hp9
              refine wp_ret ?_
              refine ret_rule (C := []) [] [] (.pointer (some ⟨(xs13 14).n 0, 0, none⟩)) [] [] s trivial (by kernel_rfl) ?_
              exact ⟨_, _, _, rfl, s, ⟨_, rfl, by rw [fill_r (of_decide_eq_false hc6) (of_decide_eq_true hc11)]; exact h13_14_0⟩⟩
        ·
          rw [hc11]
          refine cond_false_rule (b := false) (by kernel_rfl) rfl ?_
          refine wp_skip ?_
          refine wp_seq ?_
          refine draw_rule (C := [(ke, .cells #[.int .u64 ((n : Nat) : Int), .pointer (some ⟨kl, 0, none⟩), .pointer (some ⟨kr, 0, none⟩)] 112), (ki, .cells #[.int .i64 2, .pointer (some ⟨ki1, 0, none⟩), .pointer (some ⟨ki2, 0, none⟩)] 84)]) ⟨(fun φ14 xs14 => [.look 0 [] [], .look 0 [] [], .look 0 [] [], .look 0 [.c 0] [ke], .look 0 [] [], .look 0 [] [], .look 0 [] [], .look 0 [.c 1] [ki], .look 0 [] [], .look 0 [] [], .look 0 [] [], .look 0 [.c 0] [ke], .call 54 #[.pointer (some ⟨ki1, 0, none⟩), .pointer (some ⟨kl, 0, none⟩)], .look 0 [] [], .look 0 [] [], .look 0 [] [], .look 0 [.c 1] [ki], .look 0 [] [], .look 0 [] [], .look 0 [] [], .look 0 [.c 0] [ke], .call 54 #[.pointer (some ⟨ki2, 0, none⟩), .pointer (some ⟨kr, 0, none⟩)], .call 19 #[.int .u64 ((n : Nat) : Int), .pointer (some ⟨(xs14 12).n 0, 0, none⟩), .pointer (some ⟨(xs14 21).n 0, 0, none⟩)], .look 0 [] []]), (fun φ14 xs14 => [.pointer (some ⟨ke, 0, none⟩), .pointer (some ⟨ke, 0, none⟩), .pointer (some ⟨ke, 0, none⟩), .int .u64 ((n : Nat) : Int), .pointer (some ⟨ki, 0, none⟩), .pointer (some ⟨ki, 0, none⟩), .pointer (some ⟨ki, 1, none⟩), .pointer (some ⟨ki1, 0, none⟩), .pointer (some ⟨ke, 0, none⟩), .pointer (some ⟨ke, 0, none⟩), .pointer (some ⟨ke, 1, none⟩), .pointer (some ⟨kl, 0, none⟩), .pointer (some ⟨(xs14 12).n 0, 0, none⟩), .pointer (some ⟨ki, 0, none⟩), .pointer (some ⟨ki, 0, none⟩), .pointer (some ⟨ki, 2, none⟩), .pointer (some ⟨ki2, 0, none⟩), .pointer (some ⟨ke, 0, none⟩), .pointer (some ⟨ke, 0, none⟩), .pointer (some ⟨ke, 2, none⟩), .pointer (some ⟨kr, 0, none⟩), .pointer (some ⟨(xs14 21).n 0, 0, none⟩), .pointer (some ⟨(xs14 22).n 0, 0, none⟩), .pointer (some ⟨(xs14 22).n 0, 0, none⟩)]), (fun φ14 xs14 => [[]]), (fun φ14 xs14 => [[default, default, default, default, default, default, default, default, default, default, default, default, default, default, default, default, default, default, default, default, default, default, default, default]]), [], [1, 1, 1, 1, 1, 1, 1, 1, 1, 1, 1, 1, 3, 1, 1, 1, 1, 1, 1, 1, 1, 3, 3, 1]⟩ (fun j => ([MP.any, MP.any, MP.any, MP.any, MP.any, MP.any, MP.any, MP.any, MP.any, MP.any, MP.any, MP.any, ⟨fun x J => RE J (fillE i1 l) (x.n 0), fun le h => RE.mono le h⟩, MP.any, MP.any, MP.any, MP.any, MP.any, MP.any, MP.any, MP.any, ⟨fun x J => RE J (fillE i2 r) (x.n 0), fun le h => RE.mono le h⟩, ⟨fun x J => RE J (E.mk n (fillE i1 l) (fillE i2 r)) (x.n 0), fun le h => RE.mono le h⟩, MP.any] : List MP).getD j MP.any) [12, 21, 22] [] [] (fun φ14 xs14 => []) (fun φ14 xs14 => [(92, .pointer (some ⟨ke, 0, none⟩)), (93, .pointer (some ⟨ke, 0, none⟩)), (94, .pointer (some ⟨ke, 0, none⟩)), (95, .int .u64 ((n : Nat) : Int)), (96, .pointer (some ⟨ki, 0, none⟩)), (97, .pointer (some ⟨ki, 0, none⟩)), (98, .pointer (some ⟨ki, 1, none⟩)), (99, .pointer (some ⟨ki1, 0, none⟩)), (100, .pointer (some ⟨ke, 0, none⟩)), (101, .pointer (some ⟨ke, 0, none⟩)), (102, .pointer (some ⟨ke, 1, none⟩)), (103, .pointer (some ⟨kl, 0, none⟩)), (104, .pointer (some ⟨(xs14 12).n 0, 0, none⟩)), (105, .pointer (some ⟨ki, 0, none⟩)), (106, .pointer (some ⟨ki, 0, none⟩)), (107, .pointer (some ⟨ki, 2, none⟩)), (108, .pointer (some ⟨ki2, 0, none⟩)), (109, .pointer (some ⟨ke, 0, none⟩)), (110, .pointer (some ⟨ke, 0, none⟩)), (111, .pointer (some ⟨ke, 2, none⟩)), (112, .pointer (some ⟨kr, 0, none⟩)), (113, .pointer (some ⟨(xs14 21).n 0, 0, none⟩)), (114, .pointer (some ⟨(xs14 22).n 0, 0, none⟩)), (4, .pointer (some ⟨(xs14 22).n 0, 0, none⟩))]) (fun φ14 xs14 => []) s ⟨hek, ⟨hik, trivial⟩⟩ (by kernel_rfl) (by kernel_rfl) (fun _ _ => by kernel_rfl) (fun _ _ => by kernel_rfl) ⟨fun _ _ => by kernel_rfl, fun _ _ => by kernel_rfl, fun _ _ => by kernel_rfl, fun _ _ => by kernel_rfl⟩ (fun _ _ _ => by kernel_rfl) (fun _ _ => by kernel_rfl) (fun _ _ => by kernel_rfl) (fun _ _ => by kernel_rfl) (fun _ _ => by kernel_rfl) (fun _ _ => by kernel_rfl) trivial trivial ⟨?c14_12, ?c14_21, ?c14_22, trivial⟩ ?k14
          case c14_12 =>
            refine kcast (A := ∀ (φ14 : Nat → Nat) (xs14 : Xs) (J12_14 : IM), I.Le J12_14 → Fun Tryd.prog 54 #[.pointer (some ⟨ki1, 0, none⟩), .pointer (some ⟨kl, 0, none⟩)] J12_14 (fun v J' => ∃ x : UX, v = .pointer (some ⟨x.n 0, 0, none⟩) ∧ (RE J' (fillE i1 l) (x.n 0)))) (by kernel_rfl) ?_
            intro φ14 xs14 J12_14 leJ
            have hl := RE.mono leJ hl
            have hi1 := RT.mono leJ hi1
            exact Fun.mono (ihl hi1 hl) (fun v J' _ ⟨y0, hv, g0⟩ => ⟨{ UX.d with n := fun j => y0 }, hv, g0⟩)
          case c14_21 =>
            refine kcast (A := ∀ (φ14 : Nat → Nat) (xs14 : Xs) (J21_14 : IM), I.Le J21_14 → (RE J21_14 (fillE i1 l) ((xs14 12).n 0)) → Fun Tryd.prog 54 #[.pointer (some ⟨ki2, 0, none⟩), .pointer (some ⟨kr, 0, none⟩)] J21_14 (fun v J' => ∃ x : UX, v = .pointer (some ⟨x.n 0, 0, none⟩) ∧ (RE J' (fillE i2 r) (x.n 0)))) (by kernel_rfl) ?_
            intro φ14 xs14 J21_14 leJ
            rintro h14_12_0
            have hr := RE.mono leJ hr
            have hi2 := RT.mono leJ hi2
            exact Fun.mono (ihr hi2 hr) (fun v J' _ ⟨y0, hv, g0⟩ => ⟨{ UX.d with n := fun j => y0 }, hv, g0⟩)
          case c14_22 =>
            refine kcast (A := ∀ (φ14 : Nat → Nat) (xs14 : Xs) (J22_14 : IM), I.Le J22_14 → (RE J22_14 (fillE i1 l) ((xs14 12).n 0)) → (RE J22_14 (fillE i2 r) ((xs14 21).n 0)) → Fun Tryd.prog 19 #[.int .u64 ((n : Nat) : Int), .pointer (some ⟨(xs14 12).n 0, 0, none⟩), .pointer (some ⟨(xs14 21).n 0, 0, none⟩)] J22_14 (fun v J' => ∃ x : UX, v = .pointer (some ⟨x.n 0, 0, none⟩) ∧ (RE J' (E.mk n (fillE i1 l) (fillE i2 r)) (x.n 0)))) (by kernel_rfl) ?_
            intro φ14 xs14 J22_14 leJ
            rintro h14_12_0 h14_21_0
            exact Fun.mono (rnode_c (n := n) h14_12_0 h14_21_0 hnl hnr (by (try simp only [E.top_leaf]); omega)) (fun v J' _ ⟨y0, hv, g0⟩ => ⟨{ UX.d with n := fun j => y0 }, hv, g0⟩)
          case k14 =>
            rintro φ14 xs14 I14 w14 le14 s h14_12_0 h14_21_0 h14_22_0
            replace hl := RE.mono le14 hl
            replace hr := RE.mono le14 hr
            replace he0 := RE.mono le14 he0
            replace hi1 := RT.mono le14 hi1
            replace hi2 := RT.mono le14 hi2
            replace hek := le14 _ _ hek
            replace hik := le14 _ _ hik
            replace hp4 := le14 _ _ hp4
            replace hp9 := le14 _ _ hp9
            refine wp_ret ?_
            refine ret_rule (C := []) [] [] (.pointer (some ⟨(xs14 22).n 0, 0, none⟩)) [] [] s trivial (by kernel_rfl) ?_
            exact ⟨_, _, _, rfl, s, ⟨_, rfl, by rw [fill_b (of_decide_eq_false hc6) (of_decide_eq_false hc11)]; exact h14_22_0⟩⟩

theorem rfill_c : ∀ (e : E) (i : T) {I : IM} {ki ke : Nat}, e.nf → e.top < 18446744073709551616 → RT I i ki → RE I e ke → Fun Tryd.prog 54 #[.pointer (some ⟨ki, 0, none⟩), .pointer (some ⟨ke, 0, none⟩)] I (fun v J => ∃ k, v = .pointer (some ⟨k, 0, none⟩) ∧ RE J (fillE i e) k)
  | .leaf n, i, _, _, _, hn, ht, hi, he => rfill_step hi he hn ht (fun _ _ _ _ _ _ h => by cases h)
  | .node n l r, i, _, _, _, hn, ht, hi, he => rfill_step hi he hn ht (fun i1 i2 n' l' r' e1 e2 => by
      cases e2
      have ht1 : n + max l.top r.top < 18446744073709551616 := ht
      exact ⟨fun {J} {k1 k2} a b => rfill_c l i1 hn.1 (by omega) a b, fun {J} {k1 k2} a b => rfill_c r i2 hn.2.1 (by omega) a b⟩)

end Go.Proofs.YtgdickihjaomjaaDoor
