/- The document's events: Leaf, Min; to the program's own; like. -/
import Derived.Test.YtgdickihjaomjaaDoorElP9
set_option linter.all false
set_option maxRecDepth 100000
namespace Go.Proofs.YtgdickihjaomjaaDoor
open Go.RowKit Go.Sep

set_option maxHeartbeats 400000 in
theorem rleaf_c {I : IM} {n : Nat} : Fun Tryd.prog 26 #[.int .u64 ((n : Nat) : Int)] I (fun v J => ∃ k, v = .pointer (some ⟨k, 0, none⟩) ∧ RE J (E.leaf n) k) := by
  refine enter_rule 6 [(0, .int .u64 ((n : Nat) : Int))] Tryd.func26 rfl (by kernel_rfl) ?_
  intro w s
  refine wp_seq ?_
  refine region_rule ?_
  refine ops_rule (C := []) [] [] 1 [] 0 (fun φ1 => [(2, .pointer none)]) (fun φ1 => []) (fun φ1 => []) s trivial (fun φ1 => by kernel_rfl) ?_
  intro φ1 w1 s
  refine ops_done (by kernel_rfl) ?_
  refine wp_seq ?_
  refine region_rule ?_
  refine ops_rule (C := []) [] [] 4 [] 1 (fun φ2 => [(2, .pointer (some ⟨(φ2 0), 0, none⟩)), (5, .pointer (some ⟨(φ2 0), 0, none⟩)), (4, .agg #[.int .u64 ((n : Nat) : Int), .pointer none, .pointer none]), (3, .int .u64 ((n : Nat) : Int))]) (fun φ2 => [((φ2 0), .cells #[.int .u64 ((n : Nat) : Int), .pointer none, .pointer none] 112)]) (fun φ2 => []) s trivial (fun φ2 => by kernel_rfl) ?_
  intro φ2 w2 s
  refine ops_done (by kernel_rfl) ?_
  refine wp_ret ?_
  refine ret_rule (C := []) [((φ2 0), .cells #[.int .u64 ((n : Nat) : Int), .pointer none, .pointer none] 112)] [] (.pointer (some ⟨(φ2 0), 0, none⟩)) [] [] s trivial (by kernel_rfl) ?_
  obtain ⟨I3, le3, hk3, s⟩ := s.freezeAt 0 (φ2 0) (.cells #[.int .u64 ((n : Nat) : Int), .pointer none, .pointer none] 112) [] (by kernel_rfl) (by kernel_rfl)
  exact ⟨_, _, _, rfl, s, ⟨_, rfl, hk3⟩⟩

set_option maxHeartbeats 2000000 in
theorem rmin_step {I : IM} {e : E} {k : Nat} (h : RE I e k) (ht : e.top < 18446744073709551616) (ih : ∀ n l r, e = .node n l r → (∀ {J : IM} {k : Nat}, RE J l k → l.top < 18446744073709551616 → Fun Tryd.prog 71 #[.pointer (some ⟨k, 0, none⟩)] J (fun v J => v = .int .u64 ((l.minE : Nat) : Int))) ∧ (∀ {J : IM} {k : Nat}, RE J r k → r.top < 18446744073709551616 → Fun Tryd.prog 71 #[.pointer (some ⟨k, 0, none⟩)] J (fun v J => v = .int .u64 ((r.minE : Nat) : Int)))) : Fun Tryd.prog 71 #[.pointer (some ⟨k, 0, none⟩)] I (fun v J => v = .int .u64 ((e.minE : Nat) : Int)) := by
  cases e with
  | leaf n =>
    have h0 : RE _ (E.leaf n) k := h
    refine enter_rule 39 [(0, .pointer (some ⟨k, 0, none⟩))] Tryd.func71 rfl (by kernel_rfl) ?_
    intro w s
    refine wp_seq ?_
    refine region_rule ?_
    refine ops_rule (C := []) [] [] 1 [] 0 (fun φ1 => [(2, .int .u64 0)]) (fun φ1 => []) (fun φ1 => []) s trivial (fun φ1 => by kernel_rfl) ?_
    intro φ1 w1 s
    refine ops_done (by kernel_rfl) ?_
    refine wp_seq ?_
    refine wp_seq ?_
    refine region_rule ?_
    refine ops_rule (C := [(k, .cells #[.int .u64 ((n : Nat) : Int), .pointer none, .pointer none] 112)]) [] [] 5 [.c 0] 0 (fun φ2 => [(9, .bool true), (8, .pointer none), (7, .pointer (some ⟨k, 1, none⟩)), (6, .pointer (some ⟨k, 0, none⟩)), (5, .pointer (some ⟨k, 0, none⟩))]) (fun φ2 => []) (fun φ2 => [k]) s ⟨h, trivial⟩ (fun φ2 => by kernel_rfl) ?_
    intro φ2 w2 s
    refine ops_done (by kernel_rfl) ?_
    refine cond_true_rule (b := true) (by kernel_rfl) rfl ?_
    refine wp_seq ?_
    refine region_rule ?_
    refine ops_rule (C := [(k, .cells #[.int .u64 ((n : Nat) : Int), .pointer none, .pointer none] 112)]) [] [] 5 [.c 0] 0 (fun φ3 => [(2, .int .u64 ((n : Nat) : Int)), (13, .int .u64 ((n : Nat) : Int)), (12, .pointer (some ⟨k, 0, none⟩)), (11, .pointer (some ⟨k, 0, none⟩)), (10, .pointer (some ⟨k, 0, none⟩))]) (fun φ3 => []) (fun φ3 => [k]) s ⟨h, trivial⟩ (fun φ3 => by kernel_rfl) ?_
    intro φ3 w3 s
    refine ops_done (by kernel_rfl) ?_
    refine wp_ret ?_
    refine ret_rule (C := []) [] [] (.int .u64 ((n : Nat) : Int)) [] [] s trivial (by kernel_rfl) ?_
    exact ⟨_, _, _, rfl, s, rfl⟩
  | node n l r =>
    have h0 : RE _ (E.node n l r) k := h
    obtain ⟨kl, kr, hk, hl, hr⟩ := h
    obtain ⟨ihl, ihr⟩ := ih n l r rfl
    clear ih
    have ht1 : n + max l.top r.top < 18446744073709551616 := ht
    have hm1 := E.minE_le l
    have hm2 := E.minE_le r
    refine enter_rule 39 [(0, .pointer (some ⟨k, 0, none⟩))] Tryd.func71 rfl (by kernel_rfl) ?_
    intro w s
    refine wp_seq ?_
    refine region_rule ?_
    refine ops_rule (C := []) [] [] 1 [] 0 (fun φ1 => [(2, .int .u64 0)]) (fun φ1 => []) (fun φ1 => []) s trivial (fun φ1 => by kernel_rfl) ?_
    intro φ1 w1 s
    refine ops_done (by kernel_rfl) ?_
    refine wp_seq ?_
    refine wp_seq ?_
    refine region_rule ?_
    refine ops_rule (C := [(k, .cells #[.int .u64 ((n : Nat) : Int), .pointer (some ⟨kl, 0, none⟩), .pointer (some ⟨kr, 0, none⟩)] 112)]) [] [] 5 [.c 0] 0 (fun φ2 => [(9, .bool false), (8, .pointer (some ⟨kl, 0, none⟩)), (7, .pointer (some ⟨k, 1, none⟩)), (6, .pointer (some ⟨k, 0, none⟩)), (5, .pointer (some ⟨k, 0, none⟩))]) (fun φ2 => []) (fun φ2 => [k]) s ⟨hk, trivial⟩ (fun φ2 => by kernel_rfl) ?_
    intro φ2 w2 s
    refine ops_done (by kernel_rfl) ?_
    refine cond_false_rule (b := false) (by kernel_rfl) rfl ?_
    refine wp_skip ?_
    refine wp_seq ?_
    refine draw_rule (C := [(k, .cells #[.int .u64 ((n : Nat) : Int), .pointer (some ⟨kl, 0, none⟩), .pointer (some ⟨kr, 0, none⟩)] 112)]) ⟨(fun φ3 xs3 => [.look 0 [] [], .look 0 [] [], .look 0 [] [], .look 0 [.c 0] [k], .call 71 #[.pointer (some ⟨kl, 0, none⟩)], .look 0 [] [], .look 0 [] [], .look 0 [] [], .look 0 [.c 0] [k], .call 71 #[.pointer (some ⟨kr, 0, none⟩)], .look 0 [] [], .look 0 [] []]), (fun φ3 xs3 => [.pointer (some ⟨k, 0, none⟩), .pointer (some ⟨k, 0, none⟩), .pointer (some ⟨k, 1, none⟩), .pointer (some ⟨kl, 0, none⟩), .int .u64 ((l.minE : Nat) : Int), .pointer (some ⟨k, 0, none⟩), .pointer (some ⟨k, 0, none⟩), .pointer (some ⟨k, 2, none⟩), .pointer (some ⟨kr, 0, none⟩), .int .u64 ((r.minE : Nat) : Int), .int .u64 ((l.minE : Nat) : Int), .int .u64 ((r.minE : Nat) : Int)]), (fun φ3 xs3 => [[]]), (fun φ3 xs3 => [[default, default, default, default, default, default, default, default, default, default, default, default]]), [], [1, 1, 1, 1, 3, 1, 1, 1, 1, 3, 1, 1]⟩ (fun j => ([MP.any, MP.any, MP.any, MP.any, MP.any, MP.any, MP.any, MP.any, MP.any, MP.any, MP.any, MP.any] : List MP).getD j MP.any) [4, 9] [] [] (fun φ3 xs3 => []) (fun φ3 xs3 => [(14, .pointer (some ⟨k, 0, none⟩)), (15, .pointer (some ⟨k, 0, none⟩)), (16, .pointer (some ⟨k, 1, none⟩)), (17, .pointer (some ⟨kl, 0, none⟩)), (18, .int .u64 ((l.minE : Nat) : Int)), (19, .pointer (some ⟨k, 0, none⟩)), (20, .pointer (some ⟨k, 0, none⟩)), (21, .pointer (some ⟨k, 2, none⟩)), (22, .pointer (some ⟨kr, 0, none⟩)), (23, .int .u64 ((r.minE : Nat) : Int)), (3, .int .u64 ((l.minE : Nat) : Int)), (4, .int .u64 ((r.minE : Nat) : Int))]) (fun φ3 xs3 => []) s ⟨hk, trivial⟩ (by kernel_rfl) (by kernel_rfl) (fun _ _ => by kernel_rfl) (fun _ _ => by kernel_rfl) ⟨fun _ _ => by kernel_rfl, fun _ _ => by kernel_rfl, fun _ _ => by kernel_rfl, fun _ _ => by kernel_rfl⟩ (fun _ _ _ => by kernel_rfl) (fun _ _ => by kernel_rfl) (fun _ _ => by kernel_rfl) (fun _ _ => by kernel_rfl) (fun _ _ => by kernel_rfl) (fun _ _ => by kernel_rfl) trivial trivial (by kernel_rfl) ⟨?c3_4, ?c3_9, trivial⟩ ?k3
    case c3_4 =>
      refine kcast (A := ∀ (φ3 : Nat → Nat) (xs3 : Xs) (J4_3 : IM), I.Le J4_3 → Fun Tryd.prog 71 #[.pointer (some ⟨kl, 0, none⟩)] J4_3 (fun v J' => ∃ x : UX, v = .int .u64 ((l.minE : Nat) : Int) ∧ (True))) (by kernel_rfl) ?_
      intro φ3 xs3 J4_3 leJ
      have hl := RE.mono leJ hl
      exact Fun.mono (ihl hl (by omega)) (fun v J' _ h => ⟨UX.d, h, trivial⟩)
    case c3_9 =>
      refine kcast (A := ∀ (φ3 : Nat → Nat) (xs3 : Xs) (J9_3 : IM), I.Le J9_3 → (True) → Fun Tryd.prog 71 #[.pointer (some ⟨kr, 0, none⟩)] J9_3 (fun v J' => ∃ x : UX, v = .int .u64 ((r.minE : Nat) : Int) ∧ (True))) (by kernel_rfl) ?_
      intro φ3 xs3 J9_3 leJ
      rintro _
      have hr := RE.mono leJ hr
      exact Fun.mono (ihr hr (by omega)) (fun v J' _ h => ⟨UX.d, h, trivial⟩)
    case k3 =>
      rintro φ3 xs3 I3 w3 le3 s _ _
      replace hl := RE.mono le3 hl
      replace hr := RE.mono le3 hr
      replace h0 := RE.mono le3 h0
      replace hk := le3 _ _ hk
      refine wp_seq ?_
      refine wp_seq ?_
      refine region_rule ?_
      refine ops_rule (C := []) [] [] 3 [] 0 (fun φ4 => [(26, .bool (decide (((l.minE : Nat) : Int) < ((r.minE : Nat) : Int)))), (25, .int .u64 ((r.minE : Nat) : Int)), (24, .int .u64 ((l.minE : Nat) : Int))]) (fun φ4 => []) (fun φ4 => []) s trivial (fun φ4 => by kernel_rfl) ?_
      intro φ4 w4 s
      rw [nat_lss (a := l.minE) (b := r.minE)]
      refine ops_done (by kernel_rfl) ?_
      rcases Bool.eq_false_or_eq_true (decide (l.minE < r.minE)) with hc5 | hc5
      ·
        rw [hc5]
        refine cond_true_rule (b := true) (by kernel_rfl) rfl ?_
        refine wp_seq ?_
        refine region_rule ?_
        refine ops_rule (C := [(k, .cells #[.int .u64 ((n : Nat) : Int), .pointer (some ⟨kl, 0, none⟩), .pointer (some ⟨kr, 0, none⟩)] 112)]) [] [] 7 [.c 0] 0 (fun φ6 => [(2, .int .u64 (IntKind.wrap .u64 (((n : Nat) : Int) + ((l.minE : Nat) : Int)))), (32, .int .u64 (IntKind.wrap .u64 (((n : Nat) : Int) + ((l.minE : Nat) : Int)))), (31, .int .u64 ((l.minE : Nat) : Int)), (30, .int .u64 ((n : Nat) : Int)), (29, .pointer (some ⟨k, 0, none⟩)), (28, .pointer (some ⟨k, 0, none⟩)), (27, .pointer (some ⟨k, 0, none⟩))]) (fun φ6 => []) (fun φ6 => [k]) s ⟨hk, trivial⟩ (fun φ6 => by kernel_rfl) ?_
        intro φ6 w6 s
        rw [nat_addU (a := n) (b := l.minE) (by omega)]
        refine ops_done (by kernel_rfl) ?_
        refine wp_ret ?_
        refine ret_rule (C := []) [] [] (.int .u64 ((n + l.minE : Nat) : Int)) [] [] s trivial (by kernel_rfl) ?_
        exact ⟨_, _, _, rfl, s, (by have hc := of_decide_eq_true hc5; show _ = Value.int .u64 ((n + min l.minE r.minE : Nat) : Int); rw [Nat.min_eq_left (by omega)])⟩
      ·
        rw [hc5]
        refine cond_false_rule (b := false) (by kernel_rfl) rfl ?_
        refine wp_skip ?_
        refine wp_seq ?_
        refine region_rule ?_
        refine ops_rule (C := [(k, .cells #[.int .u64 ((n : Nat) : Int), .pointer (some ⟨kl, 0, none⟩), .pointer (some ⟨kr, 0, none⟩)] 112)]) [] [] 7 [.c 0] 0 (fun φ7 => [(2, .int .u64 (IntKind.wrap .u64 (((n : Nat) : Int) + ((r.minE : Nat) : Int)))), (38, .int .u64 (IntKind.wrap .u64 (((n : Nat) : Int) + ((r.minE : Nat) : Int)))), (37, .int .u64 ((r.minE : Nat) : Int)), (36, .int .u64 ((n : Nat) : Int)), (35, .pointer (some ⟨k, 0, none⟩)), (34, .pointer (some ⟨k, 0, none⟩)), (33, .pointer (some ⟨k, 0, none⟩))]) (fun φ7 => []) (fun φ7 => [k]) s ⟨hk, trivial⟩ (fun φ7 => by kernel_rfl) ?_
        intro φ7 w7 s
        rw [nat_addU (a := n) (b := r.minE) (by omega)]
        refine ops_done (by kernel_rfl) ?_
        refine wp_ret ?_
        refine ret_rule (C := []) [] [] (.int .u64 ((n + r.minE : Nat) : Int)) [] [] s trivial (by kernel_rfl) ?_
        exact ⟨_, _, _, rfl, s, (by have hc := of_decide_eq_false hc5; show _ = Value.int .u64 ((n + min l.minE r.minE : Nat) : Int); rw [Nat.min_eq_right (by omega)])⟩

theorem rmin_c : ∀ (e : E) {I : IM} {k : Nat}, RE I e k → e.top < 18446744073709551616 → Fun Tryd.prog 71 #[.pointer (some ⟨k, 0, none⟩)] I (fun v _ => v = .int .u64 ((e.minE : Nat) : Int))
  | .leaf n, _, _, h, ht => rmin_step h ht (fun n l r h => by cases h)
  | .node n l r, _, _, h, ht => rmin_step h ht (fun n' l' r' e => by
      cases e
      exact ⟨fun {J} {k} a b => rmin_c l a b, fun {J} {k} a b => rmin_c r a b⟩)

theorem nodeOk9_c {I : IM} {n : Nat} {l r : E} {bl br : Nat} {pl pr : Option Addr} (hm : E.mk n l r = .node n l r) (ht : (E.node n l r).top ≤ 1048576) (hd : (E.node n l r).depth ≤ 16) (hl : ERep I l bl pl) (hr : ERep I r br pr) : Fun Tryd.prog 18 #[.int .u64 ((n : Nat) : Int), evv bl pl, evv br pr] I (fun v J => ∃ b p, v = .tuple #[evv b p, .int .i64 0] ∧ ERep J (E.node n l r) b p) := by
  have ht1 : n + max l.top r.top ≤ 1048576 := ht
  have hd1 : 1 + max l.depth r.depth ≤ 16 := hd
  have h := nodeR_c (n := n) hl hr (by omega) (by omega) (by omega) (by omega)
  have e : nodeR n l r = (.node n l r, 0) := by
    unfold nodeR
    rw [if_neg (by omega), if_neg (by omega), if_neg (by omega), hm]
  rw [e] at h
  exact h

end Go.Proofs.YtgdickihjaomjaaDoor
