/- The document's events: Leaf, Min; to the program's own; like. -/
import Derived.Test.YtgdickihjaomjaaSwM17
set_option linter.all false
set_option maxRecDepth 100000
namespace Go.Proofs.Ytgdickihjaomjaa.Ev
open Go.RowKit Go.Sep

set_option maxHeartbeats 400000 in
theorem rleaf_c {I : IM} {n : Nat} : Fun Try.prog 46 #[.int .u64 ((n : Nat) : Int)] I (fun v J => ∃ k, v = .pointer (some ⟨k, 0, none⟩) ∧ RE J (E.leaf n) k) := by
  refine enter_rule 6 [(0, .int .u64 ((n : Nat) : Int))] Try.func46 rfl (by kernel_rfl) ?_
  intro w s
  refine wp_seq ?_
  refine region_rule ?_
  refine ops_rule (C := []) [] [] 1 [] 0 (fun φ1 => [(2, .pointer none)]) (fun φ1 => []) (fun φ1 => []) s trivial (fun φ1 => by kernel_rfl) ?_
  intro φ1 w1 s
  refine ops_done (by kernel_rfl) ?_
  refine wp_seq ?_
  refine region_rule ?_
  refine ops_rule (C := []) [] [] 4 [] 1 (fun φ2 => [(2, .pointer (some ⟨(φ2 0), 0, none⟩)), (5, .pointer (some ⟨(φ2 0), 0, none⟩)), (4, .agg #[.int .u64 ((n : Nat) : Int), .pointer none, .pointer none]), (3, .int .u64 ((n : Nat) : Int))]) (fun φ2 => [((φ2 0), .cells #[.int .u64 ((n : Nat) : Int), .pointer none, .pointer none] 86)]) (fun φ2 => []) s trivial (fun φ2 => by kernel_rfl) ?_
  intro φ2 w2 s
  refine ops_done (by kernel_rfl) ?_
  refine wp_ret ?_
  refine ret_rule (C := []) [((φ2 0), .cells #[.int .u64 ((n : Nat) : Int), .pointer none, .pointer none] 86)] [] (.pointer (some ⟨(φ2 0), 0, none⟩)) [] [] s trivial (by kernel_rfl) ?_
  obtain ⟨I3, le3, hk3, s⟩ := s.freezeAt 0 (φ2 0) (.cells #[.int .u64 ((n : Nat) : Int), .pointer none, .pointer none] 86) [] (by kernel_rfl) (by kernel_rfl)
  exact ⟨_, _, _, rfl, s, ⟨_, rfl, hk3⟩⟩

set_option maxHeartbeats 2000000 in
theorem rmin_step {I : IM} {e : E} {k : Nat} (h : RE I e k) (ht : e.top < 18446744073709551616) (ih : ∀ n l r, e = .node n l r → (∀ {J : IM} {k : Nat}, RE J l k → l.top < 18446744073709551616 → Fun Try.prog 60 #[.pointer (some ⟨k, 0, none⟩)] J (fun v J => v = .int .u64 ((l.minE : Nat) : Int))) ∧ (∀ {J : IM} {k : Nat}, RE J r k → r.top < 18446744073709551616 → Fun Try.prog 60 #[.pointer (some ⟨k, 0, none⟩)] J (fun v J => v = .int .u64 ((r.minE : Nat) : Int)))) : Fun Try.prog 60 #[.pointer (some ⟨k, 0, none⟩)] I (fun v J => v = .int .u64 ((e.minE : Nat) : Int)) := by
  cases e with
  | leaf n =>
    have h0 : RE _ (E.leaf n) k := h
    refine enter_rule 39 [(0, .pointer (some ⟨k, 0, none⟩))] Try.func60 rfl (by kernel_rfl) ?_
    intro w s
    refine wp_seq ?_
    refine region_rule ?_
    refine ops_rule (C := []) [] [] 1 [] 0 (fun φ1 => [(2, .int .u64 0)]) (fun φ1 => []) (fun φ1 => []) s trivial (fun φ1 => by kernel_rfl) ?_
    intro φ1 w1 s
    refine ops_done (by kernel_rfl) ?_
    refine wp_seq ?_
    refine wp_seq ?_
    refine region_rule ?_
    refine ops_rule (C := [(k, .cells #[.int .u64 ((n : Nat) : Int), .pointer none, .pointer none] 86)]) [] [] 5 [.c 0] 0 (fun φ2 => [(9, .bool true), (8, .pointer none), (7, .pointer (some ⟨k, 1, none⟩)), (6, .pointer (some ⟨k, 0, none⟩)), (5, .pointer (some ⟨k, 0, none⟩))]) (fun φ2 => []) (fun φ2 => [k]) s ⟨h, trivial⟩ (fun φ2 => by kernel_rfl) ?_
    intro φ2 w2 s
    refine ops_done (by kernel_rfl) ?_
    refine cond_true_rule (b := true) (by kernel_rfl) rfl ?_
    refine wp_seq ?_
    refine region_rule ?_
    refine ops_rule (C := [(k, .cells #[.int .u64 ((n : Nat) : Int), .pointer none, .pointer none] 86)]) [] [] 5 [.c 0] 0 (fun φ3 => [(2, .int .u64 ((n : Nat) : Int)), (13, .int .u64 ((n : Nat) : Int)), (12, .pointer (some ⟨k, 0, none⟩)), (11, .pointer (some ⟨k, 0, none⟩)), (10, .pointer (some ⟨k, 0, none⟩))]) (fun φ3 => []) (fun φ3 => [k]) s ⟨h, trivial⟩ (fun φ3 => by kernel_rfl) ?_
    intro φ3 w3 s
    refine ops_done (by kernel_rfl) ?_
    refine wp_ret ?_
    refine ret_rule (C := []) [] [] (.int .u64 ((n : Nat) : Int)) [] [] s trivial (by kernel_rfl) ?_
    exact ⟨_, _, _, rfl, s, rfl⟩
  | node n l r =>
    have h0 : RE _ (E.node n l r) k := h
    obtain ⟨kl, kr, hk, hl, hr⟩ := h
    obtain ⟨ihl, ihr⟩ := ih n l r rfl
    clear ih
    have ht1 : n + max l.top r.top < 18446744073709551616 := ht
    have hm1 := E.minE_le l
    have hm2 := E.minE_le r
    refine enter_rule 39 [(0, .pointer (some ⟨k, 0, none⟩))] Try.func60 rfl (by kernel_rfl) ?_
    intro w s
    refine wp_seq ?_
    refine region_rule ?_
    refine ops_rule (C := []) [] [] 1 [] 0 (fun φ1 => [(2, .int .u64 0)]) (fun φ1 => []) (fun φ1 => []) s trivial (fun φ1 => by kernel_rfl) ?_
    intro φ1 w1 s
    refine ops_done (by kernel_rfl) ?_
    refine wp_seq ?_
    refine wp_seq ?_
    refine region_rule ?_
    refine ops_rule (C := [(k, .cells #[.int .u64 ((n : Nat) : Int), .pointer (some ⟨kl, 0, none⟩), .pointer (some ⟨kr, 0, none⟩)] 86)]) [] [] 5 [.c 0] 0 (fun φ2 => [(9, .bool false), (8, .pointer (some ⟨kl, 0, none⟩)), (7, .pointer (some ⟨k, 1, none⟩)), (6, .pointer (some ⟨k, 0, none⟩)), (5, .pointer (some ⟨k, 0, none⟩))]) (fun φ2 => []) (fun φ2 => [k]) s ⟨hk, trivial⟩ (fun φ2 => by kernel_rfl) ?_
    intro φ2 w2 s
    refine ops_done (by kernel_rfl) ?_
    refine cond_false_rule (b := false) (by kernel_rfl) rfl ?_
    refine wp_skip ?_
    refine wp_seq ?_
    refine draw_rule (C := [(k, .cells #[.int .u64 ((n : Nat) : Int), .pointer (some ⟨kl, 0, none⟩), .pointer (some ⟨kr, 0, none⟩)] 86)]) ⟨(fun φ3 xs3 => [.look 0 [] [], .look 0 [] [], .look 0 [] [], .look 0 [.c 0] [k], .call 60 #[.pointer (some ⟨kl, 0, none⟩)], .look 0 [] [], .look 0 [] [], .look 0 [] [], .look 0 [.c 0] [k], .call 60 #[.pointer (some ⟨kr, 0, none⟩)], .look 0 [] [], .look 0 [] []]), (fun φ3 xs3 => [.pointer (some ⟨k, 0, none⟩), .pointer (some ⟨k, 0, none⟩), .pointer (some ⟨k, 1, none⟩), .pointer (some ⟨kl, 0, none⟩), .int .u64 ((l.minE : Nat) : Int), .pointer (some ⟨k, 0, none⟩), .pointer (some ⟨k, 0, none⟩), .pointer (some ⟨k, 2, none⟩), .pointer (some ⟨kr, 0, none⟩), .int .u64 ((r.minE : Nat) : Int), .int .u64 ((l.minE : Nat) : Int), .int .u64 ((r.minE : Nat) : Int)]), (fun φ3 xs3 => [[]]), (fun φ3 xs3 => [[default, default, default, default, default, default, default, default, default, default, default, default]]), [], [1, 1, 1, 1, 3, 1, 1, 1, 1, 3, 1, 1]⟩ (fun j => ([MP.any, MP.any, MP.any, MP.any, MP.any, MP.any, MP.any, MP.any, MP.any, MP.any, MP.any, MP.any] : List MP).getD j MP.any) [4, 9] [] [] (fun φ3 xs3 => []) (fun φ3 xs3 => [(14, .pointer (some ⟨k, 0, none⟩)), (15, .pointer (some ⟨k, 0, none⟩)), (16, .pointer (some ⟨k, 1, none⟩)), (17, .pointer (some ⟨kl, 0, none⟩)), (18, .int .u64 ((l.minE : Nat) : Int)), (19, .pointer (some ⟨k, 0, none⟩)), (20, .pointer (some ⟨k, 0, none⟩)), (21, .pointer (some ⟨k, 2, none⟩)), (22, .pointer (some ⟨kr, 0, none⟩)), (23, .int .u64 ((r.minE : Nat) : Int)), (3, .int .u64 ((l.minE : Nat) : Int)), (4, .int .u64 ((r.minE : Nat) : Int))]) (fun φ3 xs3 => []) s ⟨hk, trivial⟩ (by kernel_rfl) (by kernel_rfl) (fun _ _ => by kernel_rfl) (fun _ _ => by kernel_rfl) ⟨fun _ _ => by kernel_rfl, fun _ _ => by kernel_rfl, fun _ _ => by kernel_rfl, fun _ _ => by kernel_rfl⟩ (fun _ _ _ => by kernel_rfl) (fun _ _ => by kernel_rfl) (fun _ _ => by kernel_rfl) (fun _ _ => by kernel_rfl) (fun _ _ => by kernel_rfl) (fun _ _ => by kernel_rfl) trivial trivial (by kernel_rfl) ⟨?c3_4, ?c3_9, trivial⟩ ?k3
    case c3_4 =>
      refine kcast (A := ∀ (φ3 : Nat → Nat) (xs3 : Xs) (J4_3 : IM), I.Le J4_3 → Fun Try.prog 60 #[.pointer (some ⟨kl, 0, none⟩)] J4_3 (fun v J' => ∃ x : UX, v = .int .u64 ((l.minE : Nat) : Int) ∧ (True))) (by kernel_rfl) ?_
      intro φ3 xs3 J4_3 leJ
      have hl := RE.mono leJ hl
      exact Fun.mono (ihl hl (by omega)) (fun v J' _ h => ⟨UX.d, h, trivial⟩)
    case c3_9 =>
      refine kcast (A := ∀ (φ3 : Nat → Nat) (xs3 : Xs) (J9_3 : IM), I.Le J9_3 → (True) → Fun Try.prog 60 #[.pointer (some ⟨kr, 0, none⟩)] J9_3 (fun v J' => ∃ x : UX, v = .int .u64 ((r.minE : Nat) : Int) ∧ (True))) (by kernel_rfl) ?_
      intro φ3 xs3 J9_3 leJ
      rintro _
      have hr := RE.mono leJ hr
      exact Fun.mono (ihr hr (by omega)) (fun v J' _ h => ⟨UX.d, h, trivial⟩)
    case k3 =>
      rintro φ3 xs3 I3 w3 le3 s _ _
      replace hl := RE.mono le3 hl
      replace hr := RE.mono le3 hr
      replace h0 := RE.mono le3 h0
      replace hk := le3 _ _ hk
      refine wp_seq ?_
      refine wp_seq ?_
      refine region_rule ?_
      refine ops_rule (C := []) [] [] 3 [] 0 (fun φ4 => [(26, .bool (decide (((l.minE : Nat) : Int) < ((r.minE : Nat) : Int)))), (25, .int .u64 ((r.minE : Nat) : Int)), (24, .int .u64 ((l.minE : Nat) : Int))]) (fun φ4 => []) (fun φ4 => []) s trivial (fun φ4 => by kernel_rfl) ?_
      intro φ4 w4 s
      rw [nat_lss (a := l.minE) (b := r.minE)]
      refine ops_done (by kernel_rfl) ?_
      rcases Bool.eq_false_or_eq_true (decide (l.minE < r.minE)) with hc5 | hc5
      ·
        rw [hc5]
        refine cond_true_rule (b := true) (by kernel_rfl) rfl ?_
        refine wp_seq ?_
        refine region_rule ?_
        refine ops_rule (C := [(k, .cells #[.int .u64 ((n : Nat) : Int), .pointer (some ⟨kl, 0, none⟩), .pointer (some ⟨kr, 0, none⟩)] 86)]) [] [] 7 [.c 0] 0 (fun φ6 => [(2, .int .u64 (IntKind.wrap .u64 (((n : Nat) : Int) + ((l.minE : Nat) : Int)))), (32, .int .u64 (IntKind.wrap .u64 (((n : Nat) : Int) + ((l.minE : Nat) : Int)))), (31, .int .u64 ((l.minE : Nat) : Int)), (30, .int .u64 ((n : Nat) : Int)), (29, .pointer (some ⟨k, 0, none⟩)), (28, .pointer (some ⟨k, 0, none⟩)), (27, .pointer (some ⟨k, 0, none⟩))]) (fun φ6 => []) (fun φ6 => [k]) s ⟨hk, trivial⟩ (fun φ6 => by kernel_rfl) ?_
        intro φ6 w6 s
        rw [nat_addU (a := n) (b := l.minE) (by omega)]
        refine ops_done (by kernel_rfl) ?_
        refine wp_ret ?_
        refine ret_rule (C := []) [] [] (.int .u64 ((n + l.minE : Nat) : Int)) [] [] s trivial (by kernel_rfl) ?_
        exact ⟨_, _, _, rfl, s, (by have hc := of_decide_eq_true hc5; show _ = Value.int .u64 ((n + min l.minE r.minE : Nat) : Int); rw [Nat.min_eq_left (by omega)])⟩
      ·
        rw [hc5]
        refine cond_false_rule (b := false) (by kernel_rfl) rfl ?_
        refine wp_skip ?_
        refine wp_seq ?_
        refine region_rule ?_
        refine ops_rule (C := [(k, .cells #[.int .u64 ((n : Nat) : Int), .pointer (some ⟨kl, 0, none⟩), .pointer (some ⟨kr, 0, none⟩)] 86)]) [] [] 7 [.c 0] 0 (fun φ7 => [(2, .int .u64 (IntKind.wrap .u64 (((n : Nat) : Int) + ((r.minE : Nat) : Int)))), (38, .int .u64 (IntKind.wrap .u64 (((n : Nat) : Int) + ((r.minE : Nat) : Int)))), (37, .int .u64 ((r.minE : Nat) : Int)), (36, .int .u64 ((n : Nat) : Int)), (35, .pointer (some ⟨k, 0, none⟩)), (34, .pointer (some ⟨k, 0, none⟩)), (33, .pointer (some ⟨k, 0, none⟩))]) (fun φ7 => []) (fun φ7 => [k]) s ⟨hk, trivial⟩ (fun φ7 => by kernel_rfl) ?_
        intro φ7 w7 s
        rw [nat_addU (a := n) (b := r.minE) (by omega)]
        refine ops_done (by kernel_rfl) ?_
        refine wp_ret ?_
        refine ret_rule (C := []) [] [] (.int .u64 ((n + r.minE : Nat) : Int)) [] [] s trivial (by kernel_rfl) ?_
        exact ⟨_, _, _, rfl, s, (by have hc := of_decide_eq_false hc5; show _ = Value.int .u64 ((n + min l.minE r.minE : Nat) : Int); rw [Nat.min_eq_right (by omega)])⟩

theorem rmin_c : ∀ (e : E) {I : IM} {k : Nat}, RE I e k → e.top < 18446744073709551616 → Fun Try.prog 60 #[.pointer (some ⟨k, 0, none⟩)] I (fun v _ => v = .int .u64 ((e.minE : Nat) : Int))
  | .leaf n, _, _, h, ht => rmin_step h ht (fun n l r h => by cases h)
  | .node n l r, _, _, h, ht => rmin_step h ht (fun n' l' r' e => by
      cases e
      exact ⟨fun {J} {k} a b => rmin_c l a b, fun {J} {k} a b => rmin_c r a b⟩)

theorem nodeOk9_c {I : IM} {n : Nat} {l r : E} {bl br : Nat} {pl pr : Option Addr} (hm : E.mk n l r = .node n l r) (ht : (E.node n l r).top ≤ 1048576) (hd : (E.node n l r).depth ≤ 16) (hl : ERep I l bl pl) (hr : ERep I r br pr) : Fun Try.prog 49 #[.int .u64 ((n : Nat) : Int), evv bl pl, evv br pr] I (fun v J => ∃ b p, v = .tuple #[evv b p, .int .i64 0] ∧ ERep J (E.node n l r) b p) := by
  have ht1 : n + max l.top r.top ≤ 1048576 := ht
  have hd1 : 1 + max l.depth r.depth ≤ 16 := hd
  have h := nodeR_c (n := n) hl hr (by omega) (by omega) (by omega) (by omega)
  have e : nodeR n l r = (.node n l r, 0) := by
    unfold nodeR
    rw [if_neg (by omega), if_neg (by omega), if_neg (by omega), hm]
  rw [e] at h
  exact h

set_option maxHeartbeats 2000000 in
theorem tree_step {I : IM} {e : E} {k : Nat} (h : RE I e k) (hnf : e.nf) (ht : e.top ≤ 1048576) (hd : e.depth ≤ 16) (ih : ∀ n l r, e = .node n l r → (∀ {J : IM} {k : Nat}, RE J l k → Fun Try.prog 22 #[.pointer (some ⟨k, 0, none⟩)] J (fun v J => ∃ b p, v = evv b p ∧ ERep J l b p)) ∧ (∀ {J : IM} {k : Nat}, RE J r k → Fun Try.prog 22 #[.pointer (some ⟨k, 0, none⟩)] J (fun v J => ∃ b p, v = evv b p ∧ ERep J r b p))) : Fun Try.prog 22 #[.pointer (some ⟨k, 0, none⟩)] I (fun v J => ∃ b p, v = evv b p ∧ ERep J e b p) := by
  cases e with
  | leaf n =>
    have h0 : RE _ (E.leaf n) k := h
    refine enter_rule 40 [(0, .pointer (some ⟨k, 0, none⟩))] Try.func22 rfl (by kernel_rfl) ?_
    intro w s
    refine wp_seq ?_
    refine region_rule ?_
    refine ops_rule (C := []) [] [] 1 [] 1 (fun φ1 => [(2, .pointer (some ⟨(φ1 0), 0, none⟩))]) (fun φ1 => [((φ1 0), .cells #[.int .u64 0, .pointer none] 57)]) (fun φ1 => []) s trivial (fun φ1 => by kernel_rfl) ?_
    intro φ1 w1 s
    refine ops_done (by kernel_rfl) ?_
    refine wp_seq ?_
    refine wp_seq ?_
    refine region_rule ?_
    refine ops_rule (C := [(k, .cells #[.int .u64 ((n : Nat) : Int), .pointer none, .pointer none] 86)]) [((φ1 0), .cells #[.int .u64 0, .pointer none] 57)] [] 5 [.c 0] 0 (fun φ2 => [(11, .bool true), (10, .pointer none), (9, .pointer (some ⟨k, 1, none⟩)), (8, .pointer (some ⟨k, 0, none⟩)), (7, .pointer (some ⟨k, 0, none⟩))]) (fun φ2 => [((φ1 0), .cells #[.int .u64 0, .pointer none] 57)]) (fun φ2 => [k]) s ⟨h, trivial⟩ (fun φ2 => by kernel_rfl) ?_
    intro φ2 w2 s
    refine ops_done (by kernel_rfl) ?_
    refine cond_true_rule (b := true) (by kernel_rfl) rfl ?_
    refine wp_seq ?_
    refine region_rule ?_
    refine ops_rule (C := [(k, .cells #[.int .u64 ((n : Nat) : Int), .pointer none, .pointer none] 86)]) [((φ1 0), .cells #[.int .u64 0, .pointer none] 57)] [] 4 [.c 0] 0 (fun φ3 => [(16, .int .u64 ((n : Nat) : Int)), (15, .pointer (some ⟨k, 0, none⟩)), (14, .pointer (some ⟨k, 0, none⟩)), (13, .pointer (some ⟨k, 0, none⟩))]) (fun φ3 => [((φ1 0), .cells #[.int .u64 0, .pointer none] 57)]) (fun φ3 => [k]) s ⟨h, trivial⟩ (fun φ3 => by kernel_rfl) ?_
    intro φ3 w3 s
    refine call_rule (some 17) s (leafOk_c (n := n) (by exact ht)) (by kernel_rfl) ?_
    intro v4 I4 w4 le4 h4 s
    replace h0 := RE.mono le4 h0
    replace h := le4 _ _ h
    obtain rfl := h4
    refine ops_rule (C := []) [((φ1 0), .cells #[.int .u64 0, .pointer none] 57)] [] 6 [.o 1, .o 1] 1 (fun φ5 => [(4, .int .i64 0), (3, .pointer (some ⟨(φ5 0), 0, none⟩)), (19, .int .i64 0), (18, .agg #[.int .u64 ((n : Nat) : Int), .pointer none]), (12, .tuple #[.agg #[.int .u64 ((n : Nat) : Int), .pointer none], .int .i64 0])]) (fun φ5 => [((φ1 0), .cells #[.int .u64 0, .pointer none] 57), ((φ5 0), .cells #[.int .u64 ((n : Nat) : Int), .pointer none] 57)]) (fun φ5 => [(φ5 0), (φ5 0)]) s trivial (fun φ5 => by kernel_rfl) ?_
    intro φ5 w5 s
    refine ops_done (by kernel_rfl) ?_
    refine wp_seq ?_
    refine region_rule ?_
    refine ops_rule (C := []) [((φ1 0), .cells #[.int .u64 0, .pointer none] 57), ((φ5 0), .cells #[.int .u64 ((n : Nat) : Int), .pointer none] 57)] [] 2 [.o 1, .o 1, .o 0, .o 0] 0 (fun φ6 => [(20, .agg #[.int .u64 ((n : Nat) : Int), .pointer none])]) (fun φ6 => [((φ1 0), .cells #[.int .u64 ((n : Nat) : Int), .pointer none] 57), ((φ5 0), .cells #[.int .u64 ((n : Nat) : Int), .pointer none] 57)]) (fun φ6 => [(φ5 0), (φ5 0), (φ1 0), (φ1 0)]) s trivial (fun φ6 => by kernel_rfl) ?_
    intro φ6 w6 s
    refine ops_done (by kernel_rfl) ?_
    refine wp_ret ?_
    refine ret_rule (C := []) [((φ1 0), .cells #[.int .u64 ((n : Nat) : Int), .pointer none] 57), ((φ5 0), .cells #[.int .u64 ((n : Nat) : Int), .pointer none] 57)] [] (.agg #[.int .u64 ((n : Nat) : Int), .pointer none]) [.o 0, .o 0] [(φ1 0), (φ1 0)] s trivial (by kernel_rfl) ?_
    exact ⟨_, _, _, rfl, s, ⟨_, _, rfl, rfl, rfl⟩⟩
  | node n l r =>
    have h0 : RE _ (E.node n l r) k := h
    obtain ⟨kl, kr, hk, hl, hr⟩ := h
    obtain ⟨ihl, ihr⟩ := ih n l r rfl
    clear ih
    refine enter_rule 40 [(0, .pointer (some ⟨k, 0, none⟩))] Try.func22 rfl (by kernel_rfl) ?_
    intro w s
    refine wp_seq ?_
    refine region_rule ?_
    refine ops_rule (C := []) [] [] 1 [] 1 (fun φ1 => [(2, .pointer (some ⟨(φ1 0), 0, none⟩))]) (fun φ1 => [((φ1 0), .cells #[.int .u64 0, .pointer none] 57)]) (fun φ1 => []) s trivial (fun φ1 => by kernel_rfl) ?_
    intro φ1 w1 s
    refine ops_done (by kernel_rfl) ?_
    refine wp_seq ?_
    refine wp_seq ?_
    refine region_rule ?_
    refine ops_rule (C := [(k, .cells #[.int .u64 ((n : Nat) : Int), .pointer (some ⟨kl, 0, none⟩), .pointer (some ⟨kr, 0, none⟩)] 86)]) [((φ1 0), .cells #[.int .u64 0, .pointer none] 57)] [] 5 [.c 0] 0 (fun φ2 => [(11, .bool false), (10, .pointer (some ⟨kl, 0, none⟩)), (9, .pointer (some ⟨k, 1, none⟩)), (8, .pointer (some ⟨k, 0, none⟩)), (7, .pointer (some ⟨k, 0, none⟩))]) (fun φ2 => [((φ1 0), .cells #[.int .u64 0, .pointer none] 57)]) (fun φ2 => [k]) s ⟨hk, trivial⟩ (fun φ2 => by kernel_rfl) ?_
    intro φ2 w2 s
    refine ops_done (by kernel_rfl) ?_
    refine cond_false_rule (b := false) (by kernel_rfl) rfl ?_
    refine wp_skip ?_
    refine wp_seq ?_
    refine draw_rule (C := [(k, .cells #[.int .u64 ((n : Nat) : Int), .pointer (some ⟨kl, 0, none⟩), .pointer (some ⟨kr, 0, none⟩)] 86)]) ⟨(fun φ3 xs3 => [.look 0 [] [], .look 0 [] [], .look 0 [] [], .look 0 [.c 0] [k], .look 0 [] [], .look 0 [] [], .look 0 [] [], .look 0 [.c 0] [k], .call 22 #[.pointer (some ⟨kl, 0, none⟩)], .look 0 [] [], .look 0 [] [], .look 0 [] [], .look 0 [.c 0] [k], .call 22 #[.pointer (some ⟨kr, 0, none⟩)], .call 49 #[.int .u64 ((n : Nat) : Int), .agg #[.int .u64 (((xs3 8).n 0 : Nat) : Int), .pointer ((xs3 8).p 0)], .agg #[.int .u64 (((xs3 13).n 0 : Nat) : Int), .pointer ((xs3 13).p 0)]], .look 0 [] [], .look 0 [] [], .look 0 [] [], .new, .store 0 [.o 1, .o 1] [(φ3 18), (φ3 18)], .look 1 [] []]), (fun φ3 xs3 => [.pointer (some ⟨k, 0, none⟩), .pointer (some ⟨k, 0, none⟩), .pointer (some ⟨k, 0, none⟩), .int .u64 ((n : Nat) : Int), .pointer (some ⟨k, 0, none⟩), .pointer (some ⟨k, 0, none⟩), .pointer (some ⟨k, 1, none⟩), .pointer (some ⟨kl, 0, none⟩), .agg #[.int .u64 (((xs3 8).n 0 : Nat) : Int), .pointer ((xs3 8).p 0)], .pointer (some ⟨k, 0, none⟩), .pointer (some ⟨k, 0, none⟩), .pointer (some ⟨k, 2, none⟩), .pointer (some ⟨kr, 0, none⟩), .agg #[.int .u64 (((xs3 13).n 0 : Nat) : Int), .pointer ((xs3 13).p 0)], .tuple #[.agg #[.int .u64 (((xs3 14).n 0 : Nat) : Int), .pointer ((xs3 14).p 0)], .int .i64 0], .tuple #[.agg #[.int .u64 (((xs3 14).n 0 : Nat) : Int), .pointer ((xs3 14).p 0)], .int .i64 0], .agg #[.int .u64 (((xs3 14).n 0 : Nat) : Int), .pointer ((xs3 14).p 0)], .int .i64 0, .pointer (some ⟨(φ3 18), 0, none⟩), undef, .int .i64 0]), (fun φ3 xs3 => [[((φ1 0), .cells #[.int .u64 0, .pointer none] 57)], [((φ1 0), .cells #[.int .u64 0, .pointer none] 57)]]), (fun φ3 xs3 => [[default, default, default, default, default, default, default, default, default, default, default, default, default, default, default, default, default, default, .cells #[.int .u64 0, .pointer none] 57, default, default], [default, default, default, default, default, default, default, default, default, default, default, default, default, default, default, default, default, default, .cells #[.int .u64 (((xs3 14).n 0 : Nat) : Int), .pointer ((xs3 14).p 0)] 57, default, default]]), [19], [1, 1, 1, 1, 1, 1, 1, 1, 3, 1, 1, 1, 1, 3, 3, 1, 1, 1, 2, 4, 1]⟩ (fun j => ([MP.any, MP.any, MP.any, MP.any, MP.any, MP.any, MP.any, MP.any, ⟨fun x J => ERep J l (x.n 0) (x.p 0), fun le h => ERep.mono le h⟩, MP.any, MP.any, MP.any, MP.any, ⟨fun x J => ERep J r (x.n 0) (x.p 0), fun le h => ERep.mono le h⟩, ⟨fun x J => ERep J (E.node n l r) (x.n 0) (x.p 0), fun le h => ERep.mono le h⟩, MP.any, MP.any, MP.any, MP.any, MP.any, MP.any] : List MP).getD j MP.any) [8, 13, 14] [] [] (fun φ3 xs3 => [[none, none, none, none, none, none, none, none, none, none, none, none, none, none, none, none, none, none, none, none, none]]) (fun φ3 xs3 => [(22, .pointer (some ⟨k, 0, none⟩)), (23, .pointer (some ⟨k, 0, none⟩)), (24, .pointer (some ⟨k, 0, none⟩)), (25, .int .u64 ((n : Nat) : Int)), (26, .pointer (some ⟨k, 0, none⟩)), (27, .pointer (some ⟨k, 0, none⟩)), (28, .pointer (some ⟨k, 1, none⟩)), (29, .pointer (some ⟨kl, 0, none⟩)), (30, .agg #[.int .u64 (((xs3 8).n 0 : Nat) : Int), .pointer ((xs3 8).p 0)]), (31, .pointer (some ⟨k, 0, none⟩)), (32, .pointer (some ⟨k, 0, none⟩)), (33, .pointer (some ⟨k, 2, none⟩)), (34, .pointer (some ⟨kr, 0, none⟩)), (35, .agg #[.int .u64 (((xs3 13).n 0 : Nat) : Int), .pointer ((xs3 13).p 0)]), (36, .tuple #[.agg #[.int .u64 (((xs3 14).n 0 : Nat) : Int), .pointer ((xs3 14).p 0)], .int .i64 0]), (21, .tuple #[.agg #[.int .u64 (((xs3 14).n 0 : Nat) : Int), .pointer ((xs3 14).p 0)], .int .i64 0]), (37, .agg #[.int .u64 (((xs3 14).n 0 : Nat) : Int), .pointer ((xs3 14).p 0)]), (38, .int .i64 0), (5, .pointer (some ⟨(φ3 18), 0, none⟩)), (6, .int .i64 0)]) (fun φ3 xs3 => [((φ1 0), .cells #[.int .u64 0, .pointer none] 57), ((φ3 18), .cells #[.int .u64 (((xs3 14).n 0 : Nat) : Int), .pointer ((xs3 14).p 0)] 57)]) s ⟨hk, trivial⟩ (by kernel_rfl) (by kernel_rfl) (fun _ _ => by kernel_rfl) (fun _ _ => by kernel_rfl) ⟨fun _ _ => by kernel_rfl, fun _ _ => by kernel_rfl, fun _ _ => by kernel_rfl, fun _ _ => by kernel_rfl⟩ (fun _ _ _ => by kernel_rfl) (fun _ _ => by kernel_rfl) (fun _ _ => by kernel_rfl) (fun _ _ => by kernel_rfl) (fun _ _ => by kernel_rfl) (fun _ _ => by kernel_rfl) trivial trivial (by kernel_rfl) ⟨?c3_8, ?c3_13, ?c3_14, trivial⟩ ?k3
    case c3_8 =>
      refine kcast (A := ∀ (φ3 : Nat → Nat) (xs3 : Xs) (J8_3 : IM), I.Le J8_3 → Fun Try.prog 22 #[.pointer (some ⟨kl, 0, none⟩)] J8_3 (fun v J' => ∃ x : UX, v = .agg #[.int .u64 ((x.n 0 : Nat) : Int), .pointer (x.p 0)] ∧ (ERep J' l (x.n 0) (x.p 0)))) (by kernel_rfl) ?_
      intro φ3 xs3 J8_3 leJ
      have hl := RE.mono leJ hl
      exact Fun.mono (ihl hl) (fun v J' _ ⟨y0, y1, hv, g0⟩ => ⟨{ UX.d with n := fun j => y0, p := fun j => y1 }, hv, g0⟩)
    case c3_13 =>
      refine kcast (A := ∀ (φ3 : Nat → Nat) (xs3 : Xs) (J13_3 : IM), I.Le J13_3 → (ERep J13_3 l ((xs3 8).n 0) ((xs3 8).p 0)) → Fun Try.prog 22 #[.pointer (some ⟨kr, 0, none⟩)] J13_3 (fun v J' => ∃ x : UX, v = .agg #[.int .u64 ((x.n 0 : Nat) : Int), .pointer (x.p 0)] ∧ (ERep J' r (x.n 0) (x.p 0)))) (by kernel_rfl) ?_
      intro φ3 xs3 J13_3 leJ
      rintro h3_8_0
      have hr := RE.mono leJ hr
      exact Fun.mono (ihr hr) (fun v J' _ ⟨y0, y1, hv, g0⟩ => ⟨{ UX.d with n := fun j => y0, p := fun j => y1 }, hv, g0⟩)
    case c3_14 =>
      refine kcast (A := ∀ (φ3 : Nat → Nat) (xs3 : Xs) (J14_3 : IM), I.Le J14_3 → (ERep J14_3 l ((xs3 8).n 0) ((xs3 8).p 0)) → (ERep J14_3 r ((xs3 13).n 0) ((xs3 13).p 0)) → Fun Try.prog 49 #[.int .u64 ((n : Nat) : Int), .agg #[.int .u64 (((xs3 8).n 0 : Nat) : Int), .pointer ((xs3 8).p 0)], .agg #[.int .u64 (((xs3 13).n 0 : Nat) : Int), .pointer ((xs3 13).p 0)]] J14_3 (fun v J' => ∃ x : UX, v = .tuple #[.agg #[.int .u64 ((x.n 0 : Nat) : Int), .pointer (x.p 0)], .int .i64 0] ∧ (ERep J' (E.node n l r) (x.n 0) (x.p 0)))) (by kernel_rfl) ?_
      intro φ3 xs3 J14_3 leJ
      rintro h3_8_0 h3_13_0
      exact Fun.mono (nodeOk9_c (n := n) hnf.2.2 ht hd h3_8_0 h3_13_0) (fun v J' _ ⟨y0, y1, hv, g0⟩ => ⟨{ UX.d with n := fun j => y0, p := fun j => y1 }, hv, g0⟩)
    case k3 =>
      rintro φ3 xs3 I3 w3 le3 s h3_8_0 h3_13_0 h3_14_0
      replace hl := RE.mono le3 hl
      replace hr := RE.mono le3 hr
      replace h0 := RE.mono le3 h0
      replace hk := le3 _ _ hk
      refine wp_seq ?_
      refine region_rule ?_
      refine ops_rule (C := []) [((φ1 0), .cells #[.int .u64 0, .pointer none] 57), ((φ3 18), .cells #[.int .u64 (((xs3 14).n 0 : Nat) : Int), .pointer ((xs3 14).p 0)] 57)] [] 2 [.o 1, .o 1, .o 0, .o 0] 0 (fun φ4 => [(39, .agg #[.int .u64 (((xs3 14).n 0 : Nat) : Int), .pointer ((xs3 14).p 0)])]) (fun φ4 => [((φ1 0), .cells #[.int .u64 (((xs3 14).n 0 : Nat) : Int), .pointer ((xs3 14).p 0)] 57), ((φ3 18), .cells #[.int .u64 (((xs3 14).n 0 : Nat) : Int), .pointer ((xs3 14).p 0)] 57)]) (fun φ4 => [(φ3 18), (φ3 18), (φ1 0), (φ1 0)]) s trivial (fun φ4 => by kernel_rfl) ?_
      intro φ4 w4 s
      refine ops_done (by kernel_rfl) ?_
      refine wp_ret ?_
      refine ret_rule (C := []) [((φ1 0), .cells #[.int .u64 (((xs3 14).n 0 : Nat) : Int), .pointer ((xs3 14).p 0)] 57), ((φ3 18), .cells #[.int .u64 (((xs3 14).n 0 : Nat) : Int), .pointer ((xs3 14).p 0)] 57)] [] (.agg #[.int .u64 (((xs3 14).n 0 : Nat) : Int), .pointer ((xs3 14).p 0)]) [.o 0, .o 0] [(φ1 0), (φ1 0)] s trivial (by kernel_rfl) ?_
      exact ⟨_, _, _, rfl, s, ⟨_, _, rfl, h3_14_0⟩⟩

theorem tree_c : ∀ (e : E) {I : IM} {k : Nat}, e.nf → e.top ≤ 1048576 → e.depth ≤ 16 → RE I e k → Fun Try.prog 22 #[.pointer (some ⟨k, 0, none⟩)] I (fun v J => ∃ b p, v = evv b p ∧ ERep J e b p)
  | .leaf n, _, _, hn, ht, hd, h => tree_step h hn ht hd (fun n l r h => by cases h)
  | .node n l r, _, _, hn, ht, hd, h => tree_step h hn ht hd (fun n' l' r' e => by
      cases e
      have ht1 : n + max l.top r.top ≤ 1048576 := ht
      have hd1 : 1 + max l.depth r.depth ≤ 16 := hd
      exact ⟨fun {J} {k} a => tree_c l hn.1 (by omega) (by omega) a, fun {J} {k} a => tree_c r hn.2.1 (by omega) (by omega) a⟩)

end Go.Proofs.Ytgdickihjaomjaa.Ev

