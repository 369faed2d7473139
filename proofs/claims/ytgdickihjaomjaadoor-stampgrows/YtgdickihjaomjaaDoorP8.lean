/- The document's ids. -/
import Derived.Test.YtgdickihjaomjaaDoorP7
set_option linter.all false
set_option maxRecDepth 100000
namespace Go.Proofs.YtgdickihjaomjaaDoor
open Go.RowKit Go.Sep

def kindT : T → Nat
  | .zero => 0
  | .one => 1
  | .node _ _ => 2
theorem RT.peek {I : IM} {t : T} {k : Nat} (h : RT I t k) : ∃ pl pr, I k = some (.cells #[.int .i64 ((kindT t : Nat) : Int), .pointer pl, .pointer pr] 84) := by
  cases t with
  | zero => exact ⟨_, _, h⟩
  | one => exact ⟨_, _, h⟩
  | node l r => obtain ⟨kl, kr, h, _, _⟩ := h; exact ⟨_, _, h⟩
theorem mk_same {l r : T} (h : kindT l = kindT r) (h2 : kindT l < 2) : T.mk l r = l := by
  cases l <;> cases r <;> simp_all [kindT, T.mk]
theorem mk_apart {l r : T} (h : kindT l ≠ kindT r) : T.mk l r = .node l r := by
  cases l <;> cases r <;> simp_all [kindT, T.mk]
theorem mk_deep {l r : T} (h : ¬ kindT l < 2) : T.mk l r = .node l r := by
  cases l <;> cases r <;> simp_all [kindT, T.mk]
theorem kind_zero {t : T} (h : kindT t = 0) : t = .zero := by cases t <;> simp_all [kindT]
theorem kind_nz {t : T} (h : ¬ kindT t = 0) : t.isZero = false := by cases t <;> simp_all [kindT, T.isZero]

set_option maxHeartbeats 1000000 in
theorem rtext_step {I : IM} {t : T} {k : Nat} (h : RT I t k) (hlim : (textT t).length ≤ 1000000000) (ih : ∀ l r, t = .node l r → (∀ {J : IM} {k : Nat}, RT J l k → (textT l).length ≤ 1000000000 → Fun Tryd.prog 113 #[.pointer (some ⟨k, 0, none⟩)] J (fun v _ => v = .string ⟨(textT l).toArray⟩)) ∧ (∀ {J : IM} {k : Nat}, RT J r k → (textT r).length ≤ 1000000000 → Fun Tryd.prog 113 #[.pointer (some ⟨k, 0, none⟩)] J (fun v _ => v = .string ⟨(textT r).toArray⟩))) : Fun Tryd.prog 113 #[.pointer (some ⟨k, 0, none⟩)] I (fun v J => v = .string ⟨(textT t).toArray⟩) := by
  cases t with
  | zero =>
    have hz : RT _ T.zero k := h
    refine enter_rule 27 [(0, .pointer (some ⟨k, 0, none⟩))] Tryd.func113 rfl (by kernel_rfl) ?_
    intro w s
    refine wp_seq ?_
    refine region_rule ?_
    refine ops_rule (C := []) [] [] 1 [] 0 (fun φ1 => [(2, .string ⟨#[]⟩)]) (fun φ1 => []) (fun φ1 => []) s trivial (fun φ1 => by kernel_rfl) ?_
    intro φ1 w1 s
    refine ops_done (by kernel_rfl) ?_
    refine wp_seq ?_
    refine wp_seq ?_
    refine region_rule ?_
    refine ops_rule (C := [(k, .cells #[.int .i64 0, .pointer none, .pointer none] 84)]) [] [] 5 [.c 0] 0 (fun φ2 => [(7, .bool true), (6, .int .i64 0), (5, .pointer (some ⟨k, 0, none⟩)), (4, .pointer (some ⟨k, 0, none⟩)), (3, .pointer (some ⟨k, 0, none⟩))]) (fun φ2 => []) (fun φ2 => [k]) s ⟨h, trivial⟩ (fun φ2 => by kernel_rfl) ?_
    intro φ2 w2 s
    refine ops_done (by kernel_rfl) ?_
    refine cond_true_rule (b := true) (by kernel_rfl) rfl ?_
    refine wp_seq ?_
    refine region_rule ?_
    refine ops_rule (C := []) [] [] 1 [] 0 (fun φ3 => [(2, .string ⟨#[48]⟩)]) (fun φ3 => []) (fun φ3 => []) s trivial (fun φ3 => by kernel_rfl) ?_
    intro φ3 w3 s
    refine ops_done (by kernel_rfl) ?_
    refine wp_ret ?_
    refine ret_rule (C := []) [] [] (.string ⟨#[48]⟩) [] [] s trivial (by kernel_rfl) ?_
    exact ⟨_, _, _, rfl, s, rfl⟩
  | one =>
    have hz : RT _ T.one k := h
    refine enter_rule 27 [(0, .pointer (some ⟨k, 0, none⟩))] Tryd.func113 rfl (by kernel_rfl) ?_
    intro w s
    refine wp_seq ?_
    refine region_rule ?_
    refine ops_rule (C := []) [] [] 1 [] 0 (fun φ1 => [(2, .string ⟨#[]⟩)]) (fun φ1 => []) (fun φ1 => []) s trivial (fun φ1 => by kernel_rfl) ?_
    intro φ1 w1 s
    refine ops_done (by kernel_rfl) ?_
    refine wp_seq ?_
    refine wp_seq ?_
    refine region_rule ?_
    refine ops_rule (C := [(k, .cells #[.int .i64 1, .pointer none, .pointer none] 84)]) [] [] 5 [.c 0] 0 (fun φ2 => [(7, .bool false), (6, .int .i64 1), (5, .pointer (some ⟨k, 0, none⟩)), (4, .pointer (some ⟨k, 0, none⟩)), (3, .pointer (some ⟨k, 0, none⟩))]) (fun φ2 => []) (fun φ2 => [k]) s ⟨h, trivial⟩ (fun φ2 => by kernel_rfl) ?_
    intro φ2 w2 s
    refine ops_done (by kernel_rfl) ?_
    refine cond_false_rule (b := false) (by kernel_rfl) rfl ?_
    refine wp_skip ?_
    refine wp_seq ?_
    refine wp_seq ?_
    refine region_rule ?_
    refine ops_rule (C := [(k, .cells #[.int .i64 1, .pointer none, .pointer none] 84)]) [] [] 5 [.c 0] 0 (fun φ3 => [(12, .bool true), (11, .int .i64 1), (10, .pointer (some ⟨k, 0, none⟩)), (9, .pointer (some ⟨k, 0, none⟩)), (8, .pointer (some ⟨k, 0, none⟩))]) (fun φ3 => []) (fun φ3 => [k]) s ⟨h, trivial⟩ (fun φ3 => by kernel_rfl) ?_
    intro φ3 w3 s
    refine ops_done (by kernel_rfl) ?_
    refine cond_true_rule (b := true) (by kernel_rfl) rfl ?_
    refine wp_seq ?_
    refine region_rule ?_
    refine ops_rule (C := []) [] [] 1 [] 0 (fun φ4 => [(2, .string ⟨#[49]⟩)]) (fun φ4 => []) (fun φ4 => []) s trivial (fun φ4 => by kernel_rfl) ?_
    intro φ4 w4 s
    refine ops_done (by kernel_rfl) ?_
    refine wp_ret ?_
    refine ret_rule (C := []) [] [] (.string ⟨#[49]⟩) [] [] s trivial (by kernel_rfl) ?_
    exact ⟨_, _, _, rfl, s, rfl⟩
  | node l r =>
    obtain ⟨kl, kr, hk, hl, hr⟩ := h
    have hlim1 : (textT l).length + (textT r).length + 3 ≤ 1000000000 := by simp only [textT, List.length_append, List.length_cons, List.length_nil] at hlim; omega
    obtain ⟨ihl, ihr⟩ := ih l r rfl
    clear ih
    refine enter_rule 27 [(0, .pointer (some ⟨k, 0, none⟩))] Tryd.func113 rfl (by kernel_rfl) ?_
    intro w s
    refine wp_seq ?_
    refine region_rule ?_
    refine ops_rule (C := []) [] [] 1 [] 0 (fun φ1 => [(2, .string ⟨#[]⟩)]) (fun φ1 => []) (fun φ1 => []) s trivial (fun φ1 => by kernel_rfl) ?_
    intro φ1 w1 s
    refine ops_done (by kernel_rfl) ?_
    refine wp_seq ?_
    refine wp_seq ?_
    refine region_rule ?_
    refine ops_rule (C := [(k, .cells #[.int .i64 2, .pointer (some ⟨kl, 0, none⟩), .pointer (some ⟨kr, 0, none⟩)] 84)]) [] [] 5 [.c 0] 0 (fun φ2 => [(7, .bool false), (6, .int .i64 2), (5, .pointer (some ⟨k, 0, none⟩)), (4, .pointer (some ⟨k, 0, none⟩)), (3, .pointer (some ⟨k, 0, none⟩))]) (fun φ2 => []) (fun φ2 => [k]) s ⟨hk, trivial⟩ (fun φ2 => by kernel_rfl) ?_
    intro φ2 w2 s
    refine ops_done (by kernel_rfl) ?_
    refine cond_false_rule (b := false) (by kernel_rfl) rfl ?_
    refine wp_skip ?_
    refine wp_seq ?_
    refine wp_seq ?_
    refine region_rule ?_
    refine ops_rule (C := [(k, .cells #[.int .i64 2, .pointer (some ⟨kl, 0, none⟩), .pointer (some ⟨kr, 0, none⟩)] 84)]) [] [] 5 [.c 0] 0 (fun φ3 => [(12, .bool false), (11, .int .i64 2), (10, .pointer (some ⟨k, 0, none⟩)), (9, .pointer (some ⟨k, 0, none⟩)), (8, .pointer (some ⟨k, 0, none⟩))]) (fun φ3 => []) (fun φ3 => [k]) s ⟨hk, trivial⟩ (fun φ3 => by kernel_rfl) ?_
    intro φ3 w3 s
    refine ops_done (by kernel_rfl) ?_
    refine cond_false_rule (b := false) (by kernel_rfl) rfl ?_
    refine wp_skip ?_
    refine wp_seq ?_
    refine draw_rule (C := [(k, .cells #[.int .i64 2, .pointer (some ⟨kl, 0, none⟩), .pointer (some ⟨kr, 0, none⟩)] 84)]) ⟨(fun φ4 xs4 => [.look 0 [] [], .look 0 [] [], .look 0 [] [], .look 0 [.c 0] [k], .call 113 #[.pointer (some ⟨kl, 0, none⟩)], .ran (binOp .add 9 (.string ⟨#[40]⟩) (.string ⟨(textT l).toArray⟩)), .ran (binOp .add 9 (.string ⟨([40] ++ (textT l)).toArray⟩) (.string ⟨#[44]⟩)), .look 0 [] [], .look 0 [] [], .look 0 [] [], .look 0 [.c 0] [k], .call 113 #[.pointer (some ⟨kr, 0, none⟩)], .ran (binOp .add 9 (.string ⟨([40] ++ (textT l) ++ [44]).toArray⟩) (.string ⟨(textT r).toArray⟩)), .ran (binOp .add 9 (.string ⟨([40] ++ (textT l) ++ [44] ++ (textT r)).toArray⟩) (.string ⟨#[41]⟩)), .look 0 [] []]), (fun φ4 xs4 => [.pointer (some ⟨k, 0, none⟩), .pointer (some ⟨k, 0, none⟩), .pointer (some ⟨k, 1, none⟩), .pointer (some ⟨kl, 0, none⟩), .string ⟨(textT l).toArray⟩, .string ⟨([40] ++ (textT l)).toArray⟩, .string ⟨([40] ++ (textT l) ++ [44]).toArray⟩, .pointer (some ⟨k, 0, none⟩), .pointer (some ⟨k, 0, none⟩), .pointer (some ⟨k, 2, none⟩), .pointer (some ⟨kr, 0, none⟩), .string ⟨(textT r).toArray⟩, .string ⟨([40] ++ (textT l) ++ [44] ++ (textT r)).toArray⟩, .string ⟨([40] ++ (textT l) ++ [44] ++ (textT r) ++ [41]).toArray⟩, .string ⟨([40] ++ (textT l) ++ [44] ++ (textT r) ++ [41]).toArray⟩]), (fun φ4 xs4 => [[]]), (fun φ4 xs4 => [[default, default, default, default, default, default, default, default, default, default, default, default, default, default, default]]), [], [1, 1, 1, 1, 3, 6, 6, 1, 1, 1, 1, 3, 6, 6, 1]⟩ (fun j => ([MP.any, MP.any, MP.any, MP.any, MP.any, MP.any, MP.any, MP.any, MP.any, MP.any, MP.any, MP.any, MP.any, MP.any, MP.any] : List MP).getD j MP.any) [4, 11] [] [5, 6, 12, 13] (fun φ4 xs4 => []) (fun φ4 xs4 => [(13, .pointer (some ⟨k, 0, none⟩)), (14, .pointer (some ⟨k, 0, none⟩)), (15, .pointer (some ⟨k, 1, none⟩)), (16, .pointer (some ⟨kl, 0, none⟩)), (17, .string ⟨(textT l).toArray⟩), (18, .string ⟨([40] ++ (textT l)).toArray⟩), (19, .string ⟨([40] ++ (textT l) ++ [44]).toArray⟩), (20, .pointer (some ⟨k, 0, none⟩)), (21, .pointer (some ⟨k, 0, none⟩)), (22, .pointer (some ⟨k, 2, none⟩)), (23, .pointer (some ⟨kr, 0, none⟩)), (24, .string ⟨(textT r).toArray⟩), (25, .string ⟨([40] ++ (textT l) ++ [44] ++ (textT r)).toArray⟩), (26, .string ⟨([40] ++ (textT l) ++ [44] ++ (textT r) ++ [41]).toArray⟩), (2, .string ⟨([40] ++ (textT l) ++ [44] ++ (textT r) ++ [41]).toArray⟩)]) (fun φ4 xs4 => []) s ⟨hk, trivial⟩ (by kernel_rfl) (by kernel_rfl) (fun _ _ => by kernel_rfl) (fun _ _ => by kernel_rfl) ⟨fun _ _ => by kernel_rfl, fun _ _ => by kernel_rfl, fun _ _ => by kernel_rfl, fun _ _ => by kernel_rfl⟩ (fun _ _ _ => by kernel_rfl) (fun _ _ => by kernel_rfl) (fun _ _ => by kernel_rfl) (fun _ _ => by kernel_rfl) (fun _ _ => by kernel_rfl) (fun _ _ => by kernel_rfl) trivial ⟨kcast (A := ∀ (φ4 : Nat → Nat) (xs4 : Xs) (J : IM) (w : World), I.Le J → J.Sub w → ((binOp .add 9 (.string ⟨#[40]⟩) (.string ⟨(textT l).toArray⟩)) : Sem Value).run Tryd.prog w = .ok (.string ⟨([40] ++ (textT l)).toArray⟩) w) (by kernel_rfl) (fun φ4 xs4 J w _ _ => run_cat (x := [40]) (y := textT l) (by simp only [List.length_append, List.length_cons, List.length_nil]; omega)), ⟨kcast (A := ∀ (φ4 : Nat → Nat) (xs4 : Xs) (J : IM) (w : World), I.Le J → J.Sub w → ((binOp .add 9 (.string ⟨([40] ++ (textT l)).toArray⟩) (.string ⟨#[44]⟩)) : Sem Value).run Tryd.prog w = .ok (.string ⟨([40] ++ (textT l) ++ [44]).toArray⟩) w) (by kernel_rfl) (fun φ4 xs4 J w _ _ => run_cat (x := [40] ++ (textT l)) (y := [44]) (by simp only [List.length_append, List.length_cons, List.length_nil]; omega)), ⟨kcast (A := ∀ (φ4 : Nat → Nat) (xs4 : Xs) (J : IM) (w : World), I.Le J → J.Sub w → ((binOp .add 9 (.string ⟨([40] ++ (textT l) ++ [44]).toArray⟩) (.string ⟨(textT r).toArray⟩)) : Sem Value).run Tryd.prog w = .ok (.string ⟨([40] ++ (textT l) ++ [44] ++ (textT r)).toArray⟩) w) (by kernel_rfl) (fun φ4 xs4 J w _ _ => run_cat (x := [40] ++ (textT l) ++ [44]) (y := textT r) (by simp only [List.length_append, List.length_cons, List.length_nil]; omega)), ⟨kcast (A := ∀ (φ4 : Nat → Nat) (xs4 : Xs) (J : IM) (w : World), I.Le J → J.Sub w → ((binOp .add 9 (.string ⟨([40] ++ (textT l) ++ [44] ++ (textT r)).toArray⟩) (.string ⟨#[41]⟩)) : Sem Value).run Tryd.prog w = .ok (.string ⟨([40] ++ (textT l) ++ [44] ++ (textT r) ++ [41]).toArray⟩) w) (by kernel_rfl) (fun φ4 xs4 J w _ _ => run_cat (x := [40] ++ (textT l) ++ [44] ++ (textT r)) (y := [41]) (by simp only [List.length_append, List.length_cons, List.length_nil]; omega)), trivial⟩⟩⟩⟩ ⟨?c4_4, ?c4_11, trivial⟩ ?k4
    case c4_4 =>
      refine kcast (A := ∀ (φ4 : Nat → Nat) (xs4 : Xs) (J4_4 : IM), I.Le J4_4 → Fun Tryd.prog 113 #[.pointer (some ⟨kl, 0, none⟩)] J4_4 (fun v J' => ∃ x : UX, v = .string ⟨(textT l).toArray⟩ ∧ (True))) (by kernel_rfl) ?_
      intro φ4 xs4 J4_4 leJ
      have hl := RT.mono leJ hl
      exact Fun.mono (ihl hl (by omega)) (fun v J' _ h => ⟨UX.d, h, trivial⟩)
    case c4_11 =>
      refine kcast (A := ∀ (φ4 : Nat → Nat) (xs4 : Xs) (J11_4 : IM), I.Le J11_4 → (True) → Fun Tryd.prog 113 #[.pointer (some ⟨kr, 0, none⟩)] J11_4 (fun v J' => ∃ x : UX, v = .string ⟨(textT r).toArray⟩ ∧ (True))) (by kernel_rfl) ?_
      intro φ4 xs4 J11_4 leJ
      rintro _
      have hr := RT.mono leJ hr
      exact Fun.mono (ihr hr (by omega)) (fun v J' _ h => ⟨UX.d, h, trivial⟩)
    case k4 =>
      rintro φ4 xs4 I4 w4 le4 s _ _
      replace hl := RT.mono le4 hl
      replace hr := RT.mono le4 hr
      replace hk := le4 _ _ hk
      refine wp_ret ?_
      refine ret_rule (C := []) [] [] (.string ⟨([40] ++ (textT l) ++ [44] ++ (textT r) ++ [41]).toArray⟩) [] [] s trivial (by kernel_rfl) ?_
      exact ⟨_, _, _, rfl, s, rfl⟩

theorem rtext_c : ∀ (t : T) {I : IM} {k : Nat}, RT I t k → (textT t).length ≤ 1000000000 → Fun Tryd.prog 113 #[.pointer (some ⟨k, 0, none⟩)] I (fun v _ => v = .string ⟨(textT t).toArray⟩)
  | .zero, _, _, h, hl => rtext_step h hl (fun l r h => by cases h)
  | .one, _, _, h, hl => rtext_step h hl (fun l r h => by cases h)
  | .node l r, _, _, h, hl => rtext_step h hl (fun l' r' e => by
      cases e
      exact ⟨fun {J} {k} a b => rtext_c l a b, fun {J} {k} a b => rtext_c r a b⟩)

set_option maxHeartbeats 400000 in
theorem rzero_c {I : IM} : Fun Tryd.prog 61 #[] I (fun v J => ∃ k, v = .pointer (some ⟨k, 0, none⟩) ∧ RT J T.zero k) := by
  refine enter_rule 3 [] Tryd.func61 rfl (by kernel_rfl) ?_
  intro w s
  refine wp_seq ?_
  refine region_rule ?_
  refine ops_rule (C := []) [] [] 1 [] 0 (fun φ1 => [(0, .pointer none)]) (fun φ1 => []) (fun φ1 => []) s trivial (fun φ1 => by kernel_rfl) ?_
  intro φ1 w1 s
  refine ops_done (by kernel_rfl) ?_
  refine wp_seq ?_
  refine region_rule ?_
  refine ops_rule (C := []) [] [] 3 [] 1 (fun φ2 => [(0, .pointer (some ⟨(φ2 0), 0, none⟩)), (2, .pointer (some ⟨(φ2 0), 0, none⟩)), (1, .agg #[.int .i64 0, .pointer none, .pointer none])]) (fun φ2 => [((φ2 0), .cells #[.int .i64 0, .pointer none, .pointer none] 84)]) (fun φ2 => []) s trivial (fun φ2 => by kernel_rfl) ?_
  intro φ2 w2 s
  refine ops_done (by kernel_rfl) ?_
  refine wp_ret ?_
  refine ret_rule (C := []) [((φ2 0), .cells #[.int .i64 0, .pointer none, .pointer none] 84)] [] (.pointer (some ⟨(φ2 0), 0, none⟩)) [] [] s trivial (by kernel_rfl) ?_
  obtain ⟨I3, le3, hk3, s⟩ := s.freezeAt 0 (φ2 0) (.cells #[.int .i64 0, .pointer none, .pointer none] 84) [] (by kernel_rfl) (by kernel_rfl)
  exact ⟨_, _, _, rfl, s, ⟨_, rfl, hk3⟩⟩

set_option maxHeartbeats 400000 in
theorem rone_c {I : IM} : Fun Tryd.prog 100 #[] I (fun v J => ∃ k, v = .pointer (some ⟨k, 0, none⟩) ∧ RT J T.one k) := by
  refine enter_rule 3 [] Tryd.func100 rfl (by kernel_rfl) ?_
  intro w s
  refine wp_seq ?_
  refine region_rule ?_
  refine ops_rule (C := []) [] [] 1 [] 0 (fun φ1 => [(0, .pointer none)]) (fun φ1 => []) (fun φ1 => []) s trivial (fun φ1 => by kernel_rfl) ?_
  intro φ1 w1 s
  refine ops_done (by kernel_rfl) ?_
  refine wp_seq ?_
  refine region_rule ?_
  refine ops_rule (C := []) [] [] 3 [] 1 (fun φ2 => [(0, .pointer (some ⟨(φ2 0), 0, none⟩)), (2, .pointer (some ⟨(φ2 0), 0, none⟩)), (1, .agg #[.int .i64 1, .pointer none, .pointer none])]) (fun φ2 => [((φ2 0), .cells #[.int .i64 1, .pointer none, .pointer none] 84)]) (fun φ2 => []) s trivial (fun φ2 => by kernel_rfl) ?_
  intro φ2 w2 s
  refine ops_done (by kernel_rfl) ?_
  refine wp_ret ?_
  refine ret_rule (C := []) [((φ2 0), .cells #[.int .i64 1, .pointer none, .pointer none] 84)] [] (.pointer (some ⟨(φ2 0), 0, none⟩)) [] [] s trivial (by kernel_rfl) ?_
  obtain ⟨I3, le3, hk3, s⟩ := s.freezeAt 0 (φ2 0) (.cells #[.int .i64 1, .pointer none, .pointer none] 84) [] (by kernel_rfl) (by kernel_rfl)
  exact ⟨_, _, _, rfl, s, ⟨_, rfl, hk3⟩⟩

set_option maxHeartbeats 1000000 in
theorem rpair_c {I : IM} {l r : T} {kl kr : Nat} (hl : RT I l kl) (hr : RT I r kr) : Fun Tryd.prog 99 #[.pointer (some ⟨kl, 0, none⟩), .pointer (some ⟨kr, 0, none⟩)] I (fun v J => ∃ k, v = .pointer (some ⟨k, 0, none⟩) ∧ RT J (T.mk l r) k) := by
  refine enter_rule 26 [(0, .pointer (some ⟨kl, 0, none⟩)), (1, .pointer (some ⟨kr, 0, none⟩))] Tryd.func99 rfl (by kernel_rfl) ?_
  intro w s
  refine wp_seq ?_
  refine region_rule ?_
  refine ops_rule (C := []) [] [] 1 [] 0 (fun φ1 => [(4, .pointer none)]) (fun φ1 => []) (fun φ1 => []) s trivial (fun φ1 => by kernel_rfl) ?_
  intro φ1 w1 s
  refine ops_done (by kernel_rfl) ?_
  refine wp_seq ?_
  refine wp_seq ?_
  rcases Bool.eq_false_or_eq_true (decide ((kindT l) = (kindT r))) with hc4 | hc4
  ·
    obtain ⟨pl5, pr5, hp5⟩ := RT.peek hl
    obtain ⟨pl6, pr6, hp6⟩ := RT.peek hr
    refine draw_rule (C := [(kl, .cells #[.int .i64 ((kindT l : Nat) : Int), .pointer pl5, .pointer pr5] 84), (kr, .cells #[.int .i64 ((kindT r : Nat) : Int), .pointer pl6, .pointer pr6] 84)]) ⟨(fun φ5 xs5 => [.look 0 [] [], .look 0 [] [], .look 0 [] [], .look 0 [.c 0] [kl], .look 0 [] [], .look 0 [] [], .look 0 [] [], .look 0 [.c 1] [kr], .sub 0 [] [] (.bool (((kindT l : Nat) : Int) == ((kindT r : Nat) : Int))), .look 0 [] [], .look 0 [] [], .look 0 [] [], .look 0 [] [], .look 0 [.c 0] [kl], .sub 0 [] [] (.bool (decide (((kindT l : Nat) : Int) < ((2 : Nat) : Int)))), .look 0 [] []]), (fun φ5 xs5 => [.pointer (some ⟨kl, 0, none⟩), .pointer (some ⟨kl, 0, none⟩), .pointer (some ⟨kl, 0, none⟩), .int .i64 ((kindT l : Nat) : Int), .pointer (some ⟨kr, 0, none⟩), .pointer (some ⟨kr, 0, none⟩), .pointer (some ⟨kr, 0, none⟩), .int .i64 ((kindT r : Nat) : Int), .bool true, .bool true, .pointer (some ⟨kl, 0, none⟩), .pointer (some ⟨kl, 0, none⟩), .pointer (some ⟨kl, 0, none⟩), .int .i64 ((kindT l : Nat) : Int), .bool (decide ((kindT l) < 2)), .bool (decide ((kindT l) < 2))]), (fun φ5 xs5 => [[]]), (fun φ5 xs5 => [[default, default, default, default, default, default, default, default, default, default, default, default, default, default, default, default]]), [], [1, 1, 1, 1, 1, 1, 1, 1, 5, 1, 1, 1, 1, 1, 5, 1]⟩ (fun j => ([MP.any, MP.any, MP.any, MP.any, MP.any, MP.any, MP.any, MP.any, MP.any, MP.any, MP.any, MP.any, MP.any, MP.any, MP.any, MP.any] : List MP).getD j MP.any) [] [8, 14] [] (fun φ5 xs5 => []) (fun φ5 xs5 => [(5, .pointer (some ⟨kl, 0, none⟩)), (6, .pointer (some ⟨kl, 0, none⟩)), (7, .pointer (some ⟨kl, 0, none⟩)), (8, .int .i64 ((kindT l : Nat) : Int)), (9, .pointer (some ⟨kr, 0, none⟩)), (10, .pointer (some ⟨kr, 0, none⟩)), (11, .pointer (some ⟨kr, 0, none⟩)), (12, .int .i64 ((kindT r : Nat) : Int)), (13, .bool true), (14, .bool true), (15, .pointer (some ⟨kl, 0, none⟩)), (16, .pointer (some ⟨kl, 0, none⟩)), (17, .pointer (some ⟨kl, 0, none⟩)), (18, .int .i64 ((kindT l : Nat) : Int)), (19, .bool (decide ((kindT l) < 2))), (20, .bool (decide ((kindT l) < 2)))]) (fun φ5 xs5 => []) s ⟨hp5, ⟨hp6, trivial⟩⟩ (by kernel_rfl) (by kernel_rfl) (fun _ _ => by kernel_rfl) (fun _ _ => by kernel_rfl) ⟨fun _ _ => by kernel_rfl, fun _ _ => by kernel_rfl, fun _ _ => by kernel_rfl, fun _ _ => by kernel_rfl⟩ (fun _ _ _ => by kernel_rfl) (fun _ _ => by kernel_rfl) (fun _ _ => by kernel_rfl) (fun _ _ => by kernel_rfl) (fun _ _ => by kernel_rfl) (fun _ _ => by kernel_rfl) ⟨kcast (A := ∀ (φ5 : Nat → Nat) (xs5 : Xs), (.bool (((kindT l : Nat) : Int) == ((kindT r : Nat) : Int)) : Value) = .bool true) (by kernel_rfl) (fun φ5 xs5 => congrArg Value.bool ((nat_eql (a := (kindT l)) (b := (kindT r))).trans (hc4))), ⟨kcast (A := ∀ (φ5 : Nat → Nat) (xs5 : Xs), (.bool (decide (((kindT l : Nat) : Int) < ((2 : Nat) : Int))) : Value) = .bool (decide ((kindT l) < 2))) (by kernel_rfl) (fun φ5 xs5 => congrArg Value.bool ((nat_lss (a := (kindT l)) (b := 2)))), trivial⟩⟩ trivial trivial ?k5
    case k5 =>
      rintro φ5 xs5 I5 w5 le5 s 
      replace hl := RT.mono le5 hl
      replace hr := RT.mono le5 hr
      replace hp5 := le5 _ _ hp5
      replace hp6 := le5 _ _ hp6
      rcases Bool.eq_false_or_eq_true (decide ((kindT l) < 2)) with hc8 | hc8
      ·
        rw [hc8]
        refine cond_true_rule (b := true) (by kernel_rfl) rfl ?_
        refine wp_seq ?_
        refine region_rule ?_
        refine ops_rule (C := []) [] [] 2 [] 0 (fun φ9 => [(4, .pointer (some ⟨kl, 0, none⟩)), (21, .pointer (some ⟨kl, 0, none⟩))]) (fun φ9 => []) (fun φ9 => []) s trivial (fun φ9 => by kernel_rfl) ?_
        intro φ9 w9 s
        refine ops_done (by kernel_rfl) ?_
        refine wp_ret ?_
        refine ret_rule (C := []) [] [] (.pointer (some ⟨kl, 0, none⟩)) [] [] s trivial (by kernel_rfl) ?_
        exact ⟨_, _, _, rfl, s, ⟨_, rfl, by rw [mk_same (of_decide_eq_true hc4) (of_decide_eq_true hc8)]; exact hl⟩⟩
      ·
        rw [hc8]
        refine cond_false_rule (b := false) (by kernel_rfl) rfl ?_
        refine wp_skip ?_
        refine wp_seq ?_
        refine region_rule ?_
        refine ops_rule (C := []) [] [] 5 [] 1 (fun φ10 => [(4, .pointer (some ⟨(φ10 0), 0, none⟩)), (25, .pointer (some ⟨(φ10 0), 0, none⟩)), (24, .agg #[.int .i64 2, .pointer (some ⟨kl, 0, none⟩), .pointer (some ⟨kr, 0, none⟩)]), (23, .pointer (some ⟨kr, 0, none⟩)), (22, .pointer (some ⟨kl, 0, none⟩))]) (fun φ10 => [((φ10 0), .cells #[.int .i64 2, .pointer (some ⟨kl, 0, none⟩), .pointer (some ⟨kr, 0, none⟩)] 84)]) (fun φ10 => []) s trivial (fun φ10 => by kernel_rfl) ?_
        intro φ10 w10 s
        refine ops_done (by kernel_rfl) ?_
        refine wp_ret ?_
        refine ret_rule (C := []) [((φ10 0), .cells #[.int .i64 2, .pointer (some ⟨kl, 0, none⟩), .pointer (some ⟨kr, 0, none⟩)] 84)] [] (.pointer (some ⟨(φ10 0), 0, none⟩)) [] [] s trivial (by kernel_rfl) ?_
        obtain ⟨I11, le11, hk11, s⟩ := s.freezeAt 0 (φ10 0) (.cells #[.int .i64 2, .pointer (some ⟨kl, 0, none⟩), .pointer (some ⟨kr, 0, none⟩)] 84) [] (by kernel_rfl) (by kernel_rfl)
        replace hl := RT.mono le11 hl
        replace hr := RT.mono le11 hr
        replace hp5 := le11 _ _ hp5
        replace hp6 := le11 _ _ hp6
        exact ⟨_, _, _, rfl, s, ⟨_, rfl, by rw [mk_deep (of_decide_eq_false hc8)]; exact ⟨_, _, hk11, hl, hr⟩⟩⟩
  ·
    obtain ⟨pl12, pr12, hp12⟩ := RT.peek hl
    obtain ⟨pl13, pr13, hp13⟩ := RT.peek hr
    refine draw_rule (C := [(kl, .cells #[.int .i64 ((kindT l : Nat) : Int), .pointer pl12, .pointer pr12] 84), (kr, .cells #[.int .i64 ((kindT r : Nat) : Int), .pointer pl13, .pointer pr13] 84)]) ⟨(fun φ12 xs12 => [.look 0 [] [], .look 0 [] [], .look 0 [] [], .look 0 [.c 0] [kl], .look 0 [] [], .look 0 [] [], .look 0 [] [], .look 0 [.c 1] [kr], .sub 0 [] [] (.bool (((kindT l : Nat) : Int) == ((kindT r : Nat) : Int))), .look 0 [] [], .skip, .skip, .skip, .skip, .skip, .look 0 [] []]), (fun φ12 xs12 => [.pointer (some ⟨kl, 0, none⟩), .pointer (some ⟨kl, 0, none⟩), .pointer (some ⟨kl, 0, none⟩), .int .i64 ((kindT l : Nat) : Int), .pointer (some ⟨kr, 0, none⟩), .pointer (some ⟨kr, 0, none⟩), .pointer (some ⟨kr, 0, none⟩), .int .i64 ((kindT r : Nat) : Int), .bool false, .bool false, undef, undef, undef, undef, undef, .bool false]), (fun φ12 xs12 => [[]]), (fun φ12 xs12 => [[default, default, default, default, default, default, default, default, default, default, default, default, default, default, default, default]]), [], [1, 1, 1, 1, 1, 1, 1, 1, 5, 1, 0, 0, 0, 0, 0, 1]⟩ (fun j => ([MP.any, MP.any, MP.any, MP.any, MP.any, MP.any, MP.any, MP.any, MP.any, MP.any, MP.any, MP.any, MP.any, MP.any, MP.any, MP.any] : List MP).getD j MP.any) [] [8] [] (fun φ12 xs12 => []) (fun φ12 xs12 => [(5, .pointer (some ⟨kl, 0, none⟩)), (6, .pointer (some ⟨kl, 0, none⟩)), (7, .pointer (some ⟨kl, 0, none⟩)), (8, .int .i64 ((kindT l : Nat) : Int)), (9, .pointer (some ⟨kr, 0, none⟩)), (10, .pointer (some ⟨kr, 0, none⟩)), (11, .pointer (some ⟨kr, 0, none⟩)), (12, .int .i64 ((kindT r : Nat) : Int)), (13, .bool false), (14, .bool false), (15, undef), (16, undef), (17, undef), (18, undef), (19, undef), (20, .bool false)]) (fun φ12 xs12 => []) s ⟨hp12, ⟨hp13, trivial⟩⟩ (by kernel_rfl) (by kernel_rfl) (fun _ _ => by kernel_rfl) (fun _ _ => by kernel_rfl) ⟨fun _ _ => by kernel_rfl, fun _ _ => by kernel_rfl, fun _ _ => by kernel_rfl, fun _ _ => by kernel_rfl⟩ (fun _ _ _ => by kernel_rfl) (fun _ _ => by kernel_rfl) (fun _ _ => by kernel_rfl) (fun _ _ => by kernel_rfl) (fun _ _ => by kernel_rfl) (fun _ _ => by kernel_rfl) ⟨kcast (A := ∀ (φ12 : Nat → Nat) (xs12 : Xs), (.bool (((kindT l : Nat) : Int) == ((kindT r : Nat) : Int)) : Value) = .bool false) (by kernel_rfl) (fun φ12 xs12 => congrArg Value.bool ((nat_eql (a := (kindT l)) (b := (kindT r))).trans (hc4))), trivial⟩ trivial trivial ?k12
    case k12 =>
      rintro φ12 xs12 I12 w12 le12 s 
      replace hl := RT.mono le12 hl
      replace hr := RT.mono le12 hr
      replace hp12 := le12 _ _ hp12
      replace hp13 := le12 _ _ hp13
      refine cond_false_rule (b := false) (by kernel_rfl) rfl ?_
      refine wp_skip ?_
      refine wp_seq ?_
      refine region_rule ?_
      refine ops_rule (C := []) [] [] 5 [] 1 (fun φ15 => [(4, .pointer (some ⟨(φ15 0), 0, none⟩)), (25, .pointer (some ⟨(φ15 0), 0, none⟩)), (24, .agg #[.int .i64 2, .pointer (some ⟨kl, 0, none⟩), .pointer (some ⟨kr, 0, none⟩)]), (23, .pointer (some ⟨kr, 0, none⟩)), (22, .pointer (some ⟨kl, 0, none⟩))]) (fun φ15 => [((φ15 0), .cells #[.int .i64 2, .pointer (some ⟨kl, 0, none⟩), .pointer (some ⟨kr, 0, none⟩)] 84)]) (fun φ15 => []) s trivial (fun φ15 => by kernel_rfl) ?_
      intro φ15 w15 s
      refine ops_done (by kernel_rfl) ?_
      refine wp_ret ?_
      refine ret_rule (C := []) [((φ15 0), .cells #[.int .i64 2, .pointer (some ⟨kl, 0, none⟩), .pointer (some ⟨kr, 0, none⟩)] 84)] [] (.pointer (some ⟨(φ15 0), 0, none⟩)) [] [] s trivial (by kernel_rfl) ?_
      obtain ⟨I16, le16, hk16, s⟩ := s.freezeAt 0 (φ15 0) (.cells #[.int .i64 2, .pointer (some ⟨kl, 0, none⟩), .pointer (some ⟨kr, 0, none⟩)] 84) [] (by kernel_rfl) (by kernel_rfl)
      replace hl := RT.mono le16 hl
      replace hr := RT.mono le16 hr
      replace hp12 := le16 _ _ hp12
      replace hp13 := le16 _ _ hp13
      exact ⟨_, _, _, rfl, s, ⟨_, rfl, by rw [mk_apart (of_decide_eq_false hc4)]; exact ⟨_, _, hk16, hl, hr⟩⟩⟩

theorem cut_l {l r : T} (h : l = .zero) : cutT (.node l r) = (T.mk .zero (cutT r).1, T.mk .zero (cutT r).2) := by
  subst h; rw [cutT, if_pos (show T.zero.isZero = true from rfl)]
theorem cut_r {l r : T} (h : l.isZero = false) (h2 : r = .zero) : cutT (.node l r) = (T.mk (cutT l).1 .zero, T.mk (cutT l).2 .zero) := by
  subst h2; rw [cutT, if_neg (by rw [h]; simp), if_pos (show T.zero.isZero = true from rfl)]
theorem cut_b {l r : T} (h : l.isZero = false) (h2 : r.isZero = false) : cutT (.node l r) = (T.mk l .zero, T.mk .zero r) := by
  rw [cutT, if_neg (by rw [h]; simp), if_neg (by rw [h2]; simp)]

set_option maxHeartbeats 2000000 in
theorem rsplit_step {I : IM} {t : T} {k : Nat} (h : RT I t k) (ih : ∀ l r, t = .node l r → (∀ {J : IM} {k : Nat}, RT J l k → Fun Tryd.prog 58 #[.pointer (some ⟨k, 0, none⟩)] J (fun v J => ∃ k1 k2, v = .tuple #[.pointer (some ⟨k1, 0, none⟩), .pointer (some ⟨k2, 0, none⟩)] ∧ RT J (cutT l).1 k1 ∧ RT J (cutT l).2 k2)) ∧ (∀ {J : IM} {k : Nat}, RT J r k → Fun Tryd.prog 58 #[.pointer (some ⟨k, 0, none⟩)] J (fun v J => ∃ k1 k2, v = .tuple #[.pointer (some ⟨k1, 0, none⟩), .pointer (some ⟨k2, 0, none⟩)] ∧ RT J (cutT r).1 k1 ∧ RT J (cutT r).2 k2))) : Fun Tryd.prog 58 #[.pointer (some ⟨k, 0, none⟩)] I (fun v J => ∃ k1 k2, v = .tuple #[.pointer (some ⟨k1, 0, none⟩), .pointer (some ⟨k2, 0, none⟩)] ∧ RT J (cutT t).1 k1 ∧ RT J (cutT t).2 k2) := by
  cases t with
  | zero =>
    have hz : RT _ T.zero k := h
    refine enter_rule 82 [(0, .pointer (some ⟨k, 0, none⟩))] Tryd.func58 rfl (by kernel_rfl) ?_
    intro w s
    refine wp_seq ?_
    refine region_rule ?_
    refine ops_rule (C := []) [] [] 2 [] 0 (fun φ1 => [(3, .pointer none), (2, .pointer none)]) (fun φ1 => []) (fun φ1 => []) s trivial (fun φ1 => by kernel_rfl) ?_
    intro φ1 w1 s
    refine ops_done (by kernel_rfl) ?_
    refine wp_seq ?_
    refine wp_seq ?_
    refine region_rule ?_
    refine ops_rule (C := [(k, .cells #[.int .i64 0, .pointer none, .pointer none] 84)]) [] [] 5 [.c 0] 0 (fun φ2 => [(12, .bool true), (11, .int .i64 0), (10, .pointer (some ⟨k, 0, none⟩)), (9, .pointer (some ⟨k, 0, none⟩)), (8, .pointer (some ⟨k, 0, none⟩))]) (fun φ2 => []) (fun φ2 => [k]) s ⟨h, trivial⟩ (fun φ2 => by kernel_rfl) ?_
    intro φ2 w2 s
    refine ops_done (by kernel_rfl) ?_
    refine cond_true_rule (b := true) (by kernel_rfl) rfl ?_
    refine wp_seq ?_
    refine region_rule ?_
    refine call_rule (some 13) s (rzero_c) (by kernel_rfl) ?_
    intro v3 I3 w3 le3 h3 s
    replace hz := RT.mono le3 hz
    replace h := le3 _ _ h
    obtain ⟨k3, rfl, h3_0⟩ := h3
    refine call_rule (some 14) s (rzero_c) (by kernel_rfl) ?_
    intro v4 I4 w4 le4 h4 s
    replace hz := RT.mono le4 hz
    replace h3_0 := RT.mono le4 h3_0
    replace h := le4 _ _ h
    obtain ⟨k4, rfl, h4_0⟩ := h4
    refine ops_rule (C := []) [] [] 2 [] 0 (fun φ5 => [(3, .pointer (some ⟨k4, 0, none⟩)), (2, .pointer (some ⟨k3, 0, none⟩))]) (fun φ5 => []) (fun φ5 => []) s trivial (fun φ5 => by kernel_rfl) ?_
    intro φ5 w5 s
    refine ops_done (by kernel_rfl) ?_
    refine wp_ret ?_
    refine ret_rule (C := []) [] [] (.tuple #[.pointer (some ⟨k3, 0, none⟩), .pointer (some ⟨k4, 0, none⟩)]) [] [] s trivial (by kernel_rfl) ?_
    exact ⟨_, _, _, rfl, s, ⟨_, _, rfl, h3_0, h4_0⟩⟩
  | one =>
    have hz : RT _ T.one k := h
    refine enter_rule 82 [(0, .pointer (some ⟨k, 0, none⟩))] Tryd.func58 rfl (by kernel_rfl) ?_
    intro w s
    refine wp_seq ?_
    refine region_rule ?_
    refine ops_rule (C := []) [] [] 2 [] 0 (fun φ1 => [(3, .pointer none), (2, .pointer none)]) (fun φ1 => []) (fun φ1 => []) s trivial (fun φ1 => by kernel_rfl) ?_
    intro φ1 w1 s
    refine ops_done (by kernel_rfl) ?_
    refine wp_seq ?_
    refine wp_seq ?_
    refine region_rule ?_
    refine ops_rule (C := [(k, .cells #[.int .i64 1, .pointer none, .pointer none] 84)]) [] [] 5 [.c 0] 0 (fun φ2 => [(12, .bool false), (11, .int .i64 1), (10, .pointer (some ⟨k, 0, none⟩)), (9, .pointer (some ⟨k, 0, none⟩)), (8, .pointer (some ⟨k, 0, none⟩))]) (fun φ2 => []) (fun φ2 => [k]) s ⟨h, trivial⟩ (fun φ2 => by kernel_rfl) ?_
    intro φ2 w2 s
    refine ops_done (by kernel_rfl) ?_
    refine cond_false_rule (b := false) (by kernel_rfl) rfl ?_
    refine wp_skip ?_
    refine wp_seq ?_
    refine wp_seq ?_
    refine region_rule ?_
    refine ops_rule (C := [(k, .cells #[.int .i64 1, .pointer none, .pointer none] 84)]) [] [] 5 [.c 0] 0 (fun φ3 => [(19, .bool true), (18, .int .i64 1), (17, .pointer (some ⟨k, 0, none⟩)), (16, .pointer (some ⟨k, 0, none⟩)), (15, .pointer (some ⟨k, 0, none⟩))]) (fun φ3 => []) (fun φ3 => [k]) s ⟨h, trivial⟩ (fun φ3 => by kernel_rfl) ?_
    intro φ3 w3 s
    refine ops_done (by kernel_rfl) ?_
    refine cond_true_rule (b := true) (by kernel_rfl) rfl ?_
    refine wp_seq ?_
    refine region_rule ?_
    refine call_rule (some 20) s (rone_c) (by kernel_rfl) ?_
    intro v4 I4 w4 le4 h4 s
    replace hz := RT.mono le4 hz
    replace h := le4 _ _ h
    obtain ⟨k4, rfl, h4_0⟩ := h4
    refine call_rule (some 21) s (rzero_c) (by kernel_rfl) ?_
    intro v5 I5 w5 le5 h5 s
    replace hz := RT.mono le5 hz
    replace h4_0 := RT.mono le5 h4_0
    replace h := le5 _ _ h
    obtain ⟨k5, rfl, h5_0⟩ := h5
    refine call_rule (some 22) s (rpair_c h4_0 h5_0) (by kernel_rfl) ?_
    intro v6 I6 w6 le6 h6 s
    replace hz := RT.mono le6 hz
    replace h4_0 := RT.mono le6 h4_0
    replace h5_0 := RT.mono le6 h5_0
    replace h := le6 _ _ h
    obtain ⟨k6, rfl, h6_0⟩ := h6
    refine call_rule (some 23) s (rzero_c) (by kernel_rfl) ?_
    intro v7 I7 w7 le7 h7 s
    replace hz := RT.mono le7 hz
    replace h4_0 := RT.mono le7 h4_0
    replace h5_0 := RT.mono le7 h5_0
    replace h6_0 := RT.mono le7 h6_0
    replace h := le7 _ _ h
    obtain ⟨k7, rfl, h7_0⟩ := h7
    refine call_rule (some 24) s (rone_c) (by kernel_rfl) ?_
    intro v8 I8 w8 le8 h8 s
    replace hz := RT.mono le8 hz
    replace h4_0 := RT.mono le8 h4_0
    replace h5_0 := RT.mono le8 h5_0
    replace h6_0 := RT.mono le8 h6_0
    replace h7_0 := RT.mono le8 h7_0
    replace h := le8 _ _ h
    obtain ⟨k8, rfl, h8_0⟩ := h8
    refine call_rule (some 25) s (rpair_c h7_0 h8_0) (by kernel_rfl) ?_
    intro v9 I9 w9 le9 h9 s
    replace hz := RT.mono le9 hz
    replace h4_0 := RT.mono le9 h4_0
    replace h5_0 := RT.mono le9 h5_0
    replace h6_0 := RT.mono le9 h6_0
    replace h7_0 := RT.mono le9 h7_0
    replace h8_0 := RT.mono le9 h8_0
    replace h := le9 _ _ h
    obtain ⟨k9, rfl, h9_0⟩ := h9
    refine ops_rule (C := []) [] [] 2 [] 0 (fun φ10 => [(3, .pointer (some ⟨k9, 0, none⟩)), (2, .pointer (some ⟨k6, 0, none⟩))]) (fun φ10 => []) (fun φ10 => []) s trivial (fun φ10 => by kernel_rfl) ?_
    intro φ10 w10 s
    refine ops_done (by kernel_rfl) ?_
    refine wp_ret ?_
    refine ret_rule (C := []) [] [] (.tuple #[.pointer (some ⟨k6, 0, none⟩), .pointer (some ⟨k9, 0, none⟩)]) [] [] s trivial (by kernel_rfl) ?_
    exact ⟨_, _, _, rfl, s, ⟨_, _, rfl, h6_0, h9_0⟩⟩
  | node l r =>
    obtain ⟨kl, kr, hk, hl, hr⟩ := h
    obtain ⟨ihl, ihr⟩ := ih l r rfl
    clear ih
    refine enter_rule 82 [(0, .pointer (some ⟨k, 0, none⟩))] Tryd.func58 rfl (by kernel_rfl) ?_
    intro w s
    refine wp_seq ?_
    refine region_rule ?_
    refine ops_rule (C := []) [] [] 2 [] 0 (fun φ1 => [(3, .pointer none), (2, .pointer none)]) (fun φ1 => []) (fun φ1 => []) s trivial (fun φ1 => by kernel_rfl) ?_
    intro φ1 w1 s
    refine ops_done (by kernel_rfl) ?_
    refine wp_seq ?_
    refine wp_seq ?_
    refine region_rule ?_
    refine ops_rule (C := [(k, .cells #[.int .i64 2, .pointer (some ⟨kl, 0, none⟩), .pointer (some ⟨kr, 0, none⟩)] 84)]) [] [] 5 [.c 0] 0 (fun φ2 => [(12, .bool false), (11, .int .i64 2), (10, .pointer (some ⟨k, 0, none⟩)), (9, .pointer (some ⟨k, 0, none⟩)), (8, .pointer (some ⟨k, 0, none⟩))]) (fun φ2 => []) (fun φ2 => [k]) s ⟨hk, trivial⟩ (fun φ2 => by kernel_rfl) ?_
    intro φ2 w2 s
    refine ops_done (by kernel_rfl) ?_
    refine cond_false_rule (b := false) (by kernel_rfl) rfl ?_
    refine wp_skip ?_
    refine wp_seq ?_
    refine wp_seq ?_
    refine region_rule ?_
    refine ops_rule (C := [(k, .cells #[.int .i64 2, .pointer (some ⟨kl, 0, none⟩), .pointer (some ⟨kr, 0, none⟩)] 84)]) [] [] 5 [.c 0] 0 (fun φ3 => [(19, .bool false), (18, .int .i64 2), (17, .pointer (some ⟨k, 0, none⟩)), (16, .pointer (some ⟨k, 0, none⟩)), (15, .pointer (some ⟨k, 0, none⟩))]) (fun φ3 => []) (fun φ3 => [k]) s ⟨hk, trivial⟩ (fun φ3 => by kernel_rfl) ?_
    intro φ3 w3 s
    refine ops_done (by kernel_rfl) ?_
    refine cond_false_rule (b := false) (by kernel_rfl) rfl ?_
    refine wp_skip ?_
    refine wp_seq ?_
    refine wp_seq ?_
    refine region_rule ?_
    obtain ⟨pl4, pr4, hp4⟩ := RT.peek hl
    refine ops_rule (C := [(k, .cells #[.int .i64 2, .pointer (some ⟨kl, 0, none⟩), .pointer (some ⟨kr, 0, none⟩)] 84), (kl, .cells #[.int .i64 ((kindT l : Nat) : Int), .pointer pl4, .pointer pr4] 84)]) [] [] 8 [.c 0, .c 1] 0 (fun φ4 => [(33, .bool (((kindT l : Nat) : Int) == ((0 : Nat) : Int))), (32, .int .i64 ((kindT l : Nat) : Int)), (31, .pointer (some ⟨kl, 0, none⟩)), (30, .pointer (some ⟨kl, 0, none⟩)), (29, .pointer (some ⟨kl, 0, none⟩)), (28, .pointer (some ⟨k, 1, none⟩)), (27, .pointer (some ⟨k, 0, none⟩)), (26, .pointer (some ⟨k, 0, none⟩))]) (fun φ4 => []) (fun φ4 => [k, kl]) s ⟨hk, ⟨hp4, trivial⟩⟩ (fun φ4 => by kernel_rfl) ?_
    intro φ4 w4 s
    rw [nat_eql (a := (kindT l)) (b := 0)]
    refine ops_done (by kernel_rfl) ?_
    rcases Bool.eq_false_or_eq_true (decide ((kindT l) = 0)) with hc6 | hc6
    ·
      rw [hc6]
      refine cond_true_rule (b := true) (by kernel_rfl) rfl ?_
      refine wp_seq ?_
      refine region_rule ?_
      refine ops_rule (C := [(k, .cells #[.int .i64 2, .pointer (some ⟨kl, 0, none⟩), .pointer (some ⟨kr, 0, none⟩)] 84)]) [] [] 4 [.c 0] 0 (fun φ7 => [(38, .pointer (some ⟨kr, 0, none⟩)), (37, .pointer (some ⟨k, 2, none⟩)), (36, .pointer (some ⟨k, 0, none⟩)), (35, .pointer (some ⟨k, 0, none⟩))]) (fun φ7 => []) (fun φ7 => [k]) s ⟨hk, trivial⟩ (fun φ7 => by kernel_rfl) ?_
      intro φ7 w7 s
      refine call_rule (some 39) s (ihr hr) (by kernel_rfl) ?_
      intro v8 I8 w8 le8 h8 s
      replace hl := RT.mono le8 hl
      replace hr := RT.mono le8 hr
      replace hk := le8 _ _ hk
      replace hp4 := le8 _ _ hp4
      obtain ⟨k8, k2_8, rfl, h8_0, h8_1⟩ := h8
      refine ops_rule (C := []) [] [] 5 [] 0 (fun φ9 => [(5, .pointer (some ⟨k2_8, 0, none⟩)), (4, .pointer (some ⟨k8, 0, none⟩)), (41, .pointer (some ⟨k2_8, 0, none⟩)), (40, .pointer (some ⟨k8, 0, none⟩)), (34, .tuple #[.pointer (some ⟨k8, 0, none⟩), .pointer (some ⟨k2_8, 0, none⟩)])]) (fun φ9 => []) (fun φ9 => []) s trivial (fun φ9 => by kernel_rfl) ?_
      intro φ9 w9 s
      refine ops_done (by kernel_rfl) ?_
      refine wp_seq ?_
      refine region_rule ?_
      refine call_rule (some 42) s (rzero_c) (by kernel_rfl) ?_
      intro v10 I10 w10 le10 h10 s
      replace hl := RT.mono le10 hl
      replace hr := RT.mono le10 hr
      replace h8_0 := RT.mono le10 h8_0
      replace h8_1 := RT.mono le10 h8_1
      replace hk := le10 _ _ hk
      replace hp4 := le10 _ _ hp4
      obtain ⟨k10, rfl, h10_0⟩ := h10
      refine ops_rule (C := []) [] [] 1 [] 0 (fun φ11 => [(43, .pointer (some ⟨k8, 0, none⟩))]) (fun φ11 => []) (fun φ11 => []) s trivial (fun φ11 => by kernel_rfl) ?_
      intro φ11 w11 s
      refine call_rule (some 44) s (rpair_c h10_0 h8_0) (by kernel_rfl) ?_
      intro v12 I12 w12 le12 h12 s
      replace hl := RT.mono le12 hl
      replace hr := RT.mono le12 hr
      replace h8_0 := RT.mono le12 h8_0
      replace h8_1 := RT.mono le12 h8_1
      replace h10_0 := RT.mono le12 h10_0
      replace hk := le12 _ _ hk
      replace hp4 := le12 _ _ hp4
      obtain ⟨k12, rfl, h12_0⟩ := h12
      refine call_rule (some 45) s (rzero_c) (by kernel_rfl) ?_
      intro v13 I13 w13 le13 h13 s
      replace hl := RT.mono le13 hl
      replace hr := RT.mono le13 hr
      replace h8_0 := RT.mono le13 h8_0
      replace h8_1 := RT.mono le13 h8_1
      replace h10_0 := RT.mono le13 h10_0
      replace h12_0 := RT.mono le13 h12_0
      replace hk := le13 _ _ hk
      replace hp4 := le13 _ _ hp4
      obtain ⟨k13, rfl, h13_0⟩ := h13
      refine ops_rule (C := []) [] [] 1 [] 0 (fun φ14 => [(46, .pointer (some ⟨k2_8, 0, none⟩))]) (fun φ14 => []) (fun φ14 => []) s trivial (fun φ14 => by kernel_rfl) ?_
      intro φ14 w14 s
      refine call_rule (some 47) s (rpair_c h13_0 h8_1) (by kernel_rfl) ?_
      intro v15 I15 w15 le15 h15 s
      replace hl := RT.mono le15 hl
      replace hr := RT.mono le15 hr
      replace h8_0 := RT.mono le15 h8_0
      replace h8_1 := RT.mono le15 h8_1
      replace h10_0 := RT.mono le15 h10_0
      replace h12_0 := RT.mono le15 h12_0
      replace h13_0 := RT.mono le15 h13_0
      replace hk := le15 _ _ hk
      replace hp4 := le15 _ _ hp4
      obtain ⟨k15, rfl, h15_0⟩ := h15
      refine ops_rule (C := []) [] [] 2 [] 0 (fun φ16 => [(3, .pointer (some ⟨k15, 0, none⟩)), (2, .pointer (some ⟨k12, 0, none⟩))]) (fun φ16 => []) (fun φ16 => []) s trivial (fun φ16 => by kernel_rfl) ?_
      intro φ16 w16 s
      refine ops_done (by kernel_rfl) ?_
      refine wp_ret ?_
      refine ret_rule (C := []) [] [] (.tuple #[.pointer (some ⟨k12, 0, none⟩), .pointer (some ⟨k15, 0, none⟩)]) [] [] s trivial (by kernel_rfl) ?_
      exact ⟨_, _, _, rfl, s, (by rw [cut_l (kind_zero (of_decide_eq_true hc6))]; exact ⟨_, _, rfl, h12_0, h15_0⟩)⟩
    ·
      rw [hc6]
      refine cond_false_rule (b := false) (by kernel_rfl) rfl ?_
      refine wp_skip ?_
      refine wp_seq ?_
      refine wp_seq ?_
      refine region_rule ?_
      obtain ⟨pl17, pr17, hp17⟩ := RT.peek hr
      refine ops_rule (C := [(k, .cells #[.int .i64 2, .pointer (some ⟨kl, 0, none⟩), .pointer (some ⟨kr, 0, none⟩)] 84), (kr, .cells #[.int .i64 ((kindT r : Nat) : Int), .pointer pl17, .pointer pr17] 84)]) [] [] 8 [.c 0, .c 1] 0 (fun φ17 => [(55, .bool (((kindT r : Nat) : Int) == ((0 : Nat) : Int))), (54, .int .i64 ((kindT r : Nat) : Int)), (53, .pointer (some ⟨kr, 0, none⟩)), (52, .pointer (some ⟨kr, 0, none⟩)), (51, .pointer (some ⟨kr, 0, none⟩)), (50, .pointer (some ⟨k, 2, none⟩)), (49, .pointer (some ⟨k, 0, none⟩)), (48, .pointer (some ⟨k, 0, none⟩))]) (fun φ17 => []) (fun φ17 => [k, kr]) s ⟨hk, ⟨hp17, trivial⟩⟩ (fun φ17 => by kernel_rfl) ?_
      intro φ17 w17 s
      rw [nat_eql (a := (kindT r)) (b := 0)]
      refine ops_done (by kernel_rfl) ?_
      rcases Bool.eq_false_or_eq_true (decide ((kindT r) = 0)) with hc19 | hc19
      ·
        rw [hc19]
        refine cond_true_rule (b := true) (by kernel_rfl) rfl ?_
        refine wp_seq ?_
        refine region_rule ?_
        refine ops_rule (C := [(k, .cells #[.int .i64 2, .pointer (some ⟨kl, 0, none⟩), .pointer (some ⟨kr, 0, none⟩)] 84)]) [] [] 4 [.c 0] 0 (fun φ20 => [(60, .pointer (some ⟨kl, 0, none⟩)), (59, .pointer (some ⟨k, 1, none⟩)), (58, .pointer (some ⟨k, 0, none⟩)), (57, .pointer (some ⟨k, 0, none⟩))]) (fun φ20 => []) (fun φ20 => [k]) s ⟨hk, trivial⟩ (fun φ20 => by kernel_rfl) ?_
        intro φ20 w20 s
        refine call_rule (some 61) s (ihl hl) (by kernel_rfl) ?_
        intro v21 I21 w21 le21 h21 s
        replace hl := RT.mono le21 hl
        replace hr := RT.mono le21 hr
        replace hk := le21 _ _ hk
        replace hp4 := le21 _ _ hp4
        replace hp17 := le21 _ _ hp17
        obtain ⟨k21, k2_21, rfl, h21_0, h21_1⟩ := h21
        refine ops_rule (C := []) [] [] 5 [] 0 (fun φ22 => [(7, .pointer (some ⟨k2_21, 0, none⟩)), (6, .pointer (some ⟨k21, 0, none⟩)), (63, .pointer (some ⟨k2_21, 0, none⟩)), (62, .pointer (some ⟨k21, 0, none⟩)), (56, .tuple #[.pointer (some ⟨k21, 0, none⟩), .pointer (some ⟨k2_21, 0, none⟩)])]) (fun φ22 => []) (fun φ22 => []) s trivial (fun φ22 => by kernel_rfl) ?_
        intro φ22 w22 s
        refine ops_done (by kernel_rfl) ?_
        refine wp_seq ?_
        refine region_rule ?_
        refine ops_rule (C := []) [] [] 1 [] 0 (fun φ23 => [(64, .pointer (some ⟨k21, 0, none⟩))]) (fun φ23 => []) (fun φ23 => []) s trivial (fun φ23 => by kernel_rfl) ?_
        intro φ23 w23 s
        refine call_rule (some 65) s (rzero_c) (by kernel_rfl) ?_
        intro v24 I24 w24 le24 h24 s
        replace hl := RT.mono le24 hl
        replace hr := RT.mono le24 hr
        replace h21_0 := RT.mono le24 h21_0
        replace h21_1 := RT.mono le24 h21_1
        replace hk := le24 _ _ hk
        replace hp4 := le24 _ _ hp4
        replace hp17 := le24 _ _ hp17
        obtain ⟨k24, rfl, h24_0⟩ := h24
        refine call_rule (some 66) s (rpair_c h21_0 h24_0) (by kernel_rfl) ?_
        intro v25 I25 w25 le25 h25 s
        replace hl := RT.mono le25 hl
        replace hr := RT.mono le25 hr
        replace h21_0 := RT.mono le25 h21_0
        replace h21_1 := RT.mono le25 h21_1
        replace h24_0 := RT.mono le25 h24_0
        replace hk := le25 _ _ hk
        replace hp4 := le25 _ _ hp4
        replace hp17 := le25 _ _ hp17
        obtain ⟨k25, rfl, h25_0⟩ := h25
        refine ops_rule (C := []) [] [] 1 [] 0 (fun φ26 => [(67, .pointer (some ⟨k2_21, 0, none⟩))]) (fun φ26 => []) (fun φ26 => []) s trivial (fun φ26 => by kernel_rfl) ?_
        intro φ26 w26 s
        refine call_rule (some 68) s (rzero_c) (by kernel_rfl) ?_
        intro v27 I27 w27 le27 h27 s
        replace hl := RT.mono le27 hl
        replace hr := RT.mono le27 hr
        replace h21_0 := RT.mono le27 h21_0
        replace h21_1 := RT.mono le27 h21_1
        replace h24_0 := RT.mono le27 h24_0
        replace h25_0 := RT.mono le27 h25_0
        replace hk := le27 _ _ hk
        replace hp4 := le27 _ _ hp4
        replace hp17 := le27 _ _ hp17
        obtain ⟨k27, rfl, h27_0⟩ := h27
        refine call_rule (some 69) s (rpair_c h21_1 h27_0) (by kernel_rfl) ?_
        intro v28 I28 w28 le28 h28 s
        replace hl := RT.mono le28 hl
        replace hr := RT.mono le28 hr
        replace h21_0 := RT.mono le28 h21_0
        replace h21_1 := RT.mono le28 h21_1
        replace h24_0 := RT.mono le28 h24_0
        replace h25_0 := RT.mono le28 h25_0
        replace h27_0 := RT.mono le28 h27_0
        replace hk := le28 _ _ hk
        replace hp4 := le28 _ _ hp4
        replace hp17 := le28 _ _ hp17
        obtain ⟨k28, rfl, h28_0⟩ := h28
        refine ops_rule (C := []) [] [] 2 [] 0 (fun φ29 => [(3, .pointer (some ⟨k28, 0, none⟩)), (2, .pointer (some ⟨k25, 0, none⟩))]) (fun φ29 => []) (fun φ29 => []) s trivial (fun φ29 => by kernel_rfl) ?_
        intro φ29 w29 s
        refine ops_done (by kernel_rfl) ?_
        refine wp_ret ?_
        refine ret_rule (C := []) [] [] (.tuple #[.pointer (some ⟨k25, 0, none⟩), .pointer (some ⟨k28, 0, none⟩)]) [] [] s trivial (by kernel_rfl) ?_
        exact ⟨_, _, _, rfl, s, (by rw [cut_r (kind_nz (of_decide_eq_false hc6)) (kind_zero (of_decide_eq_true hc19))]; exact ⟨_, _, rfl, h25_0, h28_0⟩)⟩
      ·
        rw [hc19]
        refine cond_false_rule (b := false) (by kernel_rfl) rfl ?_
        refine wp_skip ?_
        refine wp_seq ?_
        refine draw_rule (C := [(k, .cells #[.int .i64 2, .pointer (some ⟨kl, 0, none⟩), .pointer (some ⟨kr, 0, none⟩)] 84)]) ⟨(fun φ30 xs30 => [.look 0 [] [], .look 0 [] [], .look 0 [] [], .look 0 [.c 0] [k], .call 61 #[], .call 99 #[.pointer (some ⟨kl, 0, none⟩), .pointer (some ⟨(xs30 4).n 0, 0, none⟩)], .call 61 #[], .look 0 [] [], .look 0 [] [], .look 0 [] [], .look 0 [.c 0] [k], .call 99 #[.pointer (some ⟨(xs30 6).n 0, 0, none⟩), .pointer (some ⟨kr, 0, none⟩)], .look 0 [] [], .look 0 [] []]), (fun φ30 xs30 => [.pointer (some ⟨k, 0, none⟩), .pointer (some ⟨k, 0, none⟩), .pointer (some ⟨k, 1, none⟩), .pointer (some ⟨kl, 0, none⟩), .pointer (some ⟨(xs30 4).n 0, 0, none⟩), .pointer (some ⟨(xs30 5).n 0, 0, none⟩), .pointer (some ⟨(xs30 6).n 0, 0, none⟩), .pointer (some ⟨k, 0, none⟩), .pointer (some ⟨k, 0, none⟩), .pointer (some ⟨k, 2, none⟩), .pointer (some ⟨kr, 0, none⟩), .pointer (some ⟨(xs30 11).n 0, 0, none⟩), .pointer (some ⟨(xs30 5).n 0, 0, none⟩), .pointer (some ⟨(xs30 11).n 0, 0, none⟩)]), (fun φ30 xs30 => [[]]), (fun φ30 xs30 => [[default, default, default, default, default, default, default, default, default, default, default, default, default, default]]), [], [1, 1, 1, 1, 3, 3, 3, 1, 1, 1, 1, 3, 1, 1]⟩ (fun j => ([MP.any, MP.any, MP.any, MP.any, ⟨fun x J => RT J T.zero (x.n 0), fun le h => RT.mono le h⟩, ⟨fun x J => RT J (T.mk l T.zero) (x.n 0), fun le h => RT.mono le h⟩, ⟨fun x J => RT J T.zero (x.n 0), fun le h => RT.mono le h⟩, MP.any, MP.any, MP.any, MP.any, ⟨fun x J => RT J (T.mk T.zero r) (x.n 0), fun le h => RT.mono le h⟩, MP.any, MP.any] : List MP).getD j MP.any) [4, 5, 6, 11] [] [] (fun φ30 xs30 => []) (fun φ30 xs30 => [(70, .pointer (some ⟨k, 0, none⟩)), (71, .pointer (some ⟨k, 0, none⟩)), (72, .pointer (some ⟨k, 1, none⟩)), (73, .pointer (some ⟨kl, 0, none⟩)), (74, .pointer (some ⟨(xs30 4).n 0, 0, none⟩)), (75, .pointer (some ⟨(xs30 5).n 0, 0, none⟩)), (76, .pointer (some ⟨(xs30 6).n 0, 0, none⟩)), (77, .pointer (some ⟨k, 0, none⟩)), (78, .pointer (some ⟨k, 0, none⟩)), (79, .pointer (some ⟨k, 2, none⟩)), (80, .pointer (some ⟨kr, 0, none⟩)), (81, .pointer (some ⟨(xs30 11).n 0, 0, none⟩)), (2, .pointer (some ⟨(xs30 5).n 0, 0, none⟩)), (3, .pointer (some ⟨(xs30 11).n 0, 0, none⟩))]) (fun φ30 xs30 => []) s ⟨hk, trivial⟩ (by kernel_rfl) (by kernel_rfl) (fun _ _ => by kernel_rfl) (fun _ _ => by kernel_rfl) ⟨fun _ _ => by kernel_rfl, fun _ _ => by kernel_rfl, fun _ _ => by kernel_rfl, fun _ _ => by kernel_rfl⟩ (fun _ _ _ => by kernel_rfl) (fun _ _ => by kernel_rfl) (fun _ _ => by kernel_rfl) (fun _ _ => by kernel_rfl) (fun _ _ => by kernel_rfl) (fun _ _ => by kernel_rfl) trivial trivial ⟨?c30_4, ?c30_5, ?c30_6, ?c30_11, trivial⟩ ?k30
        case c30_4 =>
          refine kcast (A := ∀ (φ30 : Nat → Nat) (xs30 : Xs) (J4_30 : IM), I.Le J4_30 → Fun Tryd.prog 61 #[] J4_30 (fun v J' => ∃ x : UX, v = .pointer (some ⟨x.n 0, 0, none⟩) ∧ (RT J' T.zero (x.n 0)))) (by kernel_rfl) ?_
          intro φ30 xs30 J4_30 leJ
          exact Fun.mono (rzero_c) (fun v J' _ ⟨y0, hv, g0⟩ => ⟨{ UX.d with n := fun j => y0 }, hv, g0⟩)
        case c30_5 =>
          refine kcast (A := ∀ (φ30 : Nat → Nat) (xs30 : Xs) (J5_30 : IM), I.Le J5_30 → (RT J5_30 T.zero ((xs30 4).n 0)) → Fun Tryd.prog 99 #[.pointer (some ⟨kl, 0, none⟩), .pointer (some ⟨(xs30 4).n 0, 0, none⟩)] J5_30 (fun v J' => ∃ x : UX, v = .pointer (some ⟨x.n 0, 0, none⟩) ∧ (RT J' (T.mk l T.zero) (x.n 0)))) (by kernel_rfl) ?_
          intro φ30 xs30 J5_30 leJ
          rintro h30_4_0
          have hl := RT.mono leJ hl
          exact Fun.mono (rpair_c hl h30_4_0) (fun v J' _ ⟨y0, hv, g0⟩ => ⟨{ UX.d with n := fun j => y0 }, hv, g0⟩)
        case c30_6 =>
          refine kcast (A := ∀ (φ30 : Nat → Nat) (xs30 : Xs) (J6_30 : IM), I.Le J6_30 → (RT J6_30 T.zero ((xs30 4).n 0)) → (RT J6_30 (T.mk l T.zero) ((xs30 5).n 0)) → Fun Tryd.prog 61 #[] J6_30 (fun v J' => ∃ x : UX, v = .pointer (some ⟨x.n 0, 0, none⟩) ∧ (RT J' T.zero (x.n 0)))) (by kernel_rfl) ?_
          intro φ30 xs30 J6_30 leJ
          rintro h30_4_0 h30_5_0
          exact Fun.mono (rzero_c) (fun v J' _ ⟨y0, hv, g0⟩ => ⟨{ UX.d with n := fun j => y0 }, hv, g0⟩)
        case c30_11 =>
          refine kcast (A := ∀ (φ30 : Nat → Nat) (xs30 : Xs) (J11_30 : IM), I.Le J11_30 → (RT J11_30 T.zero ((xs30 4).n 0)) → (RT J11_30 (T.mk l T.zero) ((xs30 5).n 0)) → (RT J11_30 T.zero ((xs30 6).n 0)) → Fun Tryd.prog 99 #[.pointer (some ⟨(xs30 6).n 0, 0, none⟩), .pointer (some ⟨kr, 0, none⟩)] J11_30 (fun v J' => ∃ x : UX, v = .pointer (some ⟨x.n 0, 0, none⟩) ∧ (RT J' (T.mk T.zero r) (x.n 0)))) (by kernel_rfl) ?_
          intro φ30 xs30 J11_30 leJ
          rintro h30_4_0 h30_5_0 h30_6_0
          have hr := RT.mono leJ hr
          exact Fun.mono (rpair_c h30_6_0 hr) (fun v J' _ ⟨y0, hv, g0⟩ => ⟨{ UX.d with n := fun j => y0 }, hv, g0⟩)
        case k30 =>
          rintro φ30 xs30 I30 w30 le30 s h30_4_0 h30_5_0 h30_6_0 h30_11_0
          replace hl := RT.mono le30 hl
          replace hr := RT.mono le30 hr
          replace hk := le30 _ _ hk
          replace hp4 := le30 _ _ hp4
          replace hp17 := le30 _ _ hp17
          refine wp_ret ?_
          refine ret_rule (C := []) [] [] (.tuple #[.pointer (some ⟨(xs30 5).n 0, 0, none⟩), .pointer (some ⟨(xs30 11).n 0, 0, none⟩)]) [] [] s trivial (by kernel_rfl) ?_
          exact ⟨_, _, _, rfl, s, (by rw [cut_b (kind_nz (of_decide_eq_false hc6)) (kind_nz (of_decide_eq_false hc19))]; exact ⟨_, _, rfl, h30_5_0, h30_11_0⟩)⟩

theorem rsplit_c : ∀ (t : T) {I : IM} {k : Nat}, RT I t k → Fun Tryd.prog 58 #[.pointer (some ⟨k, 0, none⟩)] I (fun v J => ∃ k1 k2, v = .tuple #[.pointer (some ⟨k1, 0, none⟩), .pointer (some ⟨k2, 0, none⟩)] ∧ RT J (cutT t).1 k1 ∧ RT J (cutT t).2 k2)
  | .zero, _, _, h => rsplit_step h (fun l r h => by cases h)
  | .one, _, _, h => rsplit_step h (fun l r h => by cases h)
  | .node l r, _, _, h => rsplit_step h (fun l' r' e => by
      cases e
      exact ⟨fun {J} {k} a => rsplit_c l a, fun {J} {k} a => rsplit_c r a⟩)

end Go.Proofs.YtgdickihjaomjaaDoor
