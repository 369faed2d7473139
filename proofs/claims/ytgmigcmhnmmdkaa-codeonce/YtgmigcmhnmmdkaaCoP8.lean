/- The document's ids. -/
import Derived.Test.YtgmigcmhnmmdkaaCoP7
set_option linter.all false
set_option maxRecDepth 100000
namespace Go.Proofs.Ytgmigcmhnmmdkaa.Ev
open Go.RowKit Go.Sep

def kindT : T → Nat
  | .zero => 0
  | .one => 1
  | .node _ _ => 2
theorem RT.peek {I : IM} {t : T} {k : Nat} (h : RT I t k) : ∃ pl pr, I k = some (.cells #[.int .i64 ((kindT t : Nat) : Int), .pointer pl, .pointer pr] 84) := by
  cases t with
  | zero => exact ⟨_, _, h⟩
  | one => exact ⟨_, _, h⟩
  | node l r => obtain ⟨kl, kr, h, _, _⟩ := h; exact ⟨_, _, h⟩
theorem mk_same {l r : T} (h : kindT l = kindT r) (h2 : kindT l < 2) : T.mk l r = l := by
  cases l <;> cases r <;> simp_all [kindT, T.mk]
theorem mk_apart {l r : T} (h : kindT l ≠ kindT r) : T.mk l r = .node l r := by
  cases l <;> cases r <;> simp_all [kindT, T.mk]
theorem mk_deep {l r : T} (h : ¬ kindT l < 2) : T.mk l r = .node l r := by
  cases l <;> cases r <;> simp_all [kindT, T.mk]
set_option maxHeartbeats 400000 in
theorem rzero_c {I : IM} : Fun Try.prog 67 #[] I (fun v J => ∃ k, v = .pointer (some ⟨k, 0, none⟩) ∧ RT J T.zero k) := by
  refine enter_rule 3 [] Try.func67 rfl (by kernel_rfl) ?_
  intro w s
  refine wp_seq ?_
  refine region_rule ?_
  refine ops_rule (C := []) [] [] 1 [] 0 (fun φ1 => [(0, .pointer none)]) (fun φ1 => []) (fun φ1 => []) s trivial (fun φ1 => by kernel_rfl) ?_
  intro φ1 w1 s
  refine ops_done (by kernel_rfl) ?_
  refine wp_seq ?_
  refine region_rule ?_
  refine ops_rule (C := []) [] [] 3 [] 1 (fun φ2 => [(0, .pointer (some ⟨(φ2 0), 0, none⟩)), (2, .pointer (some ⟨(φ2 0), 0, none⟩)), (1, .agg #[.int .i64 0, .pointer none, .pointer none])]) (fun φ2 => [((φ2 0), .cells #[.int .i64 0, .pointer none, .pointer none] 84)]) (fun φ2 => []) s trivial (fun φ2 => by kernel_rfl) ?_
  intro φ2 w2 s
  refine ops_done (by kernel_rfl) ?_
  refine wp_ret ?_
  refine ret_rule (C := []) [((φ2 0), .cells #[.int .i64 0, .pointer none, .pointer none] 84)] [] (.pointer (some ⟨(φ2 0), 0, none⟩)) [] [] s trivial (by kernel_rfl) ?_
  obtain ⟨I3, le3, hk3, s⟩ := s.freezeAt 0 (φ2 0) (.cells #[.int .i64 0, .pointer none, .pointer none] 84) [] (by kernel_rfl) (by kernel_rfl)
  exact ⟨_, _, _, rfl, s, ⟨_, rfl, hk3⟩⟩

set_option maxHeartbeats 1000000 in
theorem rpair_c {I : IM} {l r : T} {kl kr : Nat} (hl : RT I l kl) (hr : RT I r kr) : Fun Try.prog 68 #[.pointer (some ⟨kl, 0, none⟩), .pointer (some ⟨kr, 0, none⟩)] I (fun v J => ∃ k, v = .pointer (some ⟨k, 0, none⟩) ∧ RT J (T.mk l r) k) := by
  refine enter_rule 26 [(0, .pointer (some ⟨kl, 0, none⟩)), (1, .pointer (some ⟨kr, 0, none⟩))] Try.func68 rfl (by kernel_rfl) ?_
  intro w s
  refine wp_seq ?_
  refine region_rule ?_
  refine ops_rule (C := []) [] [] 1 [] 0 (fun φ1 => [(4, .pointer none)]) (fun φ1 => []) (fun φ1 => []) s trivial (fun φ1 => by kernel_rfl) ?_
  intro φ1 w1 s
  refine ops_done (by kernel_rfl) ?_
  refine wp_seq ?_
  refine wp_seq ?_
  rcases Bool.eq_false_or_eq_true (decide ((kindT l) = (kindT r))) with hc4 | hc4
  ·
    obtain ⟨pl5, pr5, hp5⟩ := RT.peek hl
    obtain ⟨pl6, pr6, hp6⟩ := RT.peek hr
    refine draw_rule (C := [(kl, .cells #[.int .i64 ((kindT l : Nat) : Int), .pointer pl5, .pointer pr5] 84), (kr, .cells #[.int .i64 ((kindT r : Nat) : Int), .pointer pl6, .pointer pr6] 84)]) ⟨(fun φ5 xs5 => [.look 0 [] [], .look 0 [] [], .look 0 [] [], .look 0 [.c 0] [kl], .look 0 [] [], .look 0 [] [], .look 0 [] [], .look 0 [.c 1] [kr], .sub 0 [] [] (.bool (((kindT l : Nat) : Int) == ((kindT r : Nat) : Int))), .look 0 [] [], .look 0 [] [], .look 0 [] [], .look 0 [] [], .look 0 [.c 0] [kl], .sub 0 [] [] (.bool (decide (((kindT l : Nat) : Int) < ((2 : Nat) : Int)))), .look 0 [] []]), (fun φ5 xs5 => [.pointer (some ⟨kl, 0, none⟩), .pointer (some ⟨kl, 0, none⟩), .pointer (some ⟨kl, 0, none⟩), .int .i64 ((kindT l : Nat) : Int), .pointer (some ⟨kr, 0, none⟩), .pointer (some ⟨kr, 0, none⟩), .pointer (some ⟨kr, 0, none⟩), .int .i64 ((kindT r : Nat) : Int), .bool true, .bool true, .pointer (some ⟨kl, 0, none⟩), .pointer (some ⟨kl, 0, none⟩), .pointer (some ⟨kl, 0, none⟩), .int .i64 ((kindT l : Nat) : Int), .bool (decide ((kindT l) < 2)), .bool (decide ((kindT l) < 2))]), (fun φ5 xs5 => [[]]), (fun φ5 xs5 => [[default, default, default, default, default, default, default, default, default, default, default, default, default, default, default, default]]), [], [1, 1, 1, 1, 1, 1, 1, 1, 5, 1, 1, 1, 1, 1, 5, 1]⟩ (fun j => ([MP.any, MP.any, MP.any, MP.any, MP.any, MP.any, MP.any, MP.any, MP.any, MP.any, MP.any, MP.any, MP.any, MP.any, MP.any, MP.any] : List MP).getD j MP.any) [] [8, 14] [] (fun φ5 xs5 => []) (fun φ5 xs5 => [(5, .pointer (some ⟨kl, 0, none⟩)), (6, .pointer (some ⟨kl, 0, none⟩)), (7, .pointer (some ⟨kl, 0, none⟩)), (8, .int .i64 ((kindT l : Nat) : Int)), (9, .pointer (some ⟨kr, 0, none⟩)), (10, .pointer (some ⟨kr, 0, none⟩)), (11, .pointer (some ⟨kr, 0, none⟩)), (12, .int .i64 ((kindT r : Nat) : Int)), (13, .bool true), (14, .bool true), (15, .pointer (some ⟨kl, 0, none⟩)), (16, .pointer (some ⟨kl, 0, none⟩)), (17, .pointer (some ⟨kl, 0, none⟩)), (18, .int .i64 ((kindT l : Nat) : Int)), (19, .bool (decide ((kindT l) < 2))), (20, .bool (decide ((kindT l) < 2)))]) (fun φ5 xs5 => []) s ⟨hp5, ⟨hp6, trivial⟩⟩ (by kernel_rfl) (by kernel_rfl) (fun _ _ => by kernel_rfl) (fun _ _ => by kernel_rfl) ⟨fun _ _ => by kernel_rfl, fun _ _ => by kernel_rfl, fun _ _ => by kernel_rfl, fun _ _ => by kernel_rfl⟩ (fun _ _ _ => by kernel_rfl) (fun _ _ => by kernel_rfl) (fun _ _ => by kernel_rfl) (fun _ _ => by kernel_rfl) (fun _ _ => by kernel_rfl) (fun _ _ => by kernel_rfl) ⟨kcast (A := ∀ (φ5 : Nat → Nat) (xs5 : Xs), (.bool (((kindT l : Nat) : Int) == ((kindT r : Nat) : Int)) : Value) = .bool true) (by kernel_rfl) (fun φ5 xs5 => congrArg Value.bool ((nat_eql (a := (kindT l)) (b := (kindT r))).trans (hc4))), ⟨kcast (A := ∀ (φ5 : Nat → Nat) (xs5 : Xs), (.bool (decide (((kindT l : Nat) : Int) < ((2 : Nat) : Int))) : Value) = .bool (decide ((kindT l) < 2))) (by kernel_rfl) (fun φ5 xs5 => congrArg Value.bool ((nat_lss (a := (kindT l)) (b := 2)))), trivial⟩⟩ trivial (by kernel_rfl) trivial ?k5
    case k5 =>
      rintro φ5 xs5 I5 w5 le5 s 
      replace hl := RT.mono le5 hl
      replace hr := RT.mono le5 hr
      replace hp5 := le5 _ _ hp5
      replace hp6 := le5 _ _ hp6
      rcases Bool.eq_false_or_eq_true (decide ((kindT l) < 2)) with hc8 | hc8
      ·
        rw [hc8]
        refine cond_true_rule (b := true) (by kernel_rfl) rfl ?_
        refine wp_seq ?_
        refine region_rule ?_
        refine ops_rule (C := []) [] [] 2 [] 0 (fun φ9 => [(4, .pointer (some ⟨kl, 0, none⟩)), (21, .pointer (some ⟨kl, 0, none⟩))]) (fun φ9 => []) (fun φ9 => []) s trivial (fun φ9 => by kernel_rfl) ?_
        intro φ9 w9 s
        refine ops_done (by kernel_rfl) ?_
        refine wp_ret ?_
        refine ret_rule (C := []) [] [] (.pointer (some ⟨kl, 0, none⟩)) [] [] s trivial (by kernel_rfl) ?_
        exact ⟨_, _, _, rfl, s, ⟨_, rfl, by rw [mk_same (of_decide_eq_true hc4) (of_decide_eq_true hc8)]; exact hl⟩⟩
      ·
        rw [hc8]
        refine cond_false_rule (b := false) (by kernel_rfl) rfl ?_
        refine wp_skip ?_
        refine wp_seq ?_
        refine region_rule ?_
        refine ops_rule (C := []) [] [] 5 [] 1 (fun φ10 => [(4, .pointer (some ⟨(φ10 0), 0, none⟩)), (25, .pointer (some ⟨(φ10 0), 0, none⟩)), (24, .agg #[.int .i64 2, .pointer (some ⟨kl, 0, none⟩), .pointer (some ⟨kr, 0, none⟩)]), (23, .pointer (some ⟨kr, 0, none⟩)), (22, .pointer (some ⟨kl, 0, none⟩))]) (fun φ10 => [((φ10 0), .cells #[.int .i64 2, .pointer (some ⟨kl, 0, none⟩), .pointer (some ⟨kr, 0, none⟩)] 84)]) (fun φ10 => []) s trivial (fun φ10 => by kernel_rfl) ?_
        intro φ10 w10 s
        refine ops_done (by kernel_rfl) ?_
        refine wp_ret ?_
        refine ret_rule (C := []) [((φ10 0), .cells #[.int .i64 2, .pointer (some ⟨kl, 0, none⟩), .pointer (some ⟨kr, 0, none⟩)] 84)] [] (.pointer (some ⟨(φ10 0), 0, none⟩)) [] [] s trivial (by kernel_rfl) ?_
        obtain ⟨I11, le11, hk11, s⟩ := s.freezeAt 0 (φ10 0) (.cells #[.int .i64 2, .pointer (some ⟨kl, 0, none⟩), .pointer (some ⟨kr, 0, none⟩)] 84) [] (by kernel_rfl) (by kernel_rfl)
        replace hl := RT.mono le11 hl
        replace hr := RT.mono le11 hr
        replace hp5 := le11 _ _ hp5
        replace hp6 := le11 _ _ hp6
        exact ⟨_, _, _, rfl, s, ⟨_, rfl, by rw [mk_deep (of_decide_eq_false hc8)]; exact ⟨_, _, hk11, hl, hr⟩⟩⟩
  ·
    obtain ⟨pl12, pr12, hp12⟩ := RT.peek hl
    obtain ⟨pl13, pr13, hp13⟩ := RT.peek hr
    refine draw_rule (C := [(kl, .cells #[.int .i64 ((kindT l : Nat) : Int), .pointer pl12, .pointer pr12] 84), (kr, .cells #[.int .i64 ((kindT r : Nat) : Int), .pointer pl13, .pointer pr13] 84)]) ⟨(fun φ12 xs12 => [.look 0 [] [], .look 0 [] [], .look 0 [] [], .look 0 [.c 0] [kl], .look 0 [] [], .look 0 [] [], .look 0 [] [], .look 0 [.c 1] [kr], .sub 0 [] [] (.bool (((kindT l : Nat) : Int) == ((kindT r : Nat) : Int))), .look 0 [] [], .skip, .skip, .skip, .skip, .skip, .look 0 [] []]), (fun φ12 xs12 => [.pointer (some ⟨kl, 0, none⟩), .pointer (some ⟨kl, 0, none⟩), .pointer (some ⟨kl, 0, none⟩), .int .i64 ((kindT l : Nat) : Int), .pointer (some ⟨kr, 0, none⟩), .pointer (some ⟨kr, 0, none⟩), .pointer (some ⟨kr, 0, none⟩), .int .i64 ((kindT r : Nat) : Int), .bool false, .bool false, undef, undef, undef, undef, undef, .bool false]), (fun φ12 xs12 => [[]]), (fun φ12 xs12 => [[default, default, default, default, default, default, default, default, default, default, default, default, default, default, default, default]]), [], [1, 1, 1, 1, 1, 1, 1, 1, 5, 1, 0, 0, 0, 0, 0, 1]⟩ (fun j => ([MP.any, MP.any, MP.any, MP.any, MP.any, MP.any, MP.any, MP.any, MP.any, MP.any, MP.any, MP.any, MP.any, MP.any, MP.any, MP.any] : List MP).getD j MP.any) [] [8] [] (fun φ12 xs12 => []) (fun φ12 xs12 => [(5, .pointer (some ⟨kl, 0, none⟩)), (6, .pointer (some ⟨kl, 0, none⟩)), (7, .pointer (some ⟨kl, 0, none⟩)), (8, .int .i64 ((kindT l : Nat) : Int)), (9, .pointer (some ⟨kr, 0, none⟩)), (10, .pointer (some ⟨kr, 0, none⟩)), (11, .pointer (some ⟨kr, 0, none⟩)), (12, .int .i64 ((kindT r : Nat) : Int)), (13, .bool false), (14, .bool false), (15, undef), (16, undef), (17, undef), (18, undef), (19, undef), (20, .bool false)]) (fun φ12 xs12 => []) s ⟨hp12, ⟨hp13, trivial⟩⟩ (by kernel_rfl) (by kernel_rfl) (fun _ _ => by kernel_rfl) (fun _ _ => by kernel_rfl) ⟨fun _ _ => by kernel_rfl, fun _ _ => by kernel_rfl, fun _ _ => by kernel_rfl, fun _ _ => by kernel_rfl⟩ (fun _ _ _ => by kernel_rfl) (fun _ _ => by kernel_rfl) (fun _ _ => by kernel_rfl) (fun _ _ => by kernel_rfl) (fun _ _ => by kernel_rfl) (fun _ _ => by kernel_rfl) ⟨kcast (A := ∀ (φ12 : Nat → Nat) (xs12 : Xs), (.bool (((kindT l : Nat) : Int) == ((kindT r : Nat) : Int)) : Value) = .bool false) (by kernel_rfl) (fun φ12 xs12 => congrArg Value.bool ((nat_eql (a := (kindT l)) (b := (kindT r))).trans (hc4))), trivial⟩ trivial (by kernel_rfl) trivial ?k12
    case k12 =>
      rintro φ12 xs12 I12 w12 le12 s 
      replace hl := RT.mono le12 hl
      replace hr := RT.mono le12 hr
      replace hp12 := le12 _ _ hp12
      replace hp13 := le12 _ _ hp13
      refine cond_false_rule (b := false) (by kernel_rfl) rfl ?_
      refine wp_skip ?_
      refine wp_seq ?_
      refine region_rule ?_
      refine ops_rule (C := []) [] [] 5 [] 1 (fun φ15 => [(4, .pointer (some ⟨(φ15 0), 0, none⟩)), (25, .pointer (some ⟨(φ15 0), 0, none⟩)), (24, .agg #[.int .i64 2, .pointer (some ⟨kl, 0, none⟩), .pointer (some ⟨kr, 0, none⟩)]), (23, .pointer (some ⟨kr, 0, none⟩)), (22, .pointer (some ⟨kl, 0, none⟩))]) (fun φ15 => [((φ15 0), .cells #[.int .i64 2, .pointer (some ⟨kl, 0, none⟩), .pointer (some ⟨kr, 0, none⟩)] 84)]) (fun φ15 => []) s trivial (fun φ15 => by kernel_rfl) ?_
      intro φ15 w15 s
      refine ops_done (by kernel_rfl) ?_
      refine wp_ret ?_
      refine ret_rule (C := []) [((φ15 0), .cells #[.int .i64 2, .pointer (some ⟨kl, 0, none⟩), .pointer (some ⟨kr, 0, none⟩)] 84)] [] (.pointer (some ⟨(φ15 0), 0, none⟩)) [] [] s trivial (by kernel_rfl) ?_
      obtain ⟨I16, le16, hk16, s⟩ := s.freezeAt 0 (φ15 0) (.cells #[.int .i64 2, .pointer (some ⟨kl, 0, none⟩), .pointer (some ⟨kr, 0, none⟩)] 84) [] (by kernel_rfl) (by kernel_rfl)
      replace hl := RT.mono le16 hl
      replace hr := RT.mono le16 hr
      replace hp12 := le16 _ _ hp12
      replace hp13 := le16 _ _ hp13
      exact ⟨_, _, _, rfl, s, ⟨_, rfl, by rw [mk_apart (of_decide_eq_false hc4)]; exact ⟨_, _, hk16, hl, hr⟩⟩⟩

end Go.Proofs.Ytgmigcmhnmmdkaa.Ev

