/- The document's halves of ids and events. -/
import Derived.Test.YtgdickihjaomjaaSwM20
set_option linter.all false
set_option maxRecDepth 100000
namespace Go.Proofs.Ytgdickihjaomjaa.Ev
open Go.RowKit Go.Sep
attribute [local irreducible] Go.wpList Go.Code.wp
theorem rleft_c {I : IM} {t : T} {k : Nat} (h : RT I t k) : Fun Try.prog 52 #[.pointer (some ⟨k, 0, none⟩)] I (fun v J => ∃ k, v = .pointer (some ⟨k, 0, none⟩) ∧ RT J t.left k) := by
  cases t with
  | zero =>
    have hz : RT _ T.zero k := h
    refine enter_rule 13 [(0, .pointer (some ⟨k, 0, none⟩))] Try.func52 rfl (by kernel_rfl) ?_
    intro w s
    refine wp_seq ?_
    refine region_rule ?_
    refine ops_rule (C := []) [] [] 1 [] 0 (fun φ1 => [(2, .pointer none)]) (fun φ1 => []) (fun φ1 => []) s trivial (fun φ1 => by kernel_rfl) ?_
    intro φ1 w1 s
    refine ops_done (by kernel_rfl) ?_
    refine wp_seq ?_
    refine wp_seq ?_
    refine region_rule ?_
    refine ops_rule (C := [(k, .cells #[.int .i64 0, .pointer none, .pointer none] 73)]) [] [] 5 [.c 0] 0 (fun φ2 => [(7, .bool true), (6, .int .i64 0), (5, .pointer (some ⟨k, 0, none⟩)), (4, .pointer (some ⟨k, 0, none⟩)), (3, .pointer (some ⟨k, 0, none⟩))]) (fun φ2 => []) (fun φ2 => [k]) s ⟨h, trivial⟩ (fun φ2 => by kernel_rfl) ?_
    intro φ2 w2 s
    refine ops_done (by kernel_rfl) ?_
    refine cond_true_rule (b := true) (by kernel_rfl) rfl ?_
    refine wp_seq ?_
    refine region_rule ?_
    refine ops_rule (C := []) [] [] 2 [] 0 (fun φ3 => [(2, .pointer (some ⟨k, 0, none⟩)), (8, .pointer (some ⟨k, 0, none⟩))]) (fun φ3 => []) (fun φ3 => []) s trivial (fun φ3 => by kernel_rfl) ?_
    intro φ3 w3 s
    refine ops_done (by kernel_rfl) ?_
    refine wp_ret ?_
    refine ret_rule (C := []) [] [] (.pointer (some ⟨k, 0, none⟩)) [] [] s trivial (by kernel_rfl) ?_
    exact ⟨_, _, _, rfl, s, ⟨_, rfl, hz⟩⟩
  | one =>
    have hz : RT _ T.one k := h
    refine enter_rule 13 [(0, .pointer (some ⟨k, 0, none⟩))] Try.func52 rfl (by kernel_rfl) ?_
    intro w s
    refine wp_seq ?_
    refine region_rule ?_
    refine ops_rule (C := []) [] [] 1 [] 0 (fun φ1 => [(2, .pointer none)]) (fun φ1 => []) (fun φ1 => []) s trivial (fun φ1 => by kernel_rfl) ?_
    intro φ1 w1 s
    refine ops_done (by kernel_rfl) ?_
    refine wp_seq ?_
    refine wp_seq ?_
    refine region_rule ?_
    refine ops_rule (C := [(k, .cells #[.int .i64 1, .pointer none, .pointer none] 73)]) [] [] 5 [.c 0] 0 (fun φ2 => [(7, .bool true), (6, .int .i64 1), (5, .pointer (some ⟨k, 0, none⟩)), (4, .pointer (some ⟨k, 0, none⟩)), (3, .pointer (some ⟨k, 0, none⟩))]) (fun φ2 => []) (fun φ2 => [k]) s ⟨h, trivial⟩ (fun φ2 => by kernel_rfl) ?_
    intro φ2 w2 s
    refine ops_done (by kernel_rfl) ?_
    refine cond_true_rule (b := true) (by kernel_rfl) rfl ?_
    refine wp_seq ?_
    refine region_rule ?_
    refine ops_rule (C := []) [] [] 2 [] 0 (fun φ3 => [(2, .pointer (some ⟨k, 0, none⟩)), (8, .pointer (some ⟨k, 0, none⟩))]) (fun φ3 => []) (fun φ3 => []) s trivial (fun φ3 => by kernel_rfl) ?_
    intro φ3 w3 s
    refine ops_done (by kernel_rfl) ?_
    refine wp_ret ?_
    refine ret_rule (C := []) [] [] (.pointer (some ⟨k, 0, none⟩)) [] [] s trivial (by kernel_rfl) ?_
    exact ⟨_, _, _, rfl, s, ⟨_, rfl, hz⟩⟩
  | node l r =>
    obtain ⟨kl, kr, hk, hl, hr⟩ := h
    refine enter_rule 13 [(0, .pointer (some ⟨k, 0, none⟩))] Try.func52 rfl (by kernel_rfl) ?_
    intro w s
    refine wp_seq ?_
    refine region_rule ?_
    refine ops_rule (C := []) [] [] 1 [] 0 (fun φ1 => [(2, .pointer none)]) (fun φ1 => []) (fun φ1 => []) s trivial (fun φ1 => by kernel_rfl) ?_
    intro φ1 w1 s
    refine ops_done (by kernel_rfl) ?_
    refine wp_seq ?_
    refine wp_seq ?_
    refine region_rule ?_
    refine ops_rule (C := [(k, .cells #[.int .i64 2, .pointer (some ⟨kl, 0, none⟩), .pointer (some ⟨kr, 0, none⟩)] 73)]) [] [] 5 [.c 0] 0 (fun φ2 => [(7, .bool false), (6, .int .i64 2), (5, .pointer (some ⟨k, 0, none⟩)), (4, .pointer (some ⟨k, 0, none⟩)), (3, .pointer (some ⟨k, 0, none⟩))]) (fun φ2 => []) (fun φ2 => [k]) s ⟨hk, trivial⟩ (fun φ2 => by kernel_rfl) ?_
    intro φ2 w2 s
    refine ops_done (by kernel_rfl) ?_
    refine cond_false_rule (b := false) (by kernel_rfl) rfl ?_
    refine wp_skip ?_
    refine wp_seq ?_
    refine region_rule ?_
    refine ops_rule (C := [(k, .cells #[.int .i64 2, .pointer (some ⟨kl, 0, none⟩), .pointer (some ⟨kr, 0, none⟩)] 73)]) [] [] 5 [.c 0] 0 (fun φ3 => [(2, .pointer (some ⟨kl, 0, none⟩)), (12, .pointer (some ⟨kl, 0, none⟩)), (11, .pointer (some ⟨k, 1, none⟩)), (10, .pointer (some ⟨k, 0, none⟩)), (9, .pointer (some ⟨k, 0, none⟩))]) (fun φ3 => []) (fun φ3 => [k]) s ⟨hk, trivial⟩ (fun φ3 => by kernel_rfl) ?_
    intro φ3 w3 s
    refine ops_done (by kernel_rfl) ?_
    refine wp_ret ?_
    refine ret_rule (C := []) [] [] (.pointer (some ⟨kl, 0, none⟩)) [] [] s trivial (by kernel_rfl) ?_
    exact ⟨_, _, _, rfl, s, ⟨_, rfl, hl⟩⟩

theorem rright_c {I : IM} {t : T} {k : Nat} (h : RT I t k) : Fun Try.prog 54 #[.pointer (some ⟨k, 0, none⟩)] I (fun v J => ∃ k, v = .pointer (some ⟨k, 0, none⟩) ∧ RT J t.right k) := by
  cases t with
  | zero =>
    have hz : RT _ T.zero k := h
    refine enter_rule 13 [(0, .pointer (some ⟨k, 0, none⟩))] Try.func54 rfl (by kernel_rfl) ?_
    intro w s
    refine wp_seq ?_
    refine region_rule ?_
    refine ops_rule (C := []) [] [] 1 [] 0 (fun φ1 => [(2, .pointer none)]) (fun φ1 => []) (fun φ1 => []) s trivial (fun φ1 => by kernel_rfl) ?_
    intro φ1 w1 s
    refine ops_done (by kernel_rfl) ?_
    refine wp_seq ?_
    refine wp_seq ?_
    refine region_rule ?_
    refine ops_rule (C := [(k, .cells #[.int .i64 0, .pointer none, .pointer none] 73)]) [] [] 5 [.c 0] 0 (fun φ2 => [(7, .bool true), (6, .int .i64 0), (5, .pointer (some ⟨k, 0, none⟩)), (4, .pointer (some ⟨k, 0, none⟩)), (3, .pointer (some ⟨k, 0, none⟩))]) (fun φ2 => []) (fun φ2 => [k]) s ⟨h, trivial⟩ (fun φ2 => by kernel_rfl) ?_
    intro φ2 w2 s
    refine ops_done (by kernel_rfl) ?_
    refine cond_true_rule (b := true) (by kernel_rfl) rfl ?_
    refine wp_seq ?_
    refine region_rule ?_
    refine ops_rule (C := []) [] [] 2 [] 0 (fun φ3 => [(2, .pointer (some ⟨k, 0, none⟩)), (8, .pointer (some ⟨k, 0, none⟩))]) (fun φ3 => []) (fun φ3 => []) s trivial (fun φ3 => by kernel_rfl) ?_
    intro φ3 w3 s
    refine ops_done (by kernel_rfl) ?_
    refine wp_ret ?_
    refine ret_rule (C := []) [] [] (.pointer (some ⟨k, 0, none⟩)) [] [] s trivial (by kernel_rfl) ?_
    exact ⟨_, _, _, rfl, s, ⟨_, rfl, hz⟩⟩
  | one =>
    have hz : RT _ T.one k := h
    refine enter_rule 13 [(0, .pointer (some ⟨k, 0, none⟩))] Try.func54 rfl (by kernel_rfl) ?_
    intro w s
    refine wp_seq ?_
    refine region_rule ?_
    refine ops_rule (C := []) [] [] 1 [] 0 (fun φ1 => [(2, .pointer none)]) (fun φ1 => []) (fun φ1 => []) s trivial (fun φ1 => by kernel_rfl) ?_
    intro φ1 w1 s
    refine ops_done (by kernel_rfl) ?_
    refine wp_seq ?_
    refine wp_seq ?_
    refine region_rule ?_
    refine ops_rule (C := [(k, .cells #[.int .i64 1, .pointer none, .pointer none] 73)]) [] [] 5 [.c 0] 0 (fun φ2 => [(7, .bool true), (6, .int .i64 1), (5, .pointer (some ⟨k, 0, none⟩)), (4, .pointer (some ⟨k, 0, none⟩)), (3, .pointer (some ⟨k, 0, none⟩))]) (fun φ2 => []) (fun φ2 => [k]) s ⟨h, trivial⟩ (fun φ2 => by kernel_rfl) ?_
    intro φ2 w2 s
    refine ops_done (by kernel_rfl) ?_
    refine cond_true_rule (b := true) (by kernel_rfl) rfl ?_
    refine wp_seq ?_
    refine region_rule ?_
    refine ops_rule (C := []) [] [] 2 [] 0 (fun φ3 => [(2, .pointer (some ⟨k, 0, none⟩)), (8, .pointer (some ⟨k, 0, none⟩))]) (fun φ3 => []) (fun φ3 => []) s trivial (fun φ3 => by kernel_rfl) ?_
    intro φ3 w3 s
    refine ops_done (by kernel_rfl) ?_
    refine wp_ret ?_
    refine ret_rule (C := []) [] [] (.pointer (some ⟨k, 0, none⟩)) [] [] s trivial (by kernel_rfl) ?_
    exact ⟨_, _, _, rfl, s, ⟨_, rfl, hz⟩⟩
  | node l r =>
    obtain ⟨kl, kr, hk, hl, hr⟩ := h
    refine enter_rule 13 [(0, .pointer (some ⟨k, 0, none⟩))] Try.func54 rfl (by kernel_rfl) ?_
    intro w s
    refine wp_seq ?_
    refine region_rule ?_
    refine ops_rule (C := []) [] [] 1 [] 0 (fun φ1 => [(2, .pointer none)]) (fun φ1 => []) (fun φ1 => []) s trivial (fun φ1 => by kernel_rfl) ?_
    intro φ1 w1 s
    refine ops_done (by kernel_rfl) ?_
    refine wp_seq ?_
    refine wp_seq ?_
    refine region_rule ?_
    refine ops_rule (C := [(k, .cells #[.int .i64 2, .pointer (some ⟨kl, 0, none⟩), .pointer (some ⟨kr, 0, none⟩)] 73)]) [] [] 5 [.c 0] 0 (fun φ2 => [(7, .bool false), (6, .int .i64 2), (5, .pointer (some ⟨k, 0, none⟩)), (4, .pointer (some ⟨k, 0, none⟩)), (3, .pointer (some ⟨k, 0, none⟩))]) (fun φ2 => []) (fun φ2 => [k]) s ⟨hk, trivial⟩ (fun φ2 => by kernel_rfl) ?_
    intro φ2 w2 s
    refine ops_done (by kernel_rfl) ?_
    refine cond_false_rule (b := false) (by kernel_rfl) rfl ?_
    refine wp_skip ?_
    refine wp_seq ?_
    refine region_rule ?_
    refine ops_rule (C := [(k, .cells #[.int .i64 2, .pointer (some ⟨kl, 0, none⟩), .pointer (some ⟨kr, 0, none⟩)] 73)]) [] [] 5 [.c 0] 0 (fun φ3 => [(2, .pointer (some ⟨kr, 0, none⟩)), (12, .pointer (some ⟨kr, 0, none⟩)), (11, .pointer (some ⟨k, 2, none⟩)), (10, .pointer (some ⟨k, 0, none⟩)), (9, .pointer (some ⟨k, 0, none⟩))]) (fun φ3 => []) (fun φ3 => [k]) s ⟨hk, trivial⟩ (fun φ3 => by kernel_rfl) ?_
    intro φ3 w3 s
    refine ops_done (by kernel_rfl) ?_
    refine wp_ret ?_
    refine ret_rule (C := []) [] [] (.pointer (some ⟨kr, 0, none⟩)) [] [] s trivial (by kernel_rfl) ?_
    exact ⟨_, _, _, rfl, s, ⟨_, rfl, hr⟩⟩

set_option maxHeartbeats 1000000 in
theorem radd_c {I : IM} {e : E} {k m : Nat} (h : RE I e k) (ht : e.top + m < 18446744073709551616) : Fun Try.prog 68 #[.pointer (some ⟨k, 0, none⟩), .int .u64 ((m : Nat) : Int)] I (fun v J => ∃ k, v = .pointer (some ⟨k, 0, none⟩) ∧ RE J (E.up m e) k) := by
  cases e with
  | leaf n =>
    have h0 : RE _ (E.leaf n) k := h
    have hb9 : n ≤ (E.leaf n).top := E.base_le (E.leaf n)
    refine enter_rule 21 [(0, .pointer (some ⟨k, 0, none⟩)), (1, .int .u64 ((m : Nat) : Int))] Try.func68 rfl (by kernel_rfl) ?_
    intro w s
    refine wp_seq ?_
    refine region_rule ?_
    refine ops_rule (C := []) [] [] 1 [] 0 (fun φ1 => [(4, .pointer none)]) (fun φ1 => []) (fun φ1 => []) s trivial (fun φ1 => by kernel_rfl) ?_
    intro φ1 w1 s
    refine ops_done (by kernel_rfl) ?_
    refine wp_seq ?_
    refine draw_rule (C := [(k, .cells #[.int .u64 ((n : Nat) : Int), .pointer none, .pointer none] 86)]) ⟨(fun φ2 xs2 => [.look 0 [] [], .look 0 [] [], .look 0 [] [], .look 0 [.c 0] [k], .look 0 [] [], .sub 0 [] [] (.int .u64 (IntKind.wrap .u64 (((n : Nat) : Int) + ((m : Nat) : Int)))), .look 0 [] [], .look 0 [] [], .look 0 [] [], .look 0 [.c 0] [k], .look 0 [] [], .look 0 [] [], .look 0 [] [], .look 0 [.c 0] [k], .look 0 [] [], .new, .look 0 [] []]), (fun φ2 xs2 => [.pointer (some ⟨k, 0, none⟩), .pointer (some ⟨k, 0, none⟩), .pointer (some ⟨k, 0, none⟩), .int .u64 ((n : Nat) : Int), .int .u64 ((m : Nat) : Int), .int .u64 ((n + m : Nat) : Int), .pointer (some ⟨k, 0, none⟩), .pointer (some ⟨k, 0, none⟩), .pointer (some ⟨k, 1, none⟩), .pointer none, .pointer (some ⟨k, 0, none⟩), .pointer (some ⟨k, 0, none⟩), .pointer (some ⟨k, 2, none⟩), .pointer none, .agg #[.int .u64 ((n + m : Nat) : Int), .pointer none, .pointer none], .pointer (some ⟨(φ2 15), 0, none⟩), .pointer (some ⟨(φ2 15), 0, none⟩)]), (fun φ2 xs2 => [[]]), (fun φ2 xs2 => [[default, default, default, default, default, default, default, default, default, default, default, default, default, default, default, .cells #[.int .u64 ((n + m : Nat) : Int), .pointer none, .pointer none] 86, default]]), [], [1, 1, 1, 1, 1, 5, 1, 1, 1, 1, 1, 1, 1, 1, 1, 2, 1]⟩ (fun j => ([MP.any, MP.any, MP.any, MP.any, MP.any, MP.any, MP.any, MP.any, MP.any, MP.any, MP.any, MP.any, MP.any, MP.any, MP.any, MP.any, MP.any] : List MP).getD j MP.any) [] [5] [] (fun φ2 xs2 => []) (fun φ2 xs2 => [(5, .pointer (some ⟨k, 0, none⟩)), (6, .pointer (some ⟨k, 0, none⟩)), (7, .pointer (some ⟨k, 0, none⟩)), (8, .int .u64 ((n : Nat) : Int)), (9, .int .u64 ((m : Nat) : Int)), (10, .int .u64 ((n + m : Nat) : Int)), (11, .pointer (some ⟨k, 0, none⟩)), (12, .pointer (some ⟨k, 0, none⟩)), (13, .pointer (some ⟨k, 1, none⟩)), (14, .pointer none), (15, .pointer (some ⟨k, 0, none⟩)), (16, .pointer (some ⟨k, 0, none⟩)), (17, .pointer (some ⟨k, 2, none⟩)), (18, .pointer none), (19, .agg #[.int .u64 ((n + m : Nat) : Int), .pointer none, .pointer none]), (20, .pointer (some ⟨(φ2 15), 0, none⟩)), (4, .pointer (some ⟨(φ2 15), 0, none⟩))]) (fun φ2 xs2 => [((φ2 15), .cells #[.int .u64 ((n + m : Nat) : Int), .pointer none, .pointer none] 86)]) s ⟨h, trivial⟩ (by kernel_rfl) (by kernel_rfl) (fun _ _ => by kernel_rfl) (fun _ _ => by kernel_rfl) ⟨fun _ _ => by kernel_rfl, fun _ _ => by kernel_rfl, fun _ _ => by kernel_rfl, fun _ _ => by kernel_rfl⟩ (fun _ _ _ => by kernel_rfl) (fun _ _ => by kernel_rfl) (fun _ _ => by kernel_rfl) (fun _ _ => by kernel_rfl) (fun _ _ => by kernel_rfl) (fun _ _ => by kernel_rfl) ⟨kcast (A := ∀ (φ2 : Nat → Nat) (xs2 : Xs), (.int .u64 (IntKind.wrap .u64 (((n : Nat) : Int) + ((m : Nat) : Int))) : Value) = .int .u64 ((n + m : Nat) : Int)) (by kernel_rfl) (fun φ2 xs2 => congrArg (Value.int .u64) ((nat_addU (a := n) (b := m) (by omega)))), trivial⟩ trivial (by kernel_rfl) trivial ?k2
    case k2 =>
      rintro φ2 xs2 I2 w2 le2 s 
      replace h0 := RE.mono le2 h0
      replace h := le2 _ _ h
      refine wp_ret ?_
      refine ret_rule (C := []) [((φ2 15), .cells #[.int .u64 ((n + m : Nat) : Int), .pointer none, .pointer none] 86)] [] (.pointer (some ⟨(φ2 15), 0, none⟩)) [] [] s trivial (by kernel_rfl) ?_
      obtain ⟨I3, le3, hk3, s⟩ := s.freezeAt 0 (φ2 15) (.cells #[.int .u64 ((n + m : Nat) : Int), .pointer none, .pointer none] 86) [] (by kernel_rfl) (by kernel_rfl)
      replace h0 := RE.mono le3 h0
      replace h := le3 _ _ h
      exact ⟨_, _, _, rfl, s, ⟨_, rfl, hk3⟩⟩
  | node n l r =>
    have h0 : RE _ (E.node n l r) k := h
    obtain ⟨kl, kr, hk, hl, hr⟩ := h
    have hb9 : n ≤ (E.node n l r).top := E.base_le (E.node n l r)
    refine enter_rule 21 [(0, .pointer (some ⟨k, 0, none⟩)), (1, .int .u64 ((m : Nat) : Int))] Try.func68 rfl (by kernel_rfl) ?_
    intro w s
    refine wp_seq ?_
    refine region_rule ?_
    refine ops_rule (C := []) [] [] 1 [] 0 (fun φ1 => [(4, .pointer none)]) (fun φ1 => []) (fun φ1 => []) s trivial (fun φ1 => by kernel_rfl) ?_
    intro φ1 w1 s
    refine ops_done (by kernel_rfl) ?_
    refine wp_seq ?_
    refine draw_rule (C := [(k, .cells #[.int .u64 ((n : Nat) : Int), .pointer (some ⟨kl, 0, none⟩), .pointer (some ⟨kr, 0, none⟩)] 86)]) ⟨(fun φ2 xs2 => [.look 0 [] [], .look 0 [] [], .look 0 [] [], .look 0 [.c 0] [k], .look 0 [] [], .sub 0 [] [] (.int .u64 (IntKind.wrap .u64 (((n : Nat) : Int) + ((m : Nat) : Int)))), .look 0 [] [], .look 0 [] [], .look 0 [] [], .look 0 [.c 0] [k], .look 0 [] [], .look 0 [] [], .look 0 [] [], .look 0 [.c 0] [k], .look 0 [] [], .new, .look 0 [] []]), (fun φ2 xs2 => [.pointer (some ⟨k, 0, none⟩), .pointer (some ⟨k, 0, none⟩), .pointer (some ⟨k, 0, none⟩), .int .u64 ((n : Nat) : Int), .int .u64 ((m : Nat) : Int), .int .u64 ((n + m : Nat) : Int), .pointer (some ⟨k, 0, none⟩), .pointer (some ⟨k, 0, none⟩), .pointer (some ⟨k, 1, none⟩), .pointer (some ⟨kl, 0, none⟩), .pointer (some ⟨k, 0, none⟩), .pointer (some ⟨k, 0, none⟩), .pointer (some ⟨k, 2, none⟩), .pointer (some ⟨kr, 0, none⟩), .agg #[.int .u64 ((n + m : Nat) : Int), .pointer (some ⟨kl, 0, none⟩), .pointer (some ⟨kr, 0, none⟩)], .pointer (some ⟨(φ2 15), 0, none⟩), .pointer (some ⟨(φ2 15), 0, none⟩)]), (fun φ2 xs2 => [[]]), (fun φ2 xs2 => [[default, default, default, default, default, default, default, default, default, default, default, default, default, default, default, .cells #[.int .u64 ((n + m : Nat) : Int), .pointer (some ⟨kl, 0, none⟩), .pointer (some ⟨kr, 0, none⟩)] 86, default]]), [], [1, 1, 1, 1, 1, 5, 1, 1, 1, 1, 1, 1, 1, 1, 1, 2, 1]⟩ (fun j => ([MP.any, MP.any, MP.any, MP.any, MP.any, MP.any, MP.any, MP.any, MP.any, MP.any, MP.any, MP.any, MP.any, MP.any, MP.any, MP.any, MP.any] : List MP).getD j MP.any) [] [5] [] (fun φ2 xs2 => []) (fun φ2 xs2 => [(5, .pointer (some ⟨k, 0, none⟩)), (6, .pointer (some ⟨k, 0, none⟩)), (7, .pointer (some ⟨k, 0, none⟩)), (8, .int .u64 ((n : Nat) : Int)), (9, .int .u64 ((m : Nat) : Int)), (10, .int .u64 ((n + m : Nat) : Int)), (11, .pointer (some ⟨k, 0, none⟩)), (12, .pointer (some ⟨k, 0, none⟩)), (13, .pointer (some ⟨k, 1, none⟩)), (14, .pointer (some ⟨kl, 0, none⟩)), (15, .pointer (some ⟨k, 0, none⟩)), (16, .pointer (some ⟨k, 0, none⟩)), (17, .pointer (some ⟨k, 2, none⟩)), (18, .pointer (some ⟨kr, 0, none⟩)), (19, .agg #[.int .u64 ((n + m : Nat) : Int), .pointer (some ⟨kl, 0, none⟩), .pointer (some ⟨kr, 0, none⟩)]), (20, .pointer (some ⟨(φ2 15), 0, none⟩)), (4, .pointer (some ⟨(φ2 15), 0, none⟩))]) (fun φ2 xs2 => [((φ2 15), .cells #[.int .u64 ((n + m : Nat) : Int), .pointer (some ⟨kl, 0, none⟩), .pointer (some ⟨kr, 0, none⟩)] 86)]) s ⟨hk, trivial⟩ (by kernel_rfl) (by kernel_rfl) (fun _ _ => by kernel_rfl) (fun _ _ => by kernel_rfl) ⟨fun _ _ => by kernel_rfl, fun _ _ => by kernel_rfl, fun _ _ => by kernel_rfl, fun _ _ => by kernel_rfl⟩ (fun _ _ _ => by kernel_rfl) (fun _ _ => by kernel_rfl) (fun _ _ => by kernel_rfl) (fun _ _ => by kernel_rfl) (fun _ _ => by kernel_rfl) (fun _ _ => by kernel_rfl) ⟨kcast (A := ∀ (φ2 : Nat → Nat) (xs2 : Xs), (.int .u64 (IntKind.wrap .u64 (((n : Nat) : Int) + ((m : Nat) : Int))) : Value) = .int .u64 ((n + m : Nat) : Int)) (by kernel_rfl) (fun φ2 xs2 => congrArg (Value.int .u64) ((nat_addU (a := n) (b := m) (by omega)))), trivial⟩ trivial (by kernel_rfl) trivial ?k2
    case k2 =>
      rintro φ2 xs2 I2 w2 le2 s 
      replace hl := RE.mono le2 hl
      replace hr := RE.mono le2 hr
      replace h0 := RE.mono le2 h0
      replace hk := le2 _ _ hk
      refine wp_ret ?_
      refine ret_rule (C := []) [((φ2 15), .cells #[.int .u64 ((n + m : Nat) : Int), .pointer (some ⟨kl, 0, none⟩), .pointer (some ⟨kr, 0, none⟩)] 86)] [] (.pointer (some ⟨(φ2 15), 0, none⟩)) [] [] s trivial (by kernel_rfl) ?_
      obtain ⟨I3, le3, hk3, s⟩ := s.freezeAt 0 (φ2 15) (.cells #[.int .u64 ((n + m : Nat) : Int), .pointer (some ⟨kl, 0, none⟩), .pointer (some ⟨kr, 0, none⟩)] 86) [] (by kernel_rfl) (by kernel_rfl)
      replace hl := RE.mono le3 hl
      replace hr := RE.mono le3 hr
      replace h0 := RE.mono le3 h0
      replace hk := le3 _ _ hk
      exact ⟨_, _, _, rfl, s, ⟨_, rfl, ⟨_, _, hk3, hl, hr⟩⟩⟩

set_option maxHeartbeats 1000000 in
theorem reLeft_c {I : IM} {e : E} {k : Nat} (h : RE I e k) (ht : e.top < 18446744073709551616) : Fun Try.prog 51 #[.pointer (some ⟨k, 0, none⟩)] I (fun v J => ∃ k, v = .pointer (some ⟨k, 0, none⟩) ∧ RE J (E.up e.base e.left) k) := by
  cases e with
  | leaf n =>
    have h0 : RE _ (E.leaf n) k := h
    refine enter_rule 18 [(0, .pointer (some ⟨k, 0, none⟩))] Try.func51 rfl (by kernel_rfl) ?_
    intro w s
    refine wp_seq ?_
    refine region_rule ?_
    refine ops_rule (C := []) [] [] 1 [] 0 (fun φ1 => [(2, .pointer none)]) (fun φ1 => []) (fun φ1 => []) s trivial (fun φ1 => by kernel_rfl) ?_
    intro φ1 w1 s
    refine ops_done (by kernel_rfl) ?_
    refine wp_seq ?_
    refine wp_seq ?_
    refine region_rule ?_
    refine ops_rule (C := [(k, .cells #[.int .u64 ((n : Nat) : Int), .pointer none, .pointer none] 86)]) [] [] 5 [.c 0] 0 (fun φ2 => [(7, .bool true), (6, .pointer none), (5, .pointer (some ⟨k, 1, none⟩)), (4, .pointer (some ⟨k, 0, none⟩)), (3, .pointer (some ⟨k, 0, none⟩))]) (fun φ2 => []) (fun φ2 => [k]) s ⟨h, trivial⟩ (fun φ2 => by kernel_rfl) ?_
    intro φ2 w2 s
    refine ops_done (by kernel_rfl) ?_
    refine cond_true_rule (b := true) (by kernel_rfl) rfl ?_
    refine wp_seq ?_
    refine region_rule ?_
    refine ops_rule (C := []) [] [] 2 [] 0 (fun φ3 => [(2, .pointer (some ⟨k, 0, none⟩)), (8, .pointer (some ⟨k, 0, none⟩))]) (fun φ3 => []) (fun φ3 => []) s trivial (fun φ3 => by kernel_rfl) ?_
    intro φ3 w3 s
    refine ops_done (by kernel_rfl) ?_
    refine wp_ret ?_
    refine ret_rule (C := []) [] [] (.pointer (some ⟨k, 0, none⟩)) [] [] s trivial (by kernel_rfl) ?_
    exact ⟨_, _, _, rfl, s, ⟨_, rfl, by show RE _ (E.leaf (0 + n)) _; rw [Nat.zero_add]; exact h0⟩⟩
  | node n l r =>
    have h0 : RE _ (E.node n l r) k := h
    obtain ⟨kl, kr, hk, hl, hr⟩ := h
    have ht1 : n + max l.top r.top < 18446744073709551616 := ht
    refine enter_rule 18 [(0, .pointer (some ⟨k, 0, none⟩))] Try.func51 rfl (by kernel_rfl) ?_
    intro w s
    refine wp_seq ?_
    refine region_rule ?_
    refine ops_rule (C := []) [] [] 1 [] 0 (fun φ1 => [(2, .pointer none)]) (fun φ1 => []) (fun φ1 => []) s trivial (fun φ1 => by kernel_rfl) ?_
    intro φ1 w1 s
    refine ops_done (by kernel_rfl) ?_
    refine wp_seq ?_
    refine wp_seq ?_
    refine region_rule ?_
    refine ops_rule (C := [(k, .cells #[.int .u64 ((n : Nat) : Int), .pointer (some ⟨kl, 0, none⟩), .pointer (some ⟨kr, 0, none⟩)] 86)]) [] [] 5 [.c 0] 0 (fun φ2 => [(7, .bool false), (6, .pointer (some ⟨kl, 0, none⟩)), (5, .pointer (some ⟨k, 1, none⟩)), (4, .pointer (some ⟨k, 0, none⟩)), (3, .pointer (some ⟨k, 0, none⟩))]) (fun φ2 => []) (fun φ2 => [k]) s ⟨hk, trivial⟩ (fun φ2 => by kernel_rfl) ?_
    intro φ2 w2 s
    refine ops_done (by kernel_rfl) ?_
    refine cond_false_rule (b := false) (by kernel_rfl) rfl ?_
    refine wp_skip ?_
    refine wp_seq ?_
    refine draw_rule (C := [(k, .cells #[.int .u64 ((n : Nat) : Int), .pointer (some ⟨kl, 0, none⟩), .pointer (some ⟨kr, 0, none⟩)] 86)]) ⟨(fun φ3 xs3 => [.look 0 [] [], .look 0 [] [], .look 0 [] [], .look 0 [.c 0] [k], .look 0 [] [], .look 0 [] [], .look 0 [] [], .look 0 [.c 0] [k], .call 68 #[.pointer (some ⟨kl, 0, none⟩), .int .u64 ((n : Nat) : Int)], .look 0 [] []]), (fun φ3 xs3 => [.pointer (some ⟨k, 0, none⟩), .pointer (some ⟨k, 0, none⟩), .pointer (some ⟨k, 1, none⟩), .pointer (some ⟨kl, 0, none⟩), .pointer (some ⟨k, 0, none⟩), .pointer (some ⟨k, 0, none⟩), .pointer (some ⟨k, 0, none⟩), .int .u64 ((n : Nat) : Int), .pointer (some ⟨(xs3 8).n 0, 0, none⟩), .pointer (some ⟨(xs3 8).n 0, 0, none⟩)]), (fun φ3 xs3 => [[]]), (fun φ3 xs3 => [[default, default, default, default, default, default, default, default, default, default]]), [], [1, 1, 1, 1, 1, 1, 1, 1, 3, 1]⟩ (fun j => ([MP.any, MP.any, MP.any, MP.any, MP.any, MP.any, MP.any, MP.any, ⟨fun x J => RE J (E.up n l) (x.n 0), fun le h => RE.mono le h⟩, MP.any] : List MP).getD j MP.any) [8] [] [] (fun φ3 xs3 => []) (fun φ3 xs3 => [(9, .pointer (some ⟨k, 0, none⟩)), (10, .pointer (some ⟨k, 0, none⟩)), (11, .pointer (some ⟨k, 1, none⟩)), (12, .pointer (some ⟨kl, 0, none⟩)), (13, .pointer (some ⟨k, 0, none⟩)), (14, .pointer (some ⟨k, 0, none⟩)), (15, .pointer (some ⟨k, 0, none⟩)), (16, .int .u64 ((n : Nat) : Int)), (17, .pointer (some ⟨(xs3 8).n 0, 0, none⟩)), (2, .pointer (some ⟨(xs3 8).n 0, 0, none⟩))]) (fun φ3 xs3 => []) s ⟨hk, trivial⟩ (by kernel_rfl) (by kernel_rfl) (fun _ _ => by kernel_rfl) (fun _ _ => by kernel_rfl) ⟨fun _ _ => by kernel_rfl, fun _ _ => by kernel_rfl, fun _ _ => by kernel_rfl, fun _ _ => by kernel_rfl⟩ (fun _ _ _ => by kernel_rfl) (fun _ _ => by kernel_rfl) (fun _ _ => by kernel_rfl) (fun _ _ => by kernel_rfl) (fun _ _ => by kernel_rfl) (fun _ _ => by kernel_rfl) trivial trivial (by kernel_rfl) ⟨?c3_8, trivial⟩ ?k3
    case c3_8 =>
      refine kcast (A := ∀ (φ3 : Nat → Nat) (xs3 : Xs) (J8_3 : IM), I.Le J8_3 → Fun Try.prog 68 #[.pointer (some ⟨kl, 0, none⟩), .int .u64 ((n : Nat) : Int)] J8_3 (fun v J' => ∃ x : UX, v = .pointer (some ⟨x.n 0, 0, none⟩) ∧ (RE J' (E.up n l) (x.n 0)))) (by kernel_rfl) ?_
      intro φ3 xs3 J8_3 leJ
      have hl := RE.mono leJ hl
      exact Fun.mono (radd_c (m := n) hl (by omega)) (fun v J' _ ⟨y0, hv, g0⟩ => ⟨{ UX.d with n := fun j => y0 }, hv, g0⟩)
    case k3 =>
      rintro φ3 xs3 I3 w3 le3 s h3_8_0
      replace hl := RE.mono le3 hl
      replace hr := RE.mono le3 hr
      replace h0 := RE.mono le3 h0
      replace hk := le3 _ _ hk
      refine wp_ret ?_
      refine ret_rule (C := []) [] [] (.pointer (some ⟨(xs3 8).n 0, 0, none⟩)) [] [] s trivial (by kernel_rfl) ?_
      exact ⟨_, _, _, rfl, s, ⟨_, rfl, h3_8_0⟩⟩

set_option maxHeartbeats 1000000 in
theorem reRight_c {I : IM} {e : E} {k : Nat} (h : RE I e k) (ht : e.top < 18446744073709551616) : Fun Try.prog 53 #[.pointer (some ⟨k, 0, none⟩)] I (fun v J => ∃ k, v = .pointer (some ⟨k, 0, none⟩) ∧ RE J (E.up e.base e.right) k) := by
  cases e with
  | leaf n =>
    have h0 : RE _ (E.leaf n) k := h
    refine enter_rule 18 [(0, .pointer (some ⟨k, 0, none⟩))] Try.func53 rfl (by kernel_rfl) ?_
    intro w s
    refine wp_seq ?_
    refine region_rule ?_
    refine ops_rule (C := []) [] [] 1 [] 0 (fun φ1 => [(2, .pointer none)]) (fun φ1 => []) (fun φ1 => []) s trivial (fun φ1 => by kernel_rfl) ?_
    intro φ1 w1 s
    refine ops_done (by kernel_rfl) ?_
    refine wp_seq ?_
    refine wp_seq ?_
    refine region_rule ?_
    refine ops_rule (C := [(k, .cells #[.int .u64 ((n : Nat) : Int), .pointer none, .pointer none] 86)]) [] [] 5 [.c 0] 0 (fun φ2 => [(7, .bool true), (6, .pointer none), (5, .pointer (some ⟨k, 1, none⟩)), (4, .pointer (some ⟨k, 0, none⟩)), (3, .pointer (some ⟨k, 0, none⟩))]) (fun φ2 => []) (fun φ2 => [k]) s ⟨h, trivial⟩ (fun φ2 => by kernel_rfl) ?_
    intro φ2 w2 s
    refine ops_done (by kernel_rfl) ?_
    refine cond_true_rule (b := true) (by kernel_rfl) rfl ?_
    refine wp_seq ?_
    refine region_rule ?_
    refine ops_rule (C := []) [] [] 2 [] 0 (fun φ3 => [(2, .pointer (some ⟨k, 0, none⟩)), (8, .pointer (some ⟨k, 0, none⟩))]) (fun φ3 => []) (fun φ3 => []) s trivial (fun φ3 => by kernel_rfl) ?_
    intro φ3 w3 s
    refine ops_done (by kernel_rfl) ?_
    refine wp_ret ?_
    refine ret_rule (C := []) [] [] (.pointer (some ⟨k, 0, none⟩)) [] [] s trivial (by kernel_rfl) ?_
    exact ⟨_, _, _, rfl, s, ⟨_, rfl, by show RE _ (E.leaf (0 + n)) _; rw [Nat.zero_add]; exact h0⟩⟩
  | node n l r =>
    have h0 : RE _ (E.node n l r) k := h
    obtain ⟨kl, kr, hk, hl, hr⟩ := h
    have ht1 : n + max l.top r.top < 18446744073709551616 := ht
    refine enter_rule 18 [(0, .pointer (some ⟨k, 0, none⟩))] Try.func53 rfl (by kernel_rfl) ?_
    intro w s
    refine wp_seq ?_
    refine region_rule ?_
    refine ops_rule (C := []) [] [] 1 [] 0 (fun φ1 => [(2, .pointer none)]) (fun φ1 => []) (fun φ1 => []) s trivial (fun φ1 => by kernel_rfl) ?_
    intro φ1 w1 s
    refine ops_done (by kernel_rfl) ?_
    refine wp_seq ?_
    refine wp_seq ?_
    refine region_rule ?_
    refine ops_rule (C := [(k, .cells #[.int .u64 ((n : Nat) : Int), .pointer (some ⟨kl, 0, none⟩), .pointer (some ⟨kr, 0, none⟩)] 86)]) [] [] 5 [.c 0] 0 (fun φ2 => [(7, .bool false), (6, .pointer (some ⟨kl, 0, none⟩)), (5, .pointer (some ⟨k, 1, none⟩)), (4, .pointer (some ⟨k, 0, none⟩)), (3, .pointer (some ⟨k, 0, none⟩))]) (fun φ2 => []) (fun φ2 => [k]) s ⟨hk, trivial⟩ (fun φ2 => by kernel_rfl) ?_
    intro φ2 w2 s
    refine ops_done (by kernel_rfl) ?_
    refine cond_false_rule (b := false) (by kernel_rfl) rfl ?_
    refine wp_skip ?_
    refine wp_seq ?_
    refine draw_rule (C := [(k, .cells #[.int .u64 ((n : Nat) : Int), .pointer (some ⟨kl, 0, none⟩), .pointer (some ⟨kr, 0, none⟩)] 86)]) ⟨(fun φ3 xs3 => [.look 0 [] [], .look 0 [] [], .look 0 [] [], .look 0 [.c 0] [k], .look 0 [] [], .look 0 [] [], .look 0 [] [], .look 0 [.c 0] [k], .call 68 #[.pointer (some ⟨kr, 0, none⟩), .int .u64 ((n : Nat) : Int)], .look 0 [] []]), (fun φ3 xs3 => [.pointer (some ⟨k, 0, none⟩), .pointer (some ⟨k, 0, none⟩), .pointer (some ⟨k, 2, none⟩), .pointer (some ⟨kr, 0, none⟩), .pointer (some ⟨k, 0, none⟩), .pointer (some ⟨k, 0, none⟩), .pointer (some ⟨k, 0, none⟩), .int .u64 ((n : Nat) : Int), .pointer (some ⟨(xs3 8).n 0, 0, none⟩), .pointer (some ⟨(xs3 8).n 0, 0, none⟩)]), (fun φ3 xs3 => [[]]), (fun φ3 xs3 => [[default, default, default, default, default, default, default, default, default, default]]), [], [1, 1, 1, 1, 1, 1, 1, 1, 3, 1]⟩ (fun j => ([MP.any, MP.any, MP.any, MP.any, MP.any, MP.any, MP.any, MP.any, ⟨fun x J => RE J (E.up n r) (x.n 0), fun le h => RE.mono le h⟩, MP.any] : List MP).getD j MP.any) [8] [] [] (fun φ3 xs3 => []) (fun φ3 xs3 => [(9, .pointer (some ⟨k, 0, none⟩)), (10, .pointer (some ⟨k, 0, none⟩)), (11, .pointer (some ⟨k, 2, none⟩)), (12, .pointer (some ⟨kr, 0, none⟩)), (13, .pointer (some ⟨k, 0, none⟩)), (14, .pointer (some ⟨k, 0, none⟩)), (15, .pointer (some ⟨k, 0, none⟩)), (16, .int .u64 ((n : Nat) : Int)), (17, .pointer (some ⟨(xs3 8).n 0, 0, none⟩)), (2, .pointer (some ⟨(xs3 8).n 0, 0, none⟩))]) (fun φ3 xs3 => []) s ⟨hk, trivial⟩ (by kernel_rfl) (by kernel_rfl) (fun _ _ => by kernel_rfl) (fun _ _ => by kernel_rfl) ⟨fun _ _ => by kernel_rfl, fun _ _ => by kernel_rfl, fun _ _ => by kernel_rfl, fun _ _ => by kernel_rfl⟩ (fun _ _ _ => by kernel_rfl) (fun _ _ => by kernel_rfl) (fun _ _ => by kernel_rfl) (fun _ _ => by kernel_rfl) (fun _ _ => by kernel_rfl) (fun _ _ => by kernel_rfl) trivial trivial (by kernel_rfl) ⟨?c3_8, trivial⟩ ?k3
    case c3_8 =>
      refine kcast (A := ∀ (φ3 : Nat → Nat) (xs3 : Xs) (J8_3 : IM), I.Le J8_3 → Fun Try.prog 68 #[.pointer (some ⟨kr, 0, none⟩), .int .u64 ((n : Nat) : Int)] J8_3 (fun v J' => ∃ x : UX, v = .pointer (some ⟨x.n 0, 0, none⟩) ∧ (RE J' (E.up n r) (x.n 0)))) (by kernel_rfl) ?_
      intro φ3 xs3 J8_3 leJ
      have hr := RE.mono leJ hr
      exact Fun.mono (radd_c (m := n) hr (by omega)) (fun v J' _ ⟨y0, hv, g0⟩ => ⟨{ UX.d with n := fun j => y0 }, hv, g0⟩)
    case k3 =>
      rintro φ3 xs3 I3 w3 le3 s h3_8_0
      replace hl := RE.mono le3 hl
      replace hr := RE.mono le3 hr
      replace h0 := RE.mono le3 h0
      replace hk := le3 _ _ hk
      refine wp_ret ?_
      refine ret_rule (C := []) [] [] (.pointer (some ⟨(xs3 8).n 0, 0, none⟩)) [] [] s trivial (by kernel_rfl) ?_
      exact ⟨_, _, _, rfl, s, ⟨_, rfl, h3_8_0⟩⟩

end Go.Proofs.Ytgdickihjaomjaa.Ev
/- What events weigh over ids. -/
set_option linter.all false
namespace Go.Proofs.Ytgdickihjaomjaa.Ev
open Go.RowKit Go.Sep
/-- heights times how wide they are, and the greatest of them; the part is 2^k wide -/
def dW : Nat → E → T → Nat × Nat
  | 0, e, i => if i.isOne = true then (e.base, e.base) else (0, 0)
  | k + 1, e, i => ((dW k (E.up e.base e.left) i.left).1 + (dW k (E.up e.base e.right) i.right).1, max (dW k (E.up e.base e.left) i.left).2 (dW k (E.up e.base e.right) i.right).2)
theorem dW_zero : ∀ (k : Nat) (e : E), dW k e .zero = (0, 0)
  | 0, e => rfl
  | k + 1, e => by simp only [dW, T.left, T.right, dW_zero k]; rfl
theorem up_leaf0 (n : Nat) : E.up n (.leaf 0) = .leaf n := by simp [E.up]
theorem dW_one : ∀ (k n : Nat), dW k (.leaf n) .one = (n * 2 ^ k, n)
  | 0, n => by simp [dW, T.isOne, E.base]
  | k + 1, n => by
    simp only [dW, T.left, T.right, E.left, E.right, E.base, up_leaf0, dW_one k, Nat.max_self, Nat.pow_succ]
    rw [← Nat.mul_add]; congr 2; omega
theorem dW_leaf : ∀ (k n : Nat) {i : T}, i.depth ≤ k → i.nf → i.isZero = false → dW k (.leaf n) i = (n * widT i k, n)
  | k, n, .zero, _, _, h => by cases h
  | k, n, .one, _, _, _ => by rw [dW_one]; rfl
  | 0, n, .node l r, hd, _, _ => by simp only [T.depth] at hd; omega
  | k + 1, n, .node l r, hd, ⟨hl, hr, hm⟩, _ => by
    simp only [T.depth] at hd
    simp only [dW, T.left, T.right, E.left, E.right, E.base, up_leaf0]
    have e : widT (T.node l r) (k + 1) = widT l k + widT r k := rfl
    rw [e, Nat.mul_add]
    by_cases zl : l.isZero = true
    · have : l = .zero := isZero_eq zl
      subst this
      by_cases zr : r.isZero = true
      · have : r = .zero := isZero_eq zr
        subst this
        cases hm
      · rw [dW_zero, dW_leaf k n (by omega) hr (by simpa using zr)]
        simp only [widT, Nat.mul_zero, Nat.zero_max]
    · by_cases zr : r.isZero = true
      · have : r = .zero := isZero_eq zr
        subst this
        rw [dW_zero, dW_leaf k n (by omega) hl (by simpa using zl)]
        simp only [widT, Nat.mul_zero, Nat.max_zero]
      · rw [dW_leaf k n (by omega) hl (by simpa using zl), dW_leaf k n (by omega) hr (by simpa using zr)]
        simp only [Nat.max_self]
theorem up_top (n : Nat) (e : E) : (E.up n e).top = e.top + n := by cases e <;> simp only [E.up, E.top] <;> omega
theorem up_depth (n : Nat) (e : E) : (E.up n e).depth = e.depth := by cases e <;> rfl
theorem lB_top (e : E) : (E.up e.base e.left).top ≤ e.top := by cases e <;> simp only [up_top, E.left, E.top, E.base] <;> omega
theorem rB_top (e : E) : (E.up e.base e.right).top ≤ e.top := by cases e <;> simp only [up_top, E.right, E.top, E.base] <;> omega
theorem lB_depth (e : E) : (E.up e.base e.left).depth ≤ e.depth - 1 := by cases e <;> simp only [up_depth, E.left, E.depth] <;> omega
theorem rB_depth (e : E) : (E.up e.base e.right).depth ≤ e.depth - 1 := by cases e <;> simp only [up_depth, E.right, E.depth] <;> omega
theorem base_top (e : E) : e.base ≤ e.top := by cases e <;> simp only [E.base, E.top] <;> omega
theorem dW_le : ∀ (k : Nat) (e : E) (i : T), (dW k e i).1 ≤ e.top * 2 ^ k ∧ (dW k e i).2 ≤ e.top
  | 0, e, i => by
    have := base_top e
    simp only [dW]; split
    · simp only; omega
    · simp
  | k + 1, e, i => by
    have h1 := dW_le k (E.up e.base e.left) i.left
    have h2 := dW_le k (E.up e.base e.right) i.right
    have t1 := lB_top e
    have t2 := rB_top e
    have m1 := Nat.mul_le_mul_right (2 ^ k) t1
    have m2 := Nat.mul_le_mul_right (2 ^ k) t2
    simp only [dW]
    rw [Nat.pow_succ, ← Nat.mul_assoc]
    omega
theorem dW_union : ∀ (k : Nat) (e : E) {d f : T}, d.depth ≤ k → f.depth ≤ k → d.nf → f.nf → disjT d f = true →
    (dW k e d).1 + (dW k e f).1 = (dW k e (unionT d f)).1 ∧ max (dW k e d).2 (dW k e f).2 = (dW k e (unionT d f)).2
  | 0, e, d, f, hd, hf, nd, nf, h => by
    rcases dep0 hd with rfl | rfl <;> rcases dep0 hf with rfl | rfl <;> first | (cases h; done) | (simp [dW, unionT, T.isOne]; done)
  | k + 1, e, d, f, hd, hf, nd, nf, h => by
    rw [disj_half nd nf, Bool.and_eq_true] at h
    have l2 := T.left_depth d
    have l3 := T.left_depth f
    have r2 := T.right_depth d
    have r3 := T.right_depth f
    have hl := dW_union k (E.up e.base e.left) (d := d.left) (f := f.left) (by omega) (by omega) (T.left_nf nd) (T.left_nf nf) h.1
    have hr := dW_union k (E.up e.base e.right) (d := d.right) (f := f.right) (by omega) (by omega) (T.right_nf nd) (T.right_nf nf) h.2
    simp only [dW, union_left, union_right]
    omega
theorem dW_cut {k : Nat} {e : E} {t : T} (hd : t.depth + 1 ≤ k) (nt : t.nf) : (dW k e (cutT t).1).1 + (dW k e (cutT t).2).1 = (dW k e t).1 ∧ max (dW k e (cutT t).1).2 (dW k e (cutT t).2).2 = (dW k e t).2 := by
  have h := cut_depth t
  have hn := T.nf_cut nt
  have := dW_union k e (d := (cutT t).1) (f := (cutT t).2) (by omega) (by omega) hn.1 hn.2 (cut_disj t)
  rwa [cut_union nt] at this
theorem wid_scale (d : Nat) : ∀ (k : Nat) {t : T}, t.depth ≤ k → widT t (k + d) = widT t k * 2 ^ d
  | k, .zero, _ => by simp [widT]
  | k, .one, _ => by simp only [widT, Nat.pow_add]
  | 0, .node l r, h => by simp only [T.depth] at h; omega
  | k + 1, .node l r, h => by
    simp only [T.depth] at h
    have e1 : k + 1 + d - 1 = k + d := by omega
    simp only [widT, e1, Nat.add_sub_cancel, wid_scale d k (t := l) (by omega), wid_scale d k (t := r) (by omega), Nat.add_mul]
theorem wid_mul {k m : Nat} {t : T} (hk : k ≤ 16) (h : t.depth ≤ k) : m * 2 ^ k * widT t 16 = m * widT t k * 65536 := by
  have e := wid_scale (16 - k) k h
  rw [show k + (16 - k) = 16 by omega] at e
  rw [e]
  have e2 : (65536 : Nat) = 2 ^ k * 2 ^ (16 - k) := by rw [← Nat.pow_add, show k + (16 - k) = 16 by omega]
  rw [e2]
  calc m * 2 ^ k * (widT t k * 2 ^ (16 - k)) = m * (2 ^ k * (widT t k * 2 ^ (16 - k))) := Nat.mul_assoc ..
    _ = m * (widT t k * (2 ^ k * 2 ^ (16 - k))) := by rw [Nat.mul_left_comm (2 ^ k)]
    _ = m * widT t k * (2 ^ k * 2 ^ (16 - k)) := (Nat.mul_assoc ..).symm
end Go.Proofs.Ytgdickihjaomjaa.Ev
