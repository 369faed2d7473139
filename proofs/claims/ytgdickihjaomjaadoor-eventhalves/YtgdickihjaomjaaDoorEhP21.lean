/- The document's Heights and Has: rows. -/
import Derived.Test.YtgdickihjaomjaaDoorEhP20
import Derived.Test.YtgdickihjaomjaaDoorEhS9
set_option linter.all false
set_option maxRecDepth 100000
namespace Go.Proofs.YtgdickihjaomjaaDoor
open Go.RowKit Go.Sep

def cU (n : Nat) : Value := .int .u64 ((n : Nat) : Int)
/-- The first cells of block b, which is never written, are xs. -/
def VS (J : IM) (e : TypeId) (xs : List Value) (b : Nat) : Prop := ∃ cur : Array Value, J b = some (.cells cur e) ∧ cur.toList.take xs.length = xs
theorem VS.mono {I J : IM} (le : I.Le J) {e : TypeId} {xs : List Value} {b : Nat} (h : VS I e xs b) : VS J e xs b := by
  obtain ⟨cur, h1, h2⟩ := h
  exact ⟨cur, le _ _ h1, h2⟩
set_option maxHeartbeats 1000000 in
theorem radd_c {I : IM} {e : E} {k m : Nat} (h : RE I e k) (ht : e.top + m < 18446744073709551616) : Fun Tryd.prog 80 #[.pointer (some ⟨k, 0, none⟩), .int .u64 ((m : Nat) : Int)] I (fun v J => ∃ k, v = .pointer (some ⟨k, 0, none⟩) ∧ RE J (E.up m e) k) := by
  cases e with
  | leaf n =>
    have h0 : RE _ (E.leaf n) k := h
    have hb9 : n ≤ (E.leaf n).top := E.base_le (E.leaf n)
    refine enter_rule 21 [(0, .pointer (some ⟨k, 0, none⟩)), (1, .int .u64 ((m : Nat) : Int))] Tryd.func80 rfl (by kernel_rfl) ?_
    intro w s
    refine wp_seq ?_
    refine region_rule ?_
    refine ops_rule (C := []) [] [] 1 [] 0 (fun φ1 => [(4, .pointer none)]) (fun φ1 => []) (fun φ1 => []) s trivial (fun φ1 => by kernel_rfl) ?_
    intro φ1 w1 s
    refine ops_done (by kernel_rfl) ?_
    refine wp_seq ?_
    refine draw_rule (C := [(k, .cells #[.int .u64 ((n : Nat) : Int), .pointer none, .pointer none] 112)]) ⟨(fun φ2 xs2 => [.look 0 [] [], .look 0 [] [], .look 0 [] [], .look 0 [.c 0] [k], .look 0 [] [], .sub 0 [] [] (.int .u64 (IntKind.wrap .u64 (((n : Nat) : Int) + ((m : Nat) : Int)))), .look 0 [] [], .look 0 [] [], .look 0 [] [], .look 0 [.c 0] [k], .look 0 [] [], .look 0 [] [], .look 0 [] [], .look 0 [.c 0] [k], .look 0 [] [], .new, .look 0 [] []]), (fun φ2 xs2 => [.pointer (some ⟨k, 0, none⟩), .pointer (some ⟨k, 0, none⟩), .pointer (some ⟨k, 0, none⟩), .int .u64 ((n : Nat) : Int), .int .u64 ((m : Nat) : Int), .int .u64 ((n + m : Nat) : Int), .pointer (some ⟨k, 0, none⟩), .pointer (some ⟨k, 0, none⟩), .pointer (some ⟨k, 1, none⟩), .pointer none, .pointer (some ⟨k, 0, none⟩), .pointer (some ⟨k, 0, none⟩), .pointer (some ⟨k, 2, none⟩), .pointer none, .agg #[.int .u64 ((n + m : Nat) : Int), .pointer none, .pointer none], .pointer (some ⟨(φ2 15), 0, none⟩), .pointer (some ⟨(φ2 15), 0, none⟩)]), (fun φ2 xs2 => [[]]), (fun φ2 xs2 => [[default, default, default, default, default, default, default, default, default, default, default, default, default, default, default, .cells #[.int .u64 ((n + m : Nat) : Int), .pointer none, .pointer none] 112, default]]), [], [1, 1, 1, 1, 1, 5, 1, 1, 1, 1, 1, 1, 1, 1, 1, 2, 1]⟩ (fun j => ([MP.any, MP.any, MP.any, MP.any, MP.any, MP.any, MP.any, MP.any, MP.any, MP.any, MP.any, MP.any, MP.any, MP.any, MP.any, MP.any, MP.any] : List MP).getD j MP.any) [] [5] [] (fun φ2 xs2 => []) (fun φ2 xs2 => [(5, .pointer (some ⟨k, 0, none⟩)), (6, .pointer (some ⟨k, 0, none⟩)), (7, .pointer (some ⟨k, 0, none⟩)), (8, .int .u64 ((n : Nat) : Int)), (9, .int .u64 ((m : Nat) : Int)), (10, .int .u64 ((n + m : Nat) : Int)), (11, .pointer (some ⟨k, 0, none⟩)), (12, .pointer (some ⟨k, 0, none⟩)), (13, .pointer (some ⟨k, 1, none⟩)), (14, .pointer none), (15, .pointer (some ⟨k, 0, none⟩)), (16, .pointer (some ⟨k, 0, none⟩)), (17, .pointer (some ⟨k, 2, none⟩)), (18, .pointer none), (19, .agg #[.int .u64 ((n + m : Nat) : Int), .pointer none, .pointer none]), (20, .pointer (some ⟨(φ2 15), 0, none⟩)), (4, .pointer (some ⟨(φ2 15), 0, none⟩))]) (fun φ2 xs2 => [((φ2 15), .cells #[.int .u64 ((n + m : Nat) : Int), .pointer none, .pointer none] 112)]) s ⟨h, trivial⟩ (by kernel_rfl) (by kernel_rfl) (fun _ _ => by kernel_rfl) (fun _ _ => by kernel_rfl) ⟨fun _ _ => by kernel_rfl, fun _ _ => by kernel_rfl, fun _ _ => by kernel_rfl, fun _ _ => by kernel_rfl⟩ (fun _ _ _ => by kernel_rfl) (fun _ _ => by kernel_rfl) (fun _ _ => by kernel_rfl) (fun _ _ => by kernel_rfl) (fun _ _ => by kernel_rfl) (fun _ _ => by kernel_rfl) ⟨kcast (A := ∀ (φ2 : Nat → Nat) (xs2 : Xs), (.int .u64 (IntKind.wrap .u64 (((n : Nat) : Int) + ((m : Nat) : Int))) : Value) = .int .u64 ((n + m : Nat) : Int)) (by kernel_rfl) (fun φ2 xs2 => congrArg (Value.int .u64) ((nat_addU (a := n) (b := m) (by omega)))), trivial⟩ trivial (by kernel_rfl) trivial ?k2
    case k2 =>
      rintro φ2 xs2 I2 w2 le2 s 
      replace h0 := RE.mono le2 h0
      replace h := le2 _ _ h
      refine wp_ret ?_
      refine ret_rule (C := []) [((φ2 15), .cells #[.int .u64 ((n + m : Nat) : Int), .pointer none, .pointer none] 112)] [] (.pointer (some ⟨(φ2 15), 0, none⟩)) [] [] s trivial (by kernel_rfl) ?_
      obtain ⟨I3, le3, hk3, s⟩ := s.freezeAt 0 (φ2 15) (.cells #[.int .u64 ((n + m : Nat) : Int), .pointer none, .pointer none] 112) [] (by kernel_rfl) (by kernel_rfl)
      replace h0 := RE.mono le3 h0
      replace h := le3 _ _ h
      exact ⟨_, _, _, rfl, s, ⟨_, rfl, hk3⟩⟩
  | node n l r =>
    have h0 : RE _ (E.node n l r) k := h
    obtain ⟨kl, kr, hk, hl, hr⟩ := h
    have hb9 : n ≤ (E.node n l r).top := E.base_le (E.node n l r)
    refine enter_rule 21 [(0, .pointer (some ⟨k, 0, none⟩)), (1, .int .u64 ((m : Nat) : Int))] Tryd.func80 rfl (by kernel_rfl) ?_
    intro w s
    refine wp_seq ?_
    refine region_rule ?_
    refine ops_rule (C := []) [] [] 1 [] 0 (fun φ1 => [(4, .pointer none)]) (fun φ1 => []) (fun φ1 => []) s trivial (fun φ1 => by kernel_rfl) ?_
    intro φ1 w1 s
    refine ops_done (by kernel_rfl) ?_
    refine wp_seq ?_
    refine draw_rule (C := [(k, .cells #[.int .u64 ((n : Nat) : Int), .pointer (some ⟨kl, 0, none⟩), .pointer (some ⟨kr, 0, none⟩)] 112)]) ⟨(fun φ2 xs2 => [.look 0 [] [], .look 0 [] [], .look 0 [] [], .look 0 [.c 0] [k], .look 0 [] [], .sub 0 [] [] (.int .u64 (IntKind.wrap .u64 (((n : Nat) : Int) + ((m : Nat) : Int)))), .look 0 [] [], .look 0 [] [], .look 0 [] [], .look 0 [.c 0] [k], .look 0 [] [], .look 0 [] [], .look 0 [] [], .look 0 [.c 0] [k], .look 0 [] [], .new, .look 0 [] []]), (fun φ2 xs2 => [.pointer (some ⟨k, 0, none⟩), .pointer (some ⟨k, 0, none⟩), .pointer (some ⟨k, 0, none⟩), .int .u64 ((n : Nat) : Int), .int .u64 ((m : Nat) : Int), .int .u64 ((n + m : Nat) : Int), .pointer (some ⟨k, 0, none⟩), .pointer (some ⟨k, 0, none⟩), .pointer (some ⟨k, 1, none⟩), .pointer (some ⟨kl, 0, none⟩), .pointer (some ⟨k, 0, none⟩), .pointer (some ⟨k, 0, none⟩), .pointer (some ⟨k, 2, none⟩), .pointer (some ⟨kr, 0, none⟩), .agg #[.int .u64 ((n + m : Nat) : Int), .pointer (some ⟨kl, 0, none⟩), .pointer (some ⟨kr, 0, none⟩)], .pointer (some ⟨(φ2 15), 0, none⟩), .pointer (some ⟨(φ2 15), 0, none⟩)]), (fun φ2 xs2 => [[]]), (fun φ2 xs2 => [[default, default, default, default, default, default, default, default, default, default, default, default, default, default, default, .cells #[.int .u64 ((n + m : Nat) : Int), .pointer (some ⟨kl, 0, none⟩), .pointer (some ⟨kr, 0, none⟩)] 112, default]]), [], [1, 1, 1, 1, 1, 5, 1, 1, 1, 1, 1, 1, 1, 1, 1, 2, 1]⟩ (fun j => ([MP.any, MP.any, MP.any, MP.any, MP.any, MP.any, MP.any, MP.any, MP.any, MP.any, MP.any, MP.any, MP.any, MP.any, MP.any, MP.any, MP.any] : List MP).getD j MP.any) [] [5] [] (fun φ2 xs2 => []) (fun φ2 xs2 => [(5, .pointer (some ⟨k, 0, none⟩)), (6, .pointer (some ⟨k, 0, none⟩)), (7, .pointer (some ⟨k, 0, none⟩)), (8, .int .u64 ((n : Nat) : Int)), (9, .int .u64 ((m : Nat) : Int)), (10, .int .u64 ((n + m : Nat) : Int)), (11, .pointer (some ⟨k, 0, none⟩)), (12, .pointer (some ⟨k, 0, none⟩)), (13, .pointer (some ⟨k, 1, none⟩)), (14, .pointer (some ⟨kl, 0, none⟩)), (15, .pointer (some ⟨k, 0, none⟩)), (16, .pointer (some ⟨k, 0, none⟩)), (17, .pointer (some ⟨k, 2, none⟩)), (18, .pointer (some ⟨kr, 0, none⟩)), (19, .agg #[.int .u64 ((n + m : Nat) : Int), .pointer (some ⟨kl, 0, none⟩), .pointer (some ⟨kr, 0, none⟩)]), (20, .pointer (some ⟨(φ2 15), 0, none⟩)), (4, .pointer (some ⟨(φ2 15), 0, none⟩))]) (fun φ2 xs2 => [((φ2 15), .cells #[.int .u64 ((n + m : Nat) : Int), .pointer (some ⟨kl, 0, none⟩), .pointer (some ⟨kr, 0, none⟩)] 112)]) s ⟨hk, trivial⟩ (by kernel_rfl) (by kernel_rfl) (fun _ _ => by kernel_rfl) (fun _ _ => by kernel_rfl) ⟨fun _ _ => by kernel_rfl, fun _ _ => by kernel_rfl, fun _ _ => by kernel_rfl, fun _ _ => by kernel_rfl⟩ (fun _ _ _ => by kernel_rfl) (fun _ _ => by kernel_rfl) (fun _ _ => by kernel_rfl) (fun _ _ => by kernel_rfl) (fun _ _ => by kernel_rfl) (fun _ _ => by kernel_rfl) ⟨kcast (A := ∀ (φ2 : Nat → Nat) (xs2 : Xs), (.int .u64 (IntKind.wrap .u64 (((n : Nat) : Int) + ((m : Nat) : Int))) : Value) = .int .u64 ((n + m : Nat) : Int)) (by kernel_rfl) (fun φ2 xs2 => congrArg (Value.int .u64) ((nat_addU (a := n) (b := m) (by omega)))), trivial⟩ trivial (by kernel_rfl) trivial ?k2
    case k2 =>
      rintro φ2 xs2 I2 w2 le2 s 
      replace hl := RE.mono le2 hl
      replace hr := RE.mono le2 hr
      replace h0 := RE.mono le2 h0
      replace hk := le2 _ _ hk
      refine wp_ret ?_
      refine ret_rule (C := []) [((φ2 15), .cells #[.int .u64 ((n + m : Nat) : Int), .pointer (some ⟨kl, 0, none⟩), .pointer (some ⟨kr, 0, none⟩)] 112)] [] (.pointer (some ⟨(φ2 15), 0, none⟩)) [] [] s trivial (by kernel_rfl) ?_
      obtain ⟨I3, le3, hk3, s⟩ := s.freezeAt 0 (φ2 15) (.cells #[.int .u64 ((n + m : Nat) : Int), .pointer (some ⟨kl, 0, none⟩), .pointer (some ⟨kr, 0, none⟩)] 112) [] (by kernel_rfl) (by kernel_rfl)
      replace hl := RE.mono le3 hl
      replace hr := RE.mono le3 hr
      replace h0 := RE.mono le3 h0
      replace hk := le3 _ _ hk
      exact ⟨_, _, _, rfl, s, ⟨_, rfl, ⟨_, _, hk3, hl, hr⟩⟩⟩

set_option maxHeartbeats 1000000 in
theorem reLeft_c {I : IM} {e : E} {k : Nat} (h : RE I e k) (ht : e.top < 18446744073709551616) : Fun Tryd.prog 41 #[.pointer (some ⟨k, 0, none⟩)] I (fun v J => ∃ k, v = .pointer (some ⟨k, 0, none⟩) ∧ RE J (E.up e.base e.left) k) := by
  cases e with
  | leaf n =>
    have h0 : RE _ (E.leaf n) k := h
    refine enter_rule 18 [(0, .pointer (some ⟨k, 0, none⟩))] Tryd.func41 rfl (by kernel_rfl) ?_
    intro w s
    refine wp_seq ?_
    refine region_rule ?_
    refine ops_rule (C := []) [] [] 1 [] 0 (fun φ1 => [(2, .pointer none)]) (fun φ1 => []) (fun φ1 => []) s trivial (fun φ1 => by kernel_rfl) ?_
    intro φ1 w1 s
    refine ops_done (by kernel_rfl) ?_
    refine wp_seq ?_
    refine wp_seq ?_
    refine region_rule ?_
    refine ops_rule (C := [(k, .cells #[.int .u64 ((n : Nat) : Int), .pointer none, .pointer none] 112)]) [] [] 5 [.c 0] 0 (fun φ2 => [(7, .bool true), (6, .pointer none), (5, .pointer (some ⟨k, 1, none⟩)), (4, .pointer (some ⟨k, 0, none⟩)), (3, .pointer (some ⟨k, 0, none⟩))]) (fun φ2 => []) (fun φ2 => [k]) s ⟨h, trivial⟩ (fun φ2 => by kernel_rfl) ?_
    intro φ2 w2 s
    refine ops_done (by kernel_rfl) ?_
    refine cond_true_rule (b := true) (by kernel_rfl) rfl ?_
    refine wp_seq ?_
    refine region_rule ?_
    refine ops_rule (C := []) [] [] 2 [] 0 (fun φ3 => [(2, .pointer (some ⟨k, 0, none⟩)), (8, .pointer (some ⟨k, 0, none⟩))]) (fun φ3 => []) (fun φ3 => []) s trivial (fun φ3 => by kernel_rfl) ?_
    intro φ3 w3 s
    refine ops_done (by kernel_rfl) ?_
    refine wp_ret ?_
    refine ret_rule (C := []) [] [] (.pointer (some ⟨k, 0, none⟩)) [] [] s trivial (by kernel_rfl) ?_
    exact ⟨_, _, _, rfl, s, ⟨_, rfl, by show RE _ (E.leaf (0 + n)) _; rw [Nat.zero_add]; exact h0⟩⟩
  | node n l r =>
    have h0 : RE _ (E.node n l r) k := h
    obtain ⟨kl, kr, hk, hl, hr⟩ := h
    have ht1 : n + max l.top r.top < 18446744073709551616 := ht
    refine enter_rule 18 [(0, .pointer (some ⟨k, 0, none⟩))] Tryd.func41 rfl (by kernel_rfl) ?_
    intro w s
    refine wp_seq ?_
    refine region_rule ?_
    refine ops_rule (C := []) [] [] 1 [] 0 (fun φ1 => [(2, .pointer none)]) (fun φ1 => []) (fun φ1 => []) s trivial (fun φ1 => by kernel_rfl) ?_
    intro φ1 w1 s
    refine ops_done (by kernel_rfl) ?_
    refine wp_seq ?_
    refine wp_seq ?_
    refine region_rule ?_
    refine ops_rule (C := [(k, .cells #[.int .u64 ((n : Nat) : Int), .pointer (some ⟨kl, 0, none⟩), .pointer (some ⟨kr, 0, none⟩)] 112)]) [] [] 5 [.c 0] 0 (fun φ2 => [(7, .bool false), (6, .pointer (some ⟨kl, 0, none⟩)), (5, .pointer (some ⟨k, 1, none⟩)), (4, .pointer (some ⟨k, 0, none⟩)), (3, .pointer (some ⟨k, 0, none⟩))]) (fun φ2 => []) (fun φ2 => [k]) s ⟨hk, trivial⟩ (fun φ2 => by kernel_rfl) ?_
    intro φ2 w2 s
    refine ops_done (by kernel_rfl) ?_
    refine cond_false_rule (b := false) (by kernel_rfl) rfl ?_
    refine wp_skip ?_
    refine wp_seq ?_
    refine draw_rule (C := [(k, .cells #[.int .u64 ((n : Nat) : Int), .pointer (some ⟨kl, 0, none⟩), .pointer (some ⟨kr, 0, none⟩)] 112)]) ⟨(fun φ3 xs3 => [.look 0 [] [], .look 0 [] [], .look 0 [] [], .look 0 [.c 0] [k], .look 0 [] [], .look 0 [] [], .look 0 [] [], .look 0 [.c 0] [k], .call 80 #[.pointer (some ⟨kl, 0, none⟩), .int .u64 ((n : Nat) : Int)], .look 0 [] []]), (fun φ3 xs3 => [.pointer (some ⟨k, 0, none⟩), .pointer (some ⟨k, 0, none⟩), .pointer (some ⟨k, 1, none⟩), .pointer (some ⟨kl, 0, none⟩), .pointer (some ⟨k, 0, none⟩), .pointer (some ⟨k, 0, none⟩), .pointer (some ⟨k, 0, none⟩), .int .u64 ((n : Nat) : Int), .pointer (some ⟨(xs3 8).n 0, 0, none⟩), .pointer (some ⟨(xs3 8).n 0, 0, none⟩)]), (fun φ3 xs3 => [[]]), (fun φ3 xs3 => [[default, default, default, default, default, default, default, default, default, default]]), [], [1, 1, 1, 1, 1, 1, 1, 1, 3, 1]⟩ (fun j => ([MP.any, MP.any, MP.any, MP.any, MP.any, MP.any, MP.any, MP.any, ⟨fun x J => RE J (E.up n l) (x.n 0), fun le h => RE.mono le h⟩, MP.any] : List MP).getD j MP.any) [8] [] [] (fun φ3 xs3 => []) (fun φ3 xs3 => [(9, .pointer (some ⟨k, 0, none⟩)), (10, .pointer (some ⟨k, 0, none⟩)), (11, .pointer (some ⟨k, 1, none⟩)), (12, .pointer (some ⟨kl, 0, none⟩)), (13, .pointer (some ⟨k, 0, none⟩)), (14, .pointer (some ⟨k, 0, none⟩)), (15, .pointer (some ⟨k, 0, none⟩)), (16, .int .u64 ((n : Nat) : Int)), (17, .pointer (some ⟨(xs3 8).n 0, 0, none⟩)), (2, .pointer (some ⟨(xs3 8).n 0, 0, none⟩))]) (fun φ3 xs3 => []) s ⟨hk, trivial⟩ (by kernel_rfl) (by kernel_rfl) (fun _ _ => by kernel_rfl) (fun _ _ => by kernel_rfl) ⟨fun _ _ => by kernel_rfl, fun _ _ => by kernel_rfl, fun _ _ => by kernel_rfl, fun _ _ => by kernel_rfl⟩ (fun _ _ _ => by kernel_rfl) (fun _ _ => by kernel_rfl) (fun _ _ => by kernel_rfl) (fun _ _ => by kernel_rfl) (fun _ _ => by kernel_rfl) (fun _ _ => by kernel_rfl) trivial trivial (by kernel_rfl) ⟨?c3_8, trivial⟩ ?k3
    case c3_8 =>
      refine kcast (A := ∀ (φ3 : Nat → Nat) (xs3 : Xs) (J8_3 : IM), I.Le J8_3 → Fun Tryd.prog 80 #[.pointer (some ⟨kl, 0, none⟩), .int .u64 ((n : Nat) : Int)] J8_3 (fun v J' => ∃ x : UX, v = .pointer (some ⟨x.n 0, 0, none⟩) ∧ (RE J' (E.up n l) (x.n 0)))) (by kernel_rfl) ?_
      intro φ3 xs3 J8_3 leJ
      have hl := RE.mono leJ hl
      exact Fun.mono (radd_c (m := n) hl (by omega)) (fun v J' _ ⟨y0, hv, g0⟩ => ⟨{ UX.d with n := fun j => y0 }, hv, g0⟩)
    case k3 =>
      rintro φ3 xs3 I3 w3 le3 s h3_8_0
      replace hl := RE.mono le3 hl
      replace hr := RE.mono le3 hr
      replace h0 := RE.mono le3 h0
      replace hk := le3 _ _ hk
      refine wp_ret ?_
      refine ret_rule (C := []) [] [] (.pointer (some ⟨(xs3 8).n 0, 0, none⟩)) [] [] s trivial (by kernel_rfl) ?_
      exact ⟨_, _, _, rfl, s, ⟨_, rfl, h3_8_0⟩⟩

set_option maxHeartbeats 1000000 in
theorem reRight_c {I : IM} {e : E} {k : Nat} (h : RE I e k) (ht : e.top < 18446744073709551616) : Fun Tryd.prog 42 #[.pointer (some ⟨k, 0, none⟩)] I (fun v J => ∃ k, v = .pointer (some ⟨k, 0, none⟩) ∧ RE J (E.up e.base e.right) k) := by
  cases e with
  | leaf n =>
    have h0 : RE _ (E.leaf n) k := h
    refine enter_rule 18 [(0, .pointer (some ⟨k, 0, none⟩))] Tryd.func42 rfl (by kernel_rfl) ?_
    intro w s
    refine wp_seq ?_
    refine region_rule ?_
    refine ops_rule (C := []) [] [] 1 [] 0 (fun φ1 => [(2, .pointer none)]) (fun φ1 => []) (fun φ1 => []) s trivial (fun φ1 => by kernel_rfl) ?_
    intro φ1 w1 s
    refine ops_done (by kernel_rfl) ?_
    refine wp_seq ?_
    refine wp_seq ?_
    refine region_rule ?_
    refine ops_rule (C := [(k, .cells #[.int .u64 ((n : Nat) : Int), .pointer none, .pointer none] 112)]) [] [] 5 [.c 0] 0 (fun φ2 => [(7, .bool true), (6, .pointer none), (5, .pointer (some ⟨k, 1, none⟩)), (4, .pointer (some ⟨k, 0, none⟩)), (3, .pointer (some ⟨k, 0, none⟩))]) (fun φ2 => []) (fun φ2 => [k]) s ⟨h, trivial⟩ (fun φ2 => by kernel_rfl) ?_
    intro φ2 w2 s
    refine ops_done (by kernel_rfl) ?_
    refine cond_true_rule (b := true) (by kernel_rfl) rfl ?_
    refine wp_seq ?_
    refine region_rule ?_
    refine ops_rule (C := []) [] [] 2 [] 0 (fun φ3 => [(2, .pointer (some ⟨k, 0, none⟩)), (8, .pointer (some ⟨k, 0, none⟩))]) (fun φ3 => []) (fun φ3 => []) s trivial (fun φ3 => by kernel_rfl) ?_
    intro φ3 w3 s
    refine ops_done (by kernel_rfl) ?_
    refine wp_ret ?_
    refine ret_rule (C := []) [] [] (.pointer (some ⟨k, 0, none⟩)) [] [] s trivial (by kernel_rfl) ?_
    exact ⟨_, _, _, rfl, s, ⟨_, rfl, by show RE _ (E.leaf (0 + n)) _; rw [Nat.zero_add]; exact h0⟩⟩
  | node n l r =>
    have h0 : RE _ (E.node n l r) k := h
    obtain ⟨kl, kr, hk, hl, hr⟩ := h
    have ht1 : n + max l.top r.top < 18446744073709551616 := ht
    refine enter_rule 18 [(0, .pointer (some ⟨k, 0, none⟩))] Tryd.func42 rfl (by kernel_rfl) ?_
    intro w s
    refine wp_seq ?_
    refine region_rule ?_
    refine ops_rule (C := []) [] [] 1 [] 0 (fun φ1 => [(2, .pointer none)]) (fun φ1 => []) (fun φ1 => []) s trivial (fun φ1 => by kernel_rfl) ?_
    intro φ1 w1 s
    refine ops_done (by kernel_rfl) ?_
    refine wp_seq ?_
    refine wp_seq ?_
    refine region_rule ?_
    refine ops_rule (C := [(k, .cells #[.int .u64 ((n : Nat) : Int), .pointer (some ⟨kl, 0, none⟩), .pointer (some ⟨kr, 0, none⟩)] 112)]) [] [] 5 [.c 0] 0 (fun φ2 => [(7, .bool false), (6, .pointer (some ⟨kl, 0, none⟩)), (5, .pointer (some ⟨k, 1, none⟩)), (4, .pointer (some ⟨k, 0, none⟩)), (3, .pointer (some ⟨k, 0, none⟩))]) (fun φ2 => []) (fun φ2 => [k]) s ⟨hk, trivial⟩ (fun φ2 => by kernel_rfl) ?_
    intro φ2 w2 s
    refine ops_done (by kernel_rfl) ?_
    refine cond_false_rule (b := false) (by kernel_rfl) rfl ?_
    refine wp_skip ?_
    refine wp_seq ?_
    refine draw_rule (C := [(k, .cells #[.int .u64 ((n : Nat) : Int), .pointer (some ⟨kl, 0, none⟩), .pointer (some ⟨kr, 0, none⟩)] 112)]) ⟨(fun φ3 xs3 => [.look 0 [] [], .look 0 [] [], .look 0 [] [], .look 0 [.c 0] [k], .look 0 [] [], .look 0 [] [], .look 0 [] [], .look 0 [.c 0] [k], .call 80 #[.pointer (some ⟨kr, 0, none⟩), .int .u64 ((n : Nat) : Int)], .look 0 [] []]), (fun φ3 xs3 => [.pointer (some ⟨k, 0, none⟩), .pointer (some ⟨k, 0, none⟩), .pointer (some ⟨k, 2, none⟩), .pointer (some ⟨kr, 0, none⟩), .pointer (some ⟨k, 0, none⟩), .pointer (some ⟨k, 0, none⟩), .pointer (some ⟨k, 0, none⟩), .int .u64 ((n : Nat) : Int), .pointer (some ⟨(xs3 8).n 0, 0, none⟩), .pointer (some ⟨(xs3 8).n 0, 0, none⟩)]), (fun φ3 xs3 => [[]]), (fun φ3 xs3 => [[default, default, default, default, default, default, default, default, default, default]]), [], [1, 1, 1, 1, 1, 1, 1, 1, 3, 1]⟩ (fun j => ([MP.any, MP.any, MP.any, MP.any, MP.any, MP.any, MP.any, MP.any, ⟨fun x J => RE J (E.up n r) (x.n 0), fun le h => RE.mono le h⟩, MP.any] : List MP).getD j MP.any) [8] [] [] (fun φ3 xs3 => []) (fun φ3 xs3 => [(9, .pointer (some ⟨k, 0, none⟩)), (10, .pointer (some ⟨k, 0, none⟩)), (11, .pointer (some ⟨k, 2, none⟩)), (12, .pointer (some ⟨kr, 0, none⟩)), (13, .pointer (some ⟨k, 0, none⟩)), (14, .pointer (some ⟨k, 0, none⟩)), (15, .pointer (some ⟨k, 0, none⟩)), (16, .int .u64 ((n : Nat) : Int)), (17, .pointer (some ⟨(xs3 8).n 0, 0, none⟩)), (2, .pointer (some ⟨(xs3 8).n 0, 0, none⟩))]) (fun φ3 xs3 => []) s ⟨hk, trivial⟩ (by kernel_rfl) (by kernel_rfl) (fun _ _ => by kernel_rfl) (fun _ _ => by kernel_rfl) ⟨fun _ _ => by kernel_rfl, fun _ _ => by kernel_rfl, fun _ _ => by kernel_rfl, fun _ _ => by kernel_rfl⟩ (fun _ _ _ => by kernel_rfl) (fun _ _ => by kernel_rfl) (fun _ _ => by kernel_rfl) (fun _ _ => by kernel_rfl) (fun _ _ => by kernel_rfl) (fun _ _ => by kernel_rfl) trivial trivial (by kernel_rfl) ⟨?c3_8, trivial⟩ ?k3
    case c3_8 =>
      refine kcast (A := ∀ (φ3 : Nat → Nat) (xs3 : Xs) (J8_3 : IM), I.Le J8_3 → Fun Tryd.prog 80 #[.pointer (some ⟨kr, 0, none⟩), .int .u64 ((n : Nat) : Int)] J8_3 (fun v J' => ∃ x : UX, v = .pointer (some ⟨x.n 0, 0, none⟩) ∧ (RE J' (E.up n r) (x.n 0)))) (by kernel_rfl) ?_
      intro φ3 xs3 J8_3 leJ
      have hr := RE.mono leJ hr
      exact Fun.mono (radd_c (m := n) hr (by omega)) (fun v J' _ ⟨y0, hv, g0⟩ => ⟨{ UX.d with n := fun j => y0 }, hv, g0⟩)
    case k3 =>
      rintro φ3 xs3 I3 w3 le3 s h3_8_0
      replace hl := RE.mono le3 hl
      replace hr := RE.mono le3 hr
      replace h0 := RE.mono le3 h0
      replace hk := le3 _ _ hk
      refine wp_ret ?_
      refine ret_rule (C := []) [] [] (.pointer (some ⟨(xs3 8).n 0, 0, none⟩)) [] [] s trivial (by kernel_rfl) ?_
      exact ⟨_, _, _, rfl, s, ⟨_, rfl, h3_8_0⟩⟩

theorem half_top (e : E) : (E.up e.base e.left).top ≤ e.top ∧ (E.up e.base e.right).top ≤ e.top := by
  rw [E.up_top, E.up_top]
  have := E.base_half e
  omega

end Go.Proofs.YtgdickihjaomjaaDoor
