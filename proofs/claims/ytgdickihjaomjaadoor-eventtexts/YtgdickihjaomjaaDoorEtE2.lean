/- The program's event trees: lift, whole, Leaf, node, Node, Leq, Join, Same. -/
import Derived.Test.YtgdickihjaomjaaDoorEtE1
set_option linter.all false
set_option maxRecDepth 100000
namespace Go.Proofs.YtgdickihjaomjaaDoor
open Go.RowKit Go.Sep

def E.up (n : Nat) : E → E
  | .leaf m => .leaf (m + n)
  | .node m l r => .node (m + n) l r
def E.dn (n : Nat) : E → E
  | .leaf m => .leaf (m - n)
  | .node m l r => .node (m - n) l r
theorem ERep.up {I : IM} (n : Nat) : ∀ {t : E} {b : Nat} {p : Option Addr}, ERep I t b p → ERep I (E.up n t) (b + n) p
  | .leaf _, _, _, h => ⟨by rw [h.1], h.2⟩
  | .node _ _ _, _, _, ⟨hb, k, bl, pl, br, pr, hp, hk, hl, hr⟩ => ⟨by rw [hb], k, bl, pl, br, pr, hp, hk, hl, hr⟩
theorem ERep.dn {I : IM} (n : Nat) : ∀ {t : E} {b : Nat} {p : Option Addr}, ERep I t b p → ERep I (E.dn n t) (b - n) p
  | .leaf _, _, _, h => ⟨by rw [h.1], h.2⟩
  | .node _ _ _, _, _, ⟨hb, k, bl, pl, br, pr, hp, hk, hl, hr⟩ => ⟨by rw [hb], k, bl, pl, br, pr, hp, hk, hl, hr⟩
theorem E.base_le : ∀ t : E, t.base ≤ t.top
  | .leaf _ => Nat.le_refl _
  | .node _ _ _ => by simp only [E.base, E.top]; omega
theorem E.dn_top (n : Nat) : ∀ t : E, (E.dn n t).top ≤ t.top
  | .leaf _ => by simp only [E.dn, E.top]; omega
  | .node _ _ _ => by simp only [E.dn, E.top]; omega
theorem E.dn_depth (n : Nat) : ∀ t : E, (E.dn n t).depth = t.depth
  | .leaf _ => rfl
  | .node _ _ _ => rfl
theorem E.up_top (n : Nat) : ∀ t : E, (E.up n t).top = t.top + n
  | .leaf _ => rfl
  | .node _ _ _ => by simp only [E.up, E.top]; omega
theorem E.up_depth (n : Nat) : ∀ t : E, (E.up n t).depth = t.depth
  | .leaf _ => rfl
  | .node _ _ _ => rfl
theorem E.halves_le (t : E) : t.left.base + t.base ≤ t.top ∧ t.right.base + t.base ≤ t.top := by
  cases t with
  | leaf n => simp [E.left, E.right, E.base, E.top]
  | node n l r => have h1 := E.base_le l; have h2 := E.base_le r; exact ⟨show l.base + n ≤ n + max l.top r.top by omega, show r.base + n ≤ n + max l.top r.top by omega⟩
def E.mk (n : Nat) (l r : E) : E := if l.isLeaf = true ∧ r.isLeaf = true ∧ l.base = r.base then .leaf (n + l.base) else
  .node (n + min l.base r.base) (E.dn (min l.base r.base) l) (E.dn (min l.base r.base) r)

set_option maxHeartbeats 400000 in
theorem lift_c {I : IM} {t : E} {b : Nat} {p : Option Addr} (h : ERep I t b p) {n : Nat} (hn : b + n < 18446744073709551616) : Fun Tryd.prog 103 #[evv b p, .int .u64 ((n : Nat) : Int)] I (fun v J => v = evv (b + n) p) := by
  refine enter_rule 11 [(0, .agg #[.int .u64 ((b : Nat) : Int), .pointer p]), (1, .int .u64 ((n : Nat) : Int))] Tryd.func103 rfl (by kernel_rfl) ?_
  intro w s
  refine wp_seq ?_
  refine region_rule ?_
  refine ops_rule (C := []) [] [] 2 [] 2 (fun φ1 => [(4, .pointer (some ⟨(φ1 1), 0, none⟩)), (2, .pointer (some ⟨(φ1 0), 0, none⟩))]) (fun φ1 => [((φ1 0), .cells #[.int .u64 ((b : Nat) : Int), .pointer p] 27), ((φ1 1), .cells #[.int .u64 0, .pointer none] 27)]) (fun φ1 => []) s trivial (fun φ1 => by kernel_rfl) ?_
  intro φ1 w1 s
  refine ops_done (by kernel_rfl) ?_
  refine wp_seq ?_
  refine region_rule ?_
  refine ops_rule (C := []) [((φ1 0), .cells #[.int .u64 ((b : Nat) : Int), .pointer p] 27), ((φ1 1), .cells #[.int .u64 0, .pointer none] 27)] [] 6 [.o 0, .o 0] 0 (fun φ2 => [(9, .pointer (some ⟨(φ1 0), 0, none⟩)), (8, .int .u64 (IntKind.wrap .u64 (((b : Nat) : Int) + ((n : Nat) : Int)))), (7, .int .u64 ((n : Nat) : Int)), (6, .int .u64 ((b : Nat) : Int)), (5, .pointer (some ⟨(φ1 0), 0, none⟩))]) (fun φ2 => [((φ1 0), .cells #[.int .u64 (IntKind.wrap .u64 (((b : Nat) : Int) + ((n : Nat) : Int))), .pointer p] 27), ((φ1 1), .cells #[.int .u64 0, .pointer none] 27)]) (fun φ2 => [(φ1 0), (φ1 0)]) s trivial (fun φ2 => by kernel_rfl) ?_
  intro φ2 w2 s
  rw [nat_addU (a := b) (b := n) (by omega)] at s ⊢
  refine ops_done (by kernel_rfl) ?_
  refine wp_seq ?_
  refine region_rule ?_
  refine ops_rule (C := []) [((φ1 0), .cells #[.int .u64 ((b + n : Nat) : Int), .pointer p] 27), ((φ1 1), .cells #[.int .u64 0, .pointer none] 27)] [] 2 [.o 0, .o 0, .o 1, .o 1] 0 (fun φ3 => [(10, .agg #[.int .u64 ((b + n : Nat) : Int), .pointer p])]) (fun φ3 => [((φ1 0), .cells #[.int .u64 ((b + n : Nat) : Int), .pointer p] 27), ((φ1 1), .cells #[.int .u64 ((b + n : Nat) : Int), .pointer p] 27)]) (fun φ3 => [(φ1 0), (φ1 0), (φ1 1), (φ1 1)]) s trivial (fun φ3 => by kernel_rfl) ?_
  intro φ3 w3 s
  refine ops_done (by kernel_rfl) ?_
  refine wp_ret ?_
  refine ret_rule (C := []) [((φ1 0), .cells #[.int .u64 ((b + n : Nat) : Int), .pointer p] 27), ((φ1 1), .cells #[.int .u64 ((b + n : Nat) : Int), .pointer p] 27)] [] (.agg #[.int .u64 ((b + n : Nat) : Int), .pointer p]) [.o 1, .o 1] [(φ1 1), (φ1 1)] s trivial (by kernel_rfl) ?_
  exact ⟨_, _, _, rfl, s, rfl⟩

set_option maxHeartbeats 400000 in
theorem whole_c {I : IM} {t : E} {b : Nat} {p : Option Addr} (h : ERep I t b p) (ht : t.top < 18446744073709551616) : Fun Tryd.prog 75 #[evv b p] I (fun v J => ∃ b1 p1 b2 p2, v = .tuple #[evv b1 p1, evv b2 p2] ∧ ERep J (E.up b t.left) b1 p1 ∧ ERep J (E.up b t.right) b2 p2) := by
  have hh := E.halves_le t
  have hb := ERep.base h
  refine enter_rule 14 [(0, .agg #[.int .u64 ((b : Nat) : Int), .pointer p])] Tryd.func75 rfl (by kernel_rfl) ?_
  intro w s
  refine wp_seq ?_
  refine region_rule ?_
  refine ops_rule (C := []) [] [] 3 [] 3 (fun φ1 => [(3, .pointer (some ⟨(φ1 2), 0, none⟩)), (2, .pointer (some ⟨(φ1 1), 0, none⟩)), (1, .pointer (some ⟨(φ1 0), 0, none⟩))]) (fun φ1 => [((φ1 0), .cells #[.int .u64 ((b : Nat) : Int), .pointer p] 27), ((φ1 1), .cells #[.int .u64 0, .pointer none] 27), ((φ1 2), .cells #[.int .u64 0, .pointer none] 27)]) (fun φ1 => []) s trivial (fun φ1 => by kernel_rfl) ?_
  intro φ1 w1 s
  refine ops_done (by kernel_rfl) ?_
  refine wp_seq ?_
  refine draw_rule (C := []) ⟨(fun φ2 xs2 => [.look 0 [.o 0, .o 0] [(φ1 0), (φ1 0)], .call 39 #[.agg #[.int .u64 ((b : Nat) : Int), .pointer p]], .look 0 [] [], .look 0 [.o 0] [(φ1 0)], .call 103 #[.agg #[.int .u64 (((xs2 1).n 0 : Nat) : Int), .pointer ((xs2 1).p 0)], .int .u64 ((b : Nat) : Int)], .look 0 [.o 0, .o 0] [(φ1 0), (φ1 0)], .call 40 #[.agg #[.int .u64 ((b : Nat) : Int), .pointer p]], .look 0 [] [], .look 0 [.o 0] [(φ1 0)], .call 103 #[.agg #[.int .u64 (((xs2 6).n 0 : Nat) : Int), .pointer ((xs2 6).p 0)], .int .u64 ((b : Nat) : Int)], .store 0 [.o 1, .o 1] [(φ1 1), (φ1 1)], .store 1 [.o 2, .o 2] [(φ1 2), (φ1 2)]]), (fun φ2 xs2 => [.agg #[.int .u64 ((b : Nat) : Int), .pointer p], .agg #[.int .u64 (((xs2 1).n 0 : Nat) : Int), .pointer ((xs2 1).p 0)], .pointer (some ⟨(φ1 0), 0, none⟩), .int .u64 ((b : Nat) : Int), .agg #[.int .u64 ((((xs2 1).n 0) + b : Nat) : Int), .pointer ((xs2 1).p 0)], .agg #[.int .u64 ((b : Nat) : Int), .pointer p], .agg #[.int .u64 (((xs2 6).n 0 : Nat) : Int), .pointer ((xs2 6).p 0)], .pointer (some ⟨(φ1 0), 0, none⟩), .int .u64 ((b : Nat) : Int), .agg #[.int .u64 ((((xs2 6).n 0) + b : Nat) : Int), .pointer ((xs2 6).p 0)], undef, undef]), (fun φ2 xs2 => [[((φ1 0), .cells #[.int .u64 ((b : Nat) : Int), .pointer p] 27), ((φ1 1), .cells #[.int .u64 0, .pointer none] 27), ((φ1 2), .cells #[.int .u64 0, .pointer none] 27)], [((φ1 0), .cells #[.int .u64 ((b : Nat) : Int), .pointer p] 27), ((φ1 1), .cells #[.int .u64 ((((xs2 1).n 0) + b : Nat) : Int), .pointer ((xs2 1).p 0)] 27), ((φ1 2), .cells #[.int .u64 0, .pointer none] 27)], [((φ1 0), .cells #[.int .u64 ((b : Nat) : Int), .pointer p] 27), ((φ1 1), .cells #[.int .u64 ((((xs2 1).n 0) + b : Nat) : Int), .pointer ((xs2 1).p 0)] 27), ((φ1 2), .cells #[.int .u64 ((((xs2 6).n 0) + b : Nat) : Int), .pointer ((xs2 6).p 0)] 27)]]), (fun φ2 xs2 => [[default, default, default, default, default, default, default, default, default, default, default, default], [default, default, default, default, default, default, default, default, default, default, default, default], [default, default, default, default, default, default, default, default, default, default, default, default]]), [10, 11], [1, 3, 1, 1, 3, 1, 3, 1, 1, 3, 4, 4]⟩ (fun j => ([MP.any, ⟨fun x J => ERep J (E.left t) (x.n 0) (x.p 0), fun le h => ERep.mono le h⟩, MP.any, MP.any, MP.any, MP.any, ⟨fun x J => ERep J (E.right t) (x.n 0) (x.p 0), fun le h => ERep.mono le h⟩, MP.any, MP.any, MP.any, MP.any, MP.any] : List MP).getD j MP.any) [1, 4, 6, 9] [] [] (fun φ2 xs2 => [[none, none, none, none, none, none, none, none, none, none, none, none], [none, none, none, none, none, none, none, none, none, none, none, none]]) (fun φ2 xs2 => [(4, .agg #[.int .u64 ((b : Nat) : Int), .pointer p]), (5, .agg #[.int .u64 (((xs2 1).n 0 : Nat) : Int), .pointer ((xs2 1).p 0)]), (6, .pointer (some ⟨(φ1 0), 0, none⟩)), (7, .int .u64 ((b : Nat) : Int)), (8, .agg #[.int .u64 ((((xs2 1).n 0) + b : Nat) : Int), .pointer ((xs2 1).p 0)]), (9, .agg #[.int .u64 ((b : Nat) : Int), .pointer p]), (10, .agg #[.int .u64 (((xs2 6).n 0 : Nat) : Int), .pointer ((xs2 6).p 0)]), (11, .pointer (some ⟨(φ1 0), 0, none⟩)), (12, .int .u64 ((b : Nat) : Int)), (13, .agg #[.int .u64 ((((xs2 6).n 0) + b : Nat) : Int), .pointer ((xs2 6).p 0)])]) (fun φ2 xs2 => [((φ1 0), .cells #[.int .u64 ((b : Nat) : Int), .pointer p] 27), ((φ1 1), .cells #[.int .u64 ((((xs2 1).n 0) + b : Nat) : Int), .pointer ((xs2 1).p 0)] 27), ((φ1 2), .cells #[.int .u64 ((((xs2 6).n 0) + b : Nat) : Int), .pointer ((xs2 6).p 0)] 27)]) s trivial (by kernel_rfl) (by kernel_rfl) (fun _ _ => by kernel_rfl) (fun _ _ => by kernel_rfl) ⟨fun _ _ => by kernel_rfl, fun _ _ => by kernel_rfl, fun _ _ => by kernel_rfl, fun _ _ => by kernel_rfl⟩ (fun _ _ _ => by kernel_rfl) (fun _ _ => by kernel_rfl) (fun _ _ => by kernel_rfl) (fun _ _ => by kernel_rfl) (fun _ _ => by kernel_rfl) (fun _ _ => by kernel_rfl) trivial trivial (by kernel_rfl) ⟨?c2_1, ?c2_4, ?c2_6, ?c2_9, trivial⟩ ?k2
  case c2_1 =>
    refine kcast (A := ∀ (φ2 : Nat → Nat) (xs2 : Xs) (J1_2 : IM), I.Le J1_2 → Fun Tryd.prog 39 #[.agg #[.int .u64 ((b : Nat) : Int), .pointer p]] J1_2 (fun v J' => ∃ x : UX, v = .agg #[.int .u64 ((x.n 0 : Nat) : Int), .pointer (x.p 0)] ∧ (ERep J' (E.left t) (x.n 0) (x.p 0)))) (by kernel_rfl) ?_
    intro φ2 xs2 J1_2 leJ
    have h := ERep.mono leJ h
    exact Fun.mono (left_c h) (fun v J' _ ⟨y0, y1, hv, g0⟩ => ⟨{ UX.d with n := fun j => y0, p := fun j => y1 }, hv, g0⟩)
  case c2_4 =>
    refine kcast (A := ∀ (φ2 : Nat → Nat) (xs2 : Xs) (J4_2 : IM), I.Le J4_2 → (ERep J4_2 (E.left t) ((xs2 1).n 0) ((xs2 1).p 0)) → Fun Tryd.prog 103 #[.agg #[.int .u64 (((xs2 1).n 0 : Nat) : Int), .pointer ((xs2 1).p 0)], .int .u64 ((b : Nat) : Int)] J4_2 (fun v J' => ∃ x : UX, v = .agg #[.int .u64 ((((xs2 1).n 0) + b : Nat) : Int), .pointer ((xs2 1).p 0)] ∧ (True))) (by kernel_rfl) ?_
    intro φ2 xs2 J4_2 leJ
    rintro h2_1_0
    exact Fun.mono (lift_c h2_1_0 (by have e1 := ERep.base h2_1_0; omega)) (fun v J' _ h => ⟨UX.d, h, trivial⟩)
  case c2_6 =>
    refine kcast (A := ∀ (φ2 : Nat → Nat) (xs2 : Xs) (J6_2 : IM), I.Le J6_2 → (ERep J6_2 (E.left t) ((xs2 1).n 0) ((xs2 1).p 0)) → (True) → Fun Tryd.prog 40 #[.agg #[.int .u64 ((b : Nat) : Int), .pointer p]] J6_2 (fun v J' => ∃ x : UX, v = .agg #[.int .u64 ((x.n 0 : Nat) : Int), .pointer (x.p 0)] ∧ (ERep J' (E.right t) (x.n 0) (x.p 0)))) (by kernel_rfl) ?_
    intro φ2 xs2 J6_2 leJ
    rintro h2_1_0 _
    have h := ERep.mono leJ h
    exact Fun.mono (right_c h) (fun v J' _ ⟨y0, y1, hv, g0⟩ => ⟨{ UX.d with n := fun j => y0, p := fun j => y1 }, hv, g0⟩)
  case c2_9 =>
    refine kcast (A := ∀ (φ2 : Nat → Nat) (xs2 : Xs) (J9_2 : IM), I.Le J9_2 → (ERep J9_2 (E.left t) ((xs2 1).n 0) ((xs2 1).p 0)) → (True) → (ERep J9_2 (E.right t) ((xs2 6).n 0) ((xs2 6).p 0)) → Fun Tryd.prog 103 #[.agg #[.int .u64 (((xs2 6).n 0 : Nat) : Int), .pointer ((xs2 6).p 0)], .int .u64 ((b : Nat) : Int)] J9_2 (fun v J' => ∃ x : UX, v = .agg #[.int .u64 ((((xs2 6).n 0) + b : Nat) : Int), .pointer ((xs2 6).p 0)] ∧ (True))) (by kernel_rfl) ?_
    intro φ2 xs2 J9_2 leJ
    rintro h2_1_0 _ h2_6_0
    exact Fun.mono (lift_c h2_6_0 (by have e1 := ERep.base h2_6_0; omega)) (fun v J' _ h => ⟨UX.d, h, trivial⟩)
  case k2 =>
    rintro φ2 xs2 I2 w2 le2 s h2_1_0 _ h2_6_0 _
    replace h := ERep.mono le2 h
    refine wp_ret ?_
    refine ret_rule (C := []) [((φ1 0), .cells #[.int .u64 ((b : Nat) : Int), .pointer p] 27), ((φ1 1), .cells #[.int .u64 ((((xs2 1).n 0) + b : Nat) : Int), .pointer ((xs2 1).p 0)] 27), ((φ1 2), .cells #[.int .u64 ((((xs2 6).n 0) + b : Nat) : Int), .pointer ((xs2 6).p 0)] 27)] [] (.tuple #[.agg #[.int .u64 ((((xs2 1).n 0) + b : Nat) : Int), .pointer ((xs2 1).p 0)], .agg #[.int .u64 ((((xs2 6).n 0) + b : Nat) : Int), .pointer ((xs2 6).p 0)]]) [.o 1, .o 1, .o 2, .o 2] [(φ1 1), (φ1 1), (φ1 2), (φ1 2)] s trivial (by kernel_rfl) ?_
    exact ⟨_, _, _, rfl, s, ⟨_, _, _, _, rfl, (ERep.up b h2_1_0), (ERep.up b h2_6_0)⟩⟩

set_option maxHeartbeats 400000 in
theorem leafOk_c {I : IM} {n : Nat} (hn : n ≤ 1048576) : Fun Tryd.prog 33 #[.int .u64 ((n : Nat) : Int)] I (fun v J => v = .tuple #[evv n none, .int .i64 0]) := by
  refine enter_rule 9 [(0, .int .u64 ((n : Nat) : Int))] Tryd.func33 rfl (by kernel_rfl) ?_
  intro w s
  refine wp_seq ?_
  refine region_rule ?_
  refine ops_rule (C := []) [] [] 2 [] 1 (fun φ1 => [(3, .int .i64 0), (2, .pointer (some ⟨(φ1 0), 0, none⟩))]) (fun φ1 => [((φ1 0), .cells #[.int .u64 0, .pointer none] 27)]) (fun φ1 => []) s trivial (fun φ1 => by kernel_rfl) ?_
  intro φ1 w1 s
  refine ops_done (by kernel_rfl) ?_
  refine wp_seq ?_
  refine wp_seq ?_
  refine region_rule ?_
  refine ops_rule (C := []) [((φ1 0), .cells #[.int .u64 0, .pointer none] 27)] [] 2 [] 0 (fun φ2 => [(5, .bool (decide (((n : Nat) : Int) > ((1048576 : Nat) : Int)))), (4, .int .u64 ((n : Nat) : Int))]) (fun φ2 => [((φ1 0), .cells #[.int .u64 0, .pointer none] 27)]) (fun φ2 => []) s trivial (fun φ2 => by kernel_rfl) ?_
  intro φ2 w2 s
  rw [nat_gtr (a := n) (b := 1048576)]
  refine ops_done (by kernel_rfl) ?_
  rcases Bool.eq_false_or_eq_true (decide (1048576 < n)) with hc3 | hc3
  ·
    simp at hc3; omega
  ·
    rw [hc3]
    refine cond_false_rule (b := false) (by kernel_rfl) rfl ?_
    refine wp_skip ?_
    refine wp_seq ?_
    refine region_rule ?_
    refine ops_rule (C := []) [((φ1 0), .cells #[.int .u64 0, .pointer none] 27)] [] 4 [.o 0, .o 0] 0 (fun φ4 => [(3, .int .i64 0), (8, .agg #[.int .u64 ((n : Nat) : Int), .pointer none]), (7, .int .u64 ((n : Nat) : Int))]) (fun φ4 => [((φ1 0), .cells #[.int .u64 ((n : Nat) : Int), .pointer none] 27)]) (fun φ4 => [(φ1 0), (φ1 0)]) s trivial (fun φ4 => by kernel_rfl) ?_
    intro φ4 w4 s
    refine ops_done (by kernel_rfl) ?_
    refine wp_ret ?_
    refine ret_rule (C := []) [((φ1 0), .cells #[.int .u64 ((n : Nat) : Int), .pointer none] 27)] [] (.tuple #[.agg #[.int .u64 ((n : Nat) : Int), .pointer none], .int .i64 0]) [.o 0, .o 0] [(φ1 0), (φ1 0)] s trivial (by kernel_rfl) ?_
    exact ⟨_, _, _, rfl, s, rfl⟩

set_option maxHeartbeats 400000 in
theorem leafNo_c {I : IM} {n : Nat} (hn : 1048576 < n) : Fun Tryd.prog 33 #[.int .u64 ((n : Nat) : Int)] I (fun v J => v = .tuple #[evv 0 none, .int .i64 4]) := by
  refine enter_rule 9 [(0, .int .u64 ((n : Nat) : Int))] Tryd.func33 rfl (by kernel_rfl) ?_
  intro w s
  refine wp_seq ?_
  refine region_rule ?_
  refine ops_rule (C := []) [] [] 2 [] 1 (fun φ1 => [(3, .int .i64 0), (2, .pointer (some ⟨(φ1 0), 0, none⟩))]) (fun φ1 => [((φ1 0), .cells #[.int .u64 0, .pointer none] 27)]) (fun φ1 => []) s trivial (fun φ1 => by kernel_rfl) ?_
  intro φ1 w1 s
  refine ops_done (by kernel_rfl) ?_
  refine wp_seq ?_
  refine wp_seq ?_
  refine region_rule ?_
  refine ops_rule (C := []) [((φ1 0), .cells #[.int .u64 0, .pointer none] 27)] [] 2 [] 0 (fun φ2 => [(5, .bool (decide (((n : Nat) : Int) > ((1048576 : Nat) : Int)))), (4, .int .u64 ((n : Nat) : Int))]) (fun φ2 => [((φ1 0), .cells #[.int .u64 0, .pointer none] 27)]) (fun φ2 => []) s trivial (fun φ2 => by kernel_rfl) ?_
  intro φ2 w2 s
  rw [nat_gtr (a := n) (b := 1048576)]
  refine ops_done (by kernel_rfl) ?_
  rcases Bool.eq_false_or_eq_true (decide (1048576 < n)) with hc3 | hc3
  ·
    rw [hc3]
    refine cond_true_rule (b := true) (by kernel_rfl) rfl ?_
    refine wp_seq ?_
    refine region_rule ?_
    refine ops_rule (C := []) [((φ1 0), .cells #[.int .u64 0, .pointer none] 27)] [] 3 [.o 0, .o 0] 0 (fun φ4 => [(3, .int .i64 4), (6, .agg #[.int .u64 0, .pointer none])]) (fun φ4 => [((φ1 0), .cells #[.int .u64 0, .pointer none] 27)]) (fun φ4 => [(φ1 0), (φ1 0)]) s trivial (fun φ4 => by kernel_rfl) ?_
    intro φ4 w4 s
    refine ops_done (by kernel_rfl) ?_
    refine wp_ret ?_
    refine ret_rule (C := []) [((φ1 0), .cells #[.int .u64 0, .pointer none] 27)] [] (.tuple #[.agg #[.int .u64 0, .pointer none], .int .i64 4]) [.o 0, .o 0] [(φ1 0), (φ1 0)] s trivial (by kernel_rfl) ?_
    exact ⟨_, _, _, rfl, s, rfl⟩
  ·
    simp at hc3; omega

set_option maxHeartbeats 1000000 in
theorem node_c {I : IM} {n : Nat} {l r : E} {bl br : Nat} {pl pr : Option Addr} (hl : ERep I l bl pl) (hr : ERep I r br pr) (hn : n + max l.top r.top < 18446744073709551616) (hdl : l.depth ≤ 1000) (hdr : r.depth ≤ 1000) : Fun Tryd.prog 70 #[.int .u64 ((n : Nat) : Int), evv bl pl, evv br pr] I (fun v J => ∃ b p, v = evv b p ∧ ERep J (E.mk n l r) b p) := by
  have hbl := ERep.base hl
  have hbr := ERep.base hr
  have hb1 := E.base_le l
  have hb2 := E.base_le r
  have hd1 := E.dn_top (min bl br) l
  have hd2 := E.dn_top (min bl br) r
  have he1 := E.dn_depth (min bl br) l
  have he2 := E.dn_depth (min bl br) r
  refine enter_rule 60 [(0, .int .u64 ((n : Nat) : Int)), (1, .agg #[.int .u64 ((bl : Nat) : Int), .pointer pl]), (2, .agg #[.int .u64 ((br : Nat) : Int), .pointer pr])] Tryd.func70 rfl (by kernel_rfl) ?_
  intro w s
  refine wp_seq ?_
  refine region_rule ?_
  refine ops_rule (C := []) [] [] 3 [] 3 (fun φ1 => [(6, .pointer (some ⟨(φ1 2), 0, none⟩)), (5, .pointer (some ⟨(φ1 1), 0, none⟩)), (4, .pointer (some ⟨(φ1 0), 0, none⟩))]) (fun φ1 => [((φ1 0), .cells #[.int .u64 ((bl : Nat) : Int), .pointer pl] 27), ((φ1 1), .cells #[.int .u64 ((br : Nat) : Int), .pointer pr] 27), ((φ1 2), .cells #[.int .u64 0, .pointer none] 27)]) (fun φ1 => []) s trivial (fun φ1 => by kernel_rfl) ?_
  intro φ1 w1 s
  refine ops_done (by kernel_rfl) ?_
  refine wp_seq ?_
  refine wp_seq ?_
  refine region_rule ?_
  refine ops_rule (C := []) [((φ1 0), .cells #[.int .u64 ((bl : Nat) : Int), .pointer pl] 27), ((φ1 1), .cells #[.int .u64 ((br : Nat) : Int), .pointer pr] 27), ((φ1 2), .cells #[.int .u64 0, .pointer none] 27)] [] 1 [.o 0, .o 0] 0 (fun φ2 => [(8, .agg #[.int .u64 ((bl : Nat) : Int), .pointer pl])]) (fun φ2 => [((φ1 0), .cells #[.int .u64 ((bl : Nat) : Int), .pointer pl] 27), ((φ1 1), .cells #[.int .u64 ((br : Nat) : Int), .pointer pr] 27), ((φ1 2), .cells #[.int .u64 0, .pointer none] 27)]) (fun φ2 => [(φ1 0), (φ1 0)]) s trivial (fun φ2 => by kernel_rfl) ?_
  intro φ2 w2 s
  refine call_rule (some 9) s (isLeaf_c hl) (by kernel_rfl) ?_
  intro v3 I3 w3 le3 h3 s
  replace hl := ERep.mono le3 hl
  replace hr := ERep.mono le3 hr
  obtain rfl := h3
  refine ops_rule (C := []) [((φ1 0), .cells #[.int .u64 ((bl : Nat) : Int), .pointer pl] 27), ((φ1 1), .cells #[.int .u64 ((br : Nat) : Int), .pointer pr] 27), ((φ1 2), .cells #[.int .u64 0, .pointer none] 27)] [] 1 [] 0 (fun φ4 => [(10, .bool (E.isLeaf l))]) (fun φ4 => [((φ1 0), .cells #[.int .u64 ((bl : Nat) : Int), .pointer pl] 27), ((φ1 1), .cells #[.int .u64 ((br : Nat) : Int), .pointer pr] 27), ((φ1 2), .cells #[.int .u64 0, .pointer none] 27)]) (fun φ4 => []) s trivial (fun φ4 => by kernel_rfl) ?_
  intro φ4 w4 s
  rcases Bool.eq_false_or_eq_true (E.isLeaf l) with hc5 | hc5
  ·
    rw [hc5]
    refine ops_rule (C := []) [((φ1 0), .cells #[.int .u64 ((bl : Nat) : Int), .pointer pl] 27), ((φ1 1), .cells #[.int .u64 ((br : Nat) : Int), .pointer pr] 27), ((φ1 2), .cells #[.int .u64 0, .pointer none] 27)] [] 1 [.o 1, .o 1] 0 (fun φ6 => [(11, .agg #[.int .u64 ((br : Nat) : Int), .pointer pr])]) (fun φ6 => [((φ1 0), .cells #[.int .u64 ((bl : Nat) : Int), .pointer pl] 27), ((φ1 1), .cells #[.int .u64 ((br : Nat) : Int), .pointer pr] 27), ((φ1 2), .cells #[.int .u64 0, .pointer none] 27)]) (fun φ6 => [(φ1 1), (φ1 1)]) s trivial (fun φ6 => by kernel_rfl) ?_
    intro φ6 w6 s
    refine call_rule (some 12) s (isLeaf_c hr) (by kernel_rfl) ?_
    intro v7 I7 w7 le7 h7 s
    replace hl := ERep.mono le7 hl
    replace hr := ERep.mono le7 hr
    obtain rfl := h7
    refine ops_rule (C := []) [((φ1 0), .cells #[.int .u64 ((bl : Nat) : Int), .pointer pl] 27), ((φ1 1), .cells #[.int .u64 ((br : Nat) : Int), .pointer pr] 27), ((φ1 2), .cells #[.int .u64 0, .pointer none] 27)] [] 2 [] 0 (fun φ8 => [(14, .bool (E.isLeaf r)), (13, .bool (E.isLeaf r))]) (fun φ8 => [((φ1 0), .cells #[.int .u64 ((bl : Nat) : Int), .pointer pl] 27), ((φ1 1), .cells #[.int .u64 ((br : Nat) : Int), .pointer pr] 27), ((φ1 2), .cells #[.int .u64 0, .pointer none] 27)]) (fun φ8 => []) s trivial (fun φ8 => by kernel_rfl) ?_
    intro φ8 w8 s
    rcases Bool.eq_false_or_eq_true (E.isLeaf r) with hc9 | hc9
    ·
      rw [hc9]
      refine ops_rule (C := []) [((φ1 0), .cells #[.int .u64 ((bl : Nat) : Int), .pointer pl] 27), ((φ1 1), .cells #[.int .u64 ((br : Nat) : Int), .pointer pr] 27), ((φ1 2), .cells #[.int .u64 0, .pointer none] 27)] [] 6 [.o 0, .o 1] 0 (fun φ10 => [(20, .bool (((bl : Nat) : Int) == ((br : Nat) : Int))), (19, .bool (((bl : Nat) : Int) == ((br : Nat) : Int))), (18, .int .u64 ((br : Nat) : Int)), (17, .pointer (some ⟨(φ1 1), 0, none⟩)), (16, .int .u64 ((bl : Nat) : Int)), (15, .pointer (some ⟨(φ1 0), 0, none⟩))]) (fun φ10 => [((φ1 0), .cells #[.int .u64 ((bl : Nat) : Int), .pointer pl] 27), ((φ1 1), .cells #[.int .u64 ((br : Nat) : Int), .pointer pr] 27), ((φ1 2), .cells #[.int .u64 0, .pointer none] 27)]) (fun φ10 => [(φ1 0), (φ1 1)]) s trivial (fun φ10 => by kernel_rfl) ?_
      intro φ10 w10 s
      rw [nat_eql (a := bl) (b := br)]
      refine ops_done (by kernel_rfl) ?_
      rcases Bool.eq_false_or_eq_true (decide (bl = br)) with hc11 | hc11
      ·
        rw [hc11]
        refine cond_true_rule (b := true) (by kernel_rfl) rfl ?_
        refine wp_seq ?_
        refine region_rule ?_
        refine ops_rule (C := []) [((φ1 0), .cells #[.int .u64 ((bl : Nat) : Int), .pointer pl] 27), ((φ1 1), .cells #[.int .u64 ((br : Nat) : Int), .pointer pr] 27), ((φ1 2), .cells #[.int .u64 0, .pointer none] 27)] [] 6 [.o 0, .o 2, .o 2] 0 (fun φ12 => [(25, .agg #[.int .u64 (IntKind.wrap .u64 (((n : Nat) : Int) + ((bl : Nat) : Int))), .pointer none]), (24, .int .u64 (IntKind.wrap .u64 (((n : Nat) : Int) + ((bl : Nat) : Int)))), (23, .int .u64 ((bl : Nat) : Int)), (22, .pointer (some ⟨(φ1 0), 0, none⟩)), (21, .int .u64 ((n : Nat) : Int))]) (fun φ12 => [((φ1 0), .cells #[.int .u64 ((bl : Nat) : Int), .pointer pl] 27), ((φ1 1), .cells #[.int .u64 ((br : Nat) : Int), .pointer pr] 27), ((φ1 2), .cells #[.int .u64 (IntKind.wrap .u64 (((n : Nat) : Int) + ((bl : Nat) : Int))), .pointer none] 27)]) (fun φ12 => [(φ1 0), (φ1 2), (φ1 2)]) s trivial (fun φ12 => by kernel_rfl) ?_
        intro φ12 w12 s
        rw [nat_addU (a := n) (b := bl) (by omega)] at s ⊢
        refine ops_done (by kernel_rfl) ?_
        refine wp_ret ?_
        refine ret_rule (C := []) [((φ1 0), .cells #[.int .u64 ((bl : Nat) : Int), .pointer pl] 27), ((φ1 1), .cells #[.int .u64 ((br : Nat) : Int), .pointer pr] 27), ((φ1 2), .cells #[.int .u64 ((n + bl : Nat) : Int), .pointer none] 27)] [] (.agg #[.int .u64 ((n + bl : Nat) : Int), .pointer none]) [.o 2, .o 2] [(φ1 2), (φ1 2)] s trivial (by kernel_rfl) ?_
        exact ⟨_, _, _, rfl, s, ⟨_, none, rfl, by rw [E.mk, if_pos ⟨hc5, hc9, by rw [← hbl, ← hbr]; exact of_decide_eq_true hc11⟩, ← hbl]; exact ⟨rfl, rfl⟩⟩⟩
      ·
        rw [hc11]
        refine cond_false_rule (b := false) (by kernel_rfl) rfl ?_
        refine wp_skip ?_
        refine wp_seq ?_
        refine region_rule ?_
        refine ops_rule (C := []) [((φ1 0), .cells #[.int .u64 ((bl : Nat) : Int), .pointer pl] 27), ((φ1 1), .cells #[.int .u64 ((br : Nat) : Int), .pointer pr] 27), ((φ1 2), .cells #[.int .u64 0, .pointer none] 27)] [] 6 [.o 0, .o 1] 0 (fun φ13 => [(7, .int .u64 (if ((br : Nat) : Int) < ((bl : Nat) : Int) then ((br : Nat) : Int) else ((bl : Nat) : Int))), (30, .int .u64 (if ((br : Nat) : Int) < ((bl : Nat) : Int) then ((br : Nat) : Int) else ((bl : Nat) : Int))), (29, .int .u64 ((br : Nat) : Int)), (28, .pointer (some ⟨(φ1 1), 0, none⟩)), (27, .int .u64 ((bl : Nat) : Int)), (26, .pointer (some ⟨(φ1 0), 0, none⟩))]) (fun φ13 => [((φ1 0), .cells #[.int .u64 ((bl : Nat) : Int), .pointer pl] 27), ((φ1 1), .cells #[.int .u64 ((br : Nat) : Int), .pointer pr] 27), ((φ1 2), .cells #[.int .u64 0, .pointer none] 27)]) (fun φ13 => [(φ1 0), (φ1 1)]) s trivial (fun φ13 => by kernel_rfl) ?_
        intro φ13 w13 s
        rw [nat_min (a := bl) (b := br)]
        refine ops_done (by kernel_rfl) ?_
        refine wp_seq ?_
        refine region_rule ?_
        refine ops_rule (C := []) [((φ1 0), .cells #[.int .u64 ((bl : Nat) : Int), .pointer pl] 27), ((φ1 1), .cells #[.int .u64 ((br : Nat) : Int), .pointer pr] 27), ((φ1 2), .cells #[.int .u64 0, .pointer none] 27)] [] 6 [.o 0, .o 0] 0 (fun φ14 => [(35, .pointer (some ⟨(φ1 0), 0, none⟩)), (34, .int .u64 (IntKind.wrap .u64 (((bl : Nat) : Int) - ((min bl br : Nat) : Int)))), (33, .int .u64 ((min bl br : Nat) : Int)), (32, .int .u64 ((bl : Nat) : Int)), (31, .pointer (some ⟨(φ1 0), 0, none⟩))]) (fun φ14 => [((φ1 0), .cells #[.int .u64 (IntKind.wrap .u64 (((bl : Nat) : Int) - ((min bl br : Nat) : Int))), .pointer pl] 27), ((φ1 1), .cells #[.int .u64 ((br : Nat) : Int), .pointer pr] 27), ((φ1 2), .cells #[.int .u64 0, .pointer none] 27)]) (fun φ14 => [(φ1 0), (φ1 0)]) s trivial (fun φ14 => by kernel_rfl) ?_
        intro φ14 w14 s
        rw [nat_subU (a := bl) (b := (min bl br)) (by omega) (by omega)] at s ⊢
        refine ops_done (by kernel_rfl) ?_
        refine wp_seq ?_
        refine region_rule ?_
        refine ops_rule (C := []) [((φ1 0), .cells #[.int .u64 ((bl - (min bl br) : Nat) : Int), .pointer pl] 27), ((φ1 1), .cells #[.int .u64 ((br : Nat) : Int), .pointer pr] 27), ((φ1 2), .cells #[.int .u64 0, .pointer none] 27)] [] 6 [.o 1, .o 1] 0 (fun φ15 => [(40, .pointer (some ⟨(φ1 1), 0, none⟩)), (39, .int .u64 (IntKind.wrap .u64 (((br : Nat) : Int) - ((min bl br : Nat) : Int)))), (38, .int .u64 ((min bl br : Nat) : Int)), (37, .int .u64 ((br : Nat) : Int)), (36, .pointer (some ⟨(φ1 1), 0, none⟩))]) (fun φ15 => [((φ1 0), .cells #[.int .u64 ((bl - (min bl br) : Nat) : Int), .pointer pl] 27), ((φ1 1), .cells #[.int .u64 (IntKind.wrap .u64 (((br : Nat) : Int) - ((min bl br : Nat) : Int))), .pointer pr] 27), ((φ1 2), .cells #[.int .u64 0, .pointer none] 27)]) (fun φ15 => [(φ1 1), (φ1 1)]) s trivial (fun φ15 => by kernel_rfl) ?_
        intro φ15 w15 s
        rw [nat_subU (a := br) (b := (min bl br)) (by omega) (by omega)] at s ⊢
        refine ops_done (by kernel_rfl) ?_
        refine wp_seq ?_
        refine draw_rule (C := []) ⟨(fun φ16 xs16 => [.look 0 [] [], .look 0 [] [], .sub 0 [] [] (.int .u64 (IntKind.wrap .u64 (((n : Nat) : Int) + ((min bl br : Nat) : Int)))), .look 0 [.o 0, .o 0] [(φ1 0), (φ1 0)], .look 0 [.o 1, .o 1] [(φ1 1), (φ1 1)], .look 0 [.o 0, .o 0] [(φ1 0), (φ1 0)], .call 34 #[.agg #[.int .u64 ((bl - (min bl br) : Nat) : Int), .pointer pl]], .look 0 [.o 1, .o 1] [(φ1 1), (φ1 1)], .call 34 #[.agg #[.int .u64 ((br - (min bl br) : Nat) : Int), .pointer pr]], .sub 0 [] [] (.int .u64 (if ((E.top (E.dn (min bl br) r) : Nat) : Int) > ((E.top (E.dn (min bl br) l) : Nat) : Int) then ((E.top (E.dn (min bl br) r) : Nat) : Int) else ((E.top (E.dn (min bl br) l) : Nat) : Int))), .look 0 [.o 0, .o 0] [(φ1 0), (φ1 0)], .call 35 #[.agg #[.int .u64 ((bl - (min bl br) : Nat) : Int), .pointer pl]], .look 0 [.o 1, .o 1] [(φ1 1), (φ1 1)], .call 35 #[.agg #[.int .u64 ((br - (min bl br) : Nat) : Int), .pointer pr]], .sub 0 [] [] (.int .i64 (if ((E.depth (E.dn (min bl br) r) : Nat) : Int) > ((E.depth (E.dn (min bl br) l) : Nat) : Int) then ((E.depth (E.dn (min bl br) r) : Nat) : Int) else ((E.depth (E.dn (min bl br) l) : Nat) : Int))), .sub 0 [] [] (.int .i64 (IntKind.wrap .i64 (((1 : Nat) : Int) + ((max (E.depth (E.dn (min bl br) l)) (E.depth (E.dn (min bl br) r)) : Nat) : Int)))), .look 0 [] [], .new, .look 0 [] [], .store 0 [.o 2, .o 2] [(φ1 2), (φ1 2)]]), (fun φ16 xs16 => [.int .u64 ((n : Nat) : Int), .int .u64 ((min bl br : Nat) : Int), .int .u64 ((n + (min bl br) : Nat) : Int), .agg #[.int .u64 ((bl - (min bl br) : Nat) : Int), .pointer pl], .agg #[.int .u64 ((br - (min bl br) : Nat) : Int), .pointer pr], .agg #[.int .u64 ((bl - (min bl br) : Nat) : Int), .pointer pl], .int .u64 ((E.top (E.dn (min bl br) l) : Nat) : Int), .agg #[.int .u64 ((br - (min bl br) : Nat) : Int), .pointer pr], .int .u64 ((E.top (E.dn (min bl br) r) : Nat) : Int), .int .u64 ((max (E.top (E.dn (min bl br) l)) (E.top (E.dn (min bl br) r)) : Nat) : Int), .agg #[.int .u64 ((bl - (min bl br) : Nat) : Int), .pointer pl], .int .i64 ((E.depth (E.dn (min bl br) l) : Nat) : Int), .agg #[.int .u64 ((br - (min bl br) : Nat) : Int), .pointer pr], .int .i64 ((E.depth (E.dn (min bl br) r) : Nat) : Int), .int .i64 ((max (E.depth (E.dn (min bl br) l)) (E.depth (E.dn (min bl br) r)) : Nat) : Int), .int .i64 ((1 + (max (E.depth (E.dn (min bl br) l)) (E.depth (E.dn (min bl br) r))) : Nat) : Int), .agg #[.int .u64 ((bl - (min bl br) : Nat) : Int), .pointer pl, .int .u64 ((br - (min bl br) : Nat) : Int), .pointer pr, .int .u64 ((max (E.top (E.dn (min bl br) l)) (E.top (E.dn (min bl br) r)) : Nat) : Int), .int .i64 ((1 + (max (E.depth (E.dn (min bl br) l)) (E.depth (E.dn (min bl br) r))) : Nat) : Int)], .pointer (some ⟨(φ16 17), 0, none⟩), .agg #[.int .u64 ((n + (min bl br) : Nat) : Int), .pointer (some ⟨(φ16 17), 0, none⟩)], undef]), (fun φ16 xs16 => [[((φ1 0), .cells #[.int .u64 ((bl - (min bl br) : Nat) : Int), .pointer pl] 27), ((φ1 1), .cells #[.int .u64 ((br - (min bl br) : Nat) : Int), .pointer pr] 27), ((φ1 2), .cells #[.int .u64 0, .pointer none] 27)], [((φ1 0), .cells #[.int .u64 ((bl - (min bl br) : Nat) : Int), .pointer pl] 27), ((φ1 1), .cells #[.int .u64 ((br - (min bl br) : Nat) : Int), .pointer pr] 27), ((φ1 2), .cells #[.int .u64 ((n + (min bl br) : Nat) : Int), .pointer (some ⟨(φ16 17), 0, none⟩)] 27)]]), (fun φ16 xs16 => [[default, default, default, default, default, default, default, default, default, default, default, default, default, default, default, default, default, .cells #[.int .u64 ((bl - (min bl br) : Nat) : Int), .pointer pl, .int .u64 ((br - (min bl br) : Nat) : Int), .pointer pr, .int .u64 ((max (E.top (E.dn (min bl br) l)) (E.top (E.dn (min bl br) r)) : Nat) : Int), .int .i64 ((1 + (max (E.depth (E.dn (min bl br) l)) (E.depth (E.dn (min bl br) r))) : Nat) : Int)] 124, default, default], [default, default, default, default, default, default, default, default, default, default, default, default, default, default, default, default, default, .cells #[.int .u64 ((bl - (min bl br) : Nat) : Int), .pointer pl, .int .u64 ((br - (min bl br) : Nat) : Int), .pointer pr, .int .u64 ((max (E.top (E.dn (min bl br) l)) (E.top (E.dn (min bl br) r)) : Nat) : Int), .int .i64 ((1 + (max (E.depth (E.dn (min bl br) l)) (E.depth (E.dn (min bl br) r))) : Nat) : Int)] 124, default, default]]), [19], [1, 1, 5, 1, 1, 1, 3, 1, 3, 5, 1, 3, 1, 3, 5, 5, 1, 2, 1, 4]⟩ (fun j => ([MP.any, MP.any, MP.any, MP.any, MP.any, MP.any, MP.any, MP.any, MP.any, MP.any, MP.any, MP.any, MP.any, MP.any, MP.any, MP.any, MP.any, MP.any, MP.any, MP.any] : List MP).getD j MP.any) [6, 8, 11, 13] [2, 9, 14, 15] [] (fun φ16 xs16 => [[none, none, none, none, none, none, none, none, none, none, none, none, none, none, none, none, none, none, none, none]]) (fun φ16 xs16 => [(41, .int .u64 ((n : Nat) : Int)), (42, .int .u64 ((min bl br : Nat) : Int)), (43, .int .u64 ((n + (min bl br) : Nat) : Int)), (44, .agg #[.int .u64 ((bl - (min bl br) : Nat) : Int), .pointer pl]), (45, .agg #[.int .u64 ((br - (min bl br) : Nat) : Int), .pointer pr]), (46, .agg #[.int .u64 ((bl - (min bl br) : Nat) : Int), .pointer pl]), (47, .int .u64 ((E.top (E.dn (min bl br) l) : Nat) : Int)), (48, .agg #[.int .u64 ((br - (min bl br) : Nat) : Int), .pointer pr]), (49, .int .u64 ((E.top (E.dn (min bl br) r) : Nat) : Int)), (50, .int .u64 ((max (E.top (E.dn (min bl br) l)) (E.top (E.dn (min bl br) r)) : Nat) : Int)), (51, .agg #[.int .u64 ((bl - (min bl br) : Nat) : Int), .pointer pl]), (52, .int .i64 ((E.depth (E.dn (min bl br) l) : Nat) : Int)), (53, .agg #[.int .u64 ((br - (min bl br) : Nat) : Int), .pointer pr]), (54, .int .i64 ((E.depth (E.dn (min bl br) r) : Nat) : Int)), (55, .int .i64 ((max (E.depth (E.dn (min bl br) l)) (E.depth (E.dn (min bl br) r)) : Nat) : Int)), (56, .int .i64 ((1 + (max (E.depth (E.dn (min bl br) l)) (E.depth (E.dn (min bl br) r))) : Nat) : Int)), (57, .agg #[.int .u64 ((bl - (min bl br) : Nat) : Int), .pointer pl, .int .u64 ((br - (min bl br) : Nat) : Int), .pointer pr, .int .u64 ((max (E.top (E.dn (min bl br) l)) (E.top (E.dn (min bl br) r)) : Nat) : Int), .int .i64 ((1 + (max (E.depth (E.dn (min bl br) l)) (E.depth (E.dn (min bl br) r))) : Nat) : Int)]), (58, .pointer (some ⟨(φ16 17), 0, none⟩)), (59, .agg #[.int .u64 ((n + (min bl br) : Nat) : Int), .pointer (some ⟨(φ16 17), 0, none⟩)])]) (fun φ16 xs16 => [((φ1 0), .cells #[.int .u64 ((bl - (min bl br) : Nat) : Int), .pointer pl] 27), ((φ1 1), .cells #[.int .u64 ((br - (min bl br) : Nat) : Int), .pointer pr] 27), ((φ1 2), .cells #[.int .u64 ((n + (min bl br) : Nat) : Int), .pointer (some ⟨(φ16 17), 0, none⟩)] 27), ((φ16 17), .cells #[.int .u64 ((bl - (min bl br) : Nat) : Int), .pointer pl, .int .u64 ((br - (min bl br) : Nat) : Int), .pointer pr, .int .u64 ((max (E.top (E.dn (min bl br) l)) (E.top (E.dn (min bl br) r)) : Nat) : Int), .int .i64 ((1 + (max (E.depth (E.dn (min bl br) l)) (E.depth (E.dn (min bl br) r))) : Nat) : Int)] 124)]) s trivial (by kernel_rfl) (by kernel_rfl) (fun _ _ => by kernel_rfl) (fun _ _ => by kernel_rfl) ⟨fun _ _ => by kernel_rfl, fun _ _ => by kernel_rfl, fun _ _ => by kernel_rfl, fun _ _ => by kernel_rfl⟩ (fun _ _ _ => by kernel_rfl) (fun _ _ => by kernel_rfl) (fun _ _ => by kernel_rfl) (fun _ _ => by kernel_rfl) (fun _ _ => by kernel_rfl) (fun _ _ => by kernel_rfl) ⟨kcast (A := ∀ (φ16 : Nat → Nat) (xs16 : Xs), (.int .u64 (IntKind.wrap .u64 (((n : Nat) : Int) + ((min bl br : Nat) : Int))) : Value) = .int .u64 ((n + (min bl br) : Nat) : Int)) (by kernel_rfl) (fun φ16 xs16 => congrArg (Value.int .u64) ((nat_addU (a := n) (b := (min bl br)) (by omega)))), ⟨kcast (A := ∀ (φ16 : Nat → Nat) (xs16 : Xs), (.int .u64 (if ((E.top (E.dn (min bl br) r) : Nat) : Int) > ((E.top (E.dn (min bl br) l) : Nat) : Int) then ((E.top (E.dn (min bl br) r) : Nat) : Int) else ((E.top (E.dn (min bl br) l) : Nat) : Int)) : Value) = .int .u64 ((max (E.top (E.dn (min bl br) l)) (E.top (E.dn (min bl br) r)) : Nat) : Int)) (by kernel_rfl) (fun φ16 xs16 => congrArg (Value.int .u64) ((nat_max (a := (E.top (E.dn (min bl br) l))) (b := (E.top (E.dn (min bl br) r)))))), ⟨kcast (A := ∀ (φ16 : Nat → Nat) (xs16 : Xs), (.int .i64 (if ((E.depth (E.dn (min bl br) r) : Nat) : Int) > ((E.depth (E.dn (min bl br) l) : Nat) : Int) then ((E.depth (E.dn (min bl br) r) : Nat) : Int) else ((E.depth (E.dn (min bl br) l) : Nat) : Int)) : Value) = .int .i64 ((max (E.depth (E.dn (min bl br) l)) (E.depth (E.dn (min bl br) r)) : Nat) : Int)) (by kernel_rfl) (fun φ16 xs16 => congrArg (Value.int .i64) ((nat_max (a := (E.depth (E.dn (min bl br) l))) (b := (E.depth (E.dn (min bl br) r)))))), ⟨kcast (A := ∀ (φ16 : Nat → Nat) (xs16 : Xs), (.int .i64 (IntKind.wrap .i64 (((1 : Nat) : Int) + ((max (E.depth (E.dn (min bl br) l)) (E.depth (E.dn (min bl br) r)) : Nat) : Int))) : Value) = .int .i64 ((1 + (max (E.depth (E.dn (min bl br) l)) (E.depth (E.dn (min bl br) r))) : Nat) : Int)) (by kernel_rfl) (fun φ16 xs16 => congrArg (Value.int .i64) ((nat_addI (a := 1) (b := (max (E.depth (E.dn (min bl br) l)) (E.depth (E.dn (min bl br) r)))) (by omega)))), trivial⟩⟩⟩⟩ trivial (by kernel_rfl) ⟨?c16_6, ?c16_8, ?c16_11, ?c16_13, trivial⟩ ?k16
        case c16_6 =>
          refine kcast (A := ∀ (φ16 : Nat → Nat) (xs16 : Xs) (J6_16 : IM), I7.Le J6_16 → Fun Tryd.prog 34 #[.agg #[.int .u64 ((bl - (min bl br) : Nat) : Int), .pointer pl]] J6_16 (fun v J' => ∃ x : UX, v = .int .u64 ((E.top (E.dn (min bl br) l) : Nat) : Int) ∧ (True))) (by kernel_rfl) ?_
          intro φ16 xs16 J6_16 leJ
          have hl := ERep.mono leJ hl
          exact Fun.mono (max_c (ERep.dn (min bl br) hl) (by omega)) (fun v J' _ h => ⟨UX.d, h, trivial⟩)
        case c16_8 =>
          refine kcast (A := ∀ (φ16 : Nat → Nat) (xs16 : Xs) (J8_16 : IM), I7.Le J8_16 → (True) → Fun Tryd.prog 34 #[.agg #[.int .u64 ((br - (min bl br) : Nat) : Int), .pointer pr]] J8_16 (fun v J' => ∃ x : UX, v = .int .u64 ((E.top (E.dn (min bl br) r) : Nat) : Int) ∧ (True))) (by kernel_rfl) ?_
          intro φ16 xs16 J8_16 leJ
          rintro _
          have hr := ERep.mono leJ hr
          exact Fun.mono (max_c (ERep.dn (min bl br) hr) (by omega)) (fun v J' _ h => ⟨UX.d, h, trivial⟩)
        case c16_11 =>
          refine kcast (A := ∀ (φ16 : Nat → Nat) (xs16 : Xs) (J11_16 : IM), I7.Le J11_16 → (True) → (True) → Fun Tryd.prog 35 #[.agg #[.int .u64 ((bl - (min bl br) : Nat) : Int), .pointer pl]] J11_16 (fun v J' => ∃ x : UX, v = .int .i64 ((E.depth (E.dn (min bl br) l) : Nat) : Int) ∧ (True))) (by kernel_rfl) ?_
          intro φ16 xs16 J11_16 leJ
          rintro _ _
          have hl := ERep.mono leJ hl
          exact Fun.mono (depth_c (ERep.dn (min bl br) hl)) (fun v J' _ h => ⟨UX.d, h, trivial⟩)
        case c16_13 =>
          refine kcast (A := ∀ (φ16 : Nat → Nat) (xs16 : Xs) (J13_16 : IM), I7.Le J13_16 → (True) → (True) → (True) → Fun Tryd.prog 35 #[.agg #[.int .u64 ((br - (min bl br) : Nat) : Int), .pointer pr]] J13_16 (fun v J' => ∃ x : UX, v = .int .i64 ((E.depth (E.dn (min bl br) r) : Nat) : Int) ∧ (True))) (by kernel_rfl) ?_
          intro φ16 xs16 J13_16 leJ
          rintro _ _ _
          have hr := ERep.mono leJ hr
          exact Fun.mono (depth_c (ERep.dn (min bl br) hr)) (fun v J' _ h => ⟨UX.d, h, trivial⟩)
        case k16 =>
          rintro φ16 xs16 I16 w16 le16 s _ _ _ _
          replace hl := ERep.mono le16 hl
          replace hr := ERep.mono le16 hr
          refine wp_ret ?_
          refine ret_rule (C := []) [((φ1 0), .cells #[.int .u64 ((bl - (min bl br) : Nat) : Int), .pointer pl] 27), ((φ1 1), .cells #[.int .u64 ((br - (min bl br) : Nat) : Int), .pointer pr] 27), ((φ1 2), .cells #[.int .u64 ((n + (min bl br) : Nat) : Int), .pointer (some ⟨(φ16 17), 0, none⟩)] 27), ((φ16 17), .cells #[.int .u64 ((bl - (min bl br) : Nat) : Int), .pointer pl, .int .u64 ((br - (min bl br) : Nat) : Int), .pointer pr, .int .u64 ((max (E.top (E.dn (min bl br) l)) (E.top (E.dn (min bl br) r)) : Nat) : Int), .int .i64 ((1 + (max (E.depth (E.dn (min bl br) l)) (E.depth (E.dn (min bl br) r))) : Nat) : Int)] 124)] [] (.agg #[.int .u64 ((n + (min bl br) : Nat) : Int), .pointer (some ⟨(φ16 17), 0, none⟩)]) [.o 2, .o 2] [(φ1 2), (φ1 2)] s trivial (by kernel_rfl) ?_
          obtain ⟨I17, le17, hk17, s⟩ := s.freezeAt 3 (φ16 17) (.cells #[.int .u64 ((bl - (min bl br) : Nat) : Int), .pointer pl, .int .u64 ((br - (min bl br) : Nat) : Int), .pointer pr, .int .u64 ((max (E.top (E.dn (min bl br) l)) (E.top (E.dn (min bl br) r)) : Nat) : Int), .int .i64 ((1 + (max (E.depth (E.dn (min bl br) l)) (E.depth (E.dn (min bl br) r))) : Nat) : Int)] 124) [((φ1 0), .cells #[.int .u64 ((bl - (min bl br) : Nat) : Int), .pointer pl] 27), ((φ1 1), .cells #[.int .u64 ((br - (min bl br) : Nat) : Int), .pointer pr] 27), ((φ1 2), .cells #[.int .u64 ((n + (min bl br) : Nat) : Int), .pointer (some ⟨(φ16 17), 0, none⟩)] 27)] (by kernel_rfl) (by kernel_rfl)
          replace hl := ERep.mono le17 hl
          replace hr := ERep.mono le17 hr
          exact ⟨_, _, _, rfl, s, ⟨_, _, rfl, by rw [E.mk, if_neg (fun h => of_decide_eq_false hc11 (by rw [hbl, hbr]; exact h.2.2)), ← hbl, ← hbr]; exact ⟨rfl, _, _, _, _, _, rfl, hk17, ERep.dn _ hl, ERep.dn _ hr⟩⟩⟩
    ·
      rw [hc9]
      refine ops_rule (C := []) [((φ1 0), .cells #[.int .u64 ((bl : Nat) : Int), .pointer pl] 27), ((φ1 1), .cells #[.int .u64 ((br : Nat) : Int), .pointer pr] 27), ((φ1 2), .cells #[.int .u64 0, .pointer none] 27)] [] 6 [] 0 (fun φ18 => [(20, .bool false), (19, undef), (18, undef), (17, undef), (16, undef), (15, undef)]) (fun φ18 => [((φ1 0), .cells #[.int .u64 ((bl : Nat) : Int), .pointer pl] 27), ((φ1 1), .cells #[.int .u64 ((br : Nat) : Int), .pointer pr] 27), ((φ1 2), .cells #[.int .u64 0, .pointer none] 27)]) (fun φ18 => []) s trivial (fun φ18 => by kernel_rfl) ?_
      intro φ18 w18 s
      refine ops_done (by kernel_rfl) ?_
      refine cond_false_rule (b := false) (by kernel_rfl) rfl ?_
      refine wp_skip ?_
      refine wp_seq ?_
      refine region_rule ?_
      refine ops_rule (C := []) [((φ1 0), .cells #[.int .u64 ((bl : Nat) : Int), .pointer pl] 27), ((φ1 1), .cells #[.int .u64 ((br : Nat) : Int), .pointer pr] 27), ((φ1 2), .cells #[.int .u64 0, .pointer none] 27)] [] 6 [.o 0, .o 1] 0 (fun φ19 => [(7, .int .u64 (if ((br : Nat) : Int) < ((bl : Nat) : Int) then ((br : Nat) : Int) else ((bl : Nat) : Int))), (30, .int .u64 (if ((br : Nat) : Int) < ((bl : Nat) : Int) then ((br : Nat) : Int) else ((bl : Nat) : Int))), (29, .int .u64 ((br : Nat) : Int)), (28, .pointer (some ⟨(φ1 1), 0, none⟩)), (27, .int .u64 ((bl : Nat) : Int)), (26, .pointer (some ⟨(φ1 0), 0, none⟩))]) (fun φ19 => [((φ1 0), .cells #[.int .u64 ((bl : Nat) : Int), .pointer pl] 27), ((φ1 1), .cells #[.int .u64 ((br : Nat) : Int), .pointer pr] 27), ((φ1 2), .cells #[.int .u64 0, .pointer none] 27)]) (fun φ19 => [(φ1 0), (φ1 1)]) s trivial (fun φ19 => by kernel_rfl) ?_
      intro φ19 w19 s
      rw [nat_min (a := bl) (b := br)]
      refine ops_done (by kernel_rfl) ?_
      refine wp_seq ?_
      refine region_rule ?_
      refine ops_rule (C := []) [((φ1 0), .cells #[.int .u64 ((bl : Nat) : Int), .pointer pl] 27), ((φ1 1), .cells #[.int .u64 ((br : Nat) : Int), .pointer pr] 27), ((φ1 2), .cells #[.int .u64 0, .pointer none] 27)] [] 6 [.o 0, .o 0] 0 (fun φ20 => [(35, .pointer (some ⟨(φ1 0), 0, none⟩)), (34, .int .u64 (IntKind.wrap .u64 (((bl : Nat) : Int) - ((min bl br : Nat) : Int)))), (33, .int .u64 ((min bl br : Nat) : Int)), (32, .int .u64 ((bl : Nat) : Int)), (31, .pointer (some ⟨(φ1 0), 0, none⟩))]) (fun φ20 => [((φ1 0), .cells #[.int .u64 (IntKind.wrap .u64 (((bl : Nat) : Int) - ((min bl br : Nat) : Int))), .pointer pl] 27), ((φ1 1), .cells #[.int .u64 ((br : Nat) : Int), .pointer pr] 27), ((φ1 2), .cells #[.int .u64 0, .pointer none] 27)]) (fun φ20 => [(φ1 0), (φ1 0)]) s trivial (fun φ20 => by kernel_rfl) ?_
      intro φ20 w20 s
      rw [nat_subU (a := bl) (b := (min bl br)) (by omega) (by omega)] at s ⊢
      refine ops_done (by kernel_rfl) ?_
      refine wp_seq ?_
      refine region_rule ?_
      refine ops_rule (C := []) [((φ1 0), .cells #[.int .u64 ((bl - (min bl br) : Nat) : Int), .pointer pl] 27), ((φ1 1), .cells #[.int .u64 ((br : Nat) : Int), .pointer pr] 27), ((φ1 2), .cells #[.int .u64 0, .pointer none] 27)] [] 6 [.o 1, .o 1] 0 (fun φ21 => [(40, .pointer (some ⟨(φ1 1), 0, none⟩)), (39, .int .u64 (IntKind.wrap .u64 (((br : Nat) : Int) - ((min bl br : Nat) : Int)))), (38, .int .u64 ((min bl br : Nat) : Int)), (37, .int .u64 ((br : Nat) : Int)), (36, .pointer (some ⟨(φ1 1), 0, none⟩))]) (fun φ21 => [((φ1 0), .cells #[.int .u64 ((bl - (min bl br) : Nat) : Int), .pointer pl] 27), ((φ1 1), .cells #[.int .u64 (IntKind.wrap .u64 (((br : Nat) : Int) - ((min bl br : Nat) : Int))), .pointer pr] 27), ((φ1 2), .cells #[.int .u64 0, .pointer none] 27)]) (fun φ21 => [(φ1 1), (φ1 1)]) s trivial (fun φ21 => by kernel_rfl) ?_
      intro φ21 w21 s
      rw [nat_subU (a := br) (b := (min bl br)) (by omega) (by omega)] at s ⊢
      refine ops_done (by kernel_rfl) ?_
      refine wp_seq ?_
      refine draw_rule (C := []) ⟨(fun φ22 xs22 => [.look 0 [] [], .look 0 [] [], .sub 0 [] [] (.int .u64 (IntKind.wrap .u64 (((n : Nat) : Int) + ((min bl br : Nat) : Int)))), .look 0 [.o 0, .o 0] [(φ1 0), (φ1 0)], .look 0 [.o 1, .o 1] [(φ1 1), (φ1 1)], .look 0 [.o 0, .o 0] [(φ1 0), (φ1 0)], .call 34 #[.agg #[.int .u64 ((bl - (min bl br) : Nat) : Int), .pointer pl]], .look 0 [.o 1, .o 1] [(φ1 1), (φ1 1)], .call 34 #[.agg #[.int .u64 ((br - (min bl br) : Nat) : Int), .pointer pr]], .sub 0 [] [] (.int .u64 (if ((E.top (E.dn (min bl br) r) : Nat) : Int) > ((E.top (E.dn (min bl br) l) : Nat) : Int) then ((E.top (E.dn (min bl br) r) : Nat) : Int) else ((E.top (E.dn (min bl br) l) : Nat) : Int))), .look 0 [.o 0, .o 0] [(φ1 0), (φ1 0)], .call 35 #[.agg #[.int .u64 ((bl - (min bl br) : Nat) : Int), .pointer pl]], .look 0 [.o 1, .o 1] [(φ1 1), (φ1 1)], .call 35 #[.agg #[.int .u64 ((br - (min bl br) : Nat) : Int), .pointer pr]], .sub 0 [] [] (.int .i64 (if ((E.depth (E.dn (min bl br) r) : Nat) : Int) > ((E.depth (E.dn (min bl br) l) : Nat) : Int) then ((E.depth (E.dn (min bl br) r) : Nat) : Int) else ((E.depth (E.dn (min bl br) l) : Nat) : Int))), .sub 0 [] [] (.int .i64 (IntKind.wrap .i64 (((1 : Nat) : Int) + ((max (E.depth (E.dn (min bl br) l)) (E.depth (E.dn (min bl br) r)) : Nat) : Int)))), .look 0 [] [], .new, .look 0 [] [], .store 0 [.o 2, .o 2] [(φ1 2), (φ1 2)]]), (fun φ22 xs22 => [.int .u64 ((n : Nat) : Int), .int .u64 ((min bl br : Nat) : Int), .int .u64 ((n + (min bl br) : Nat) : Int), .agg #[.int .u64 ((bl - (min bl br) : Nat) : Int), .pointer pl], .agg #[.int .u64 ((br - (min bl br) : Nat) : Int), .pointer pr], .agg #[.int .u64 ((bl - (min bl br) : Nat) : Int), .pointer pl], .int .u64 ((E.top (E.dn (min bl br) l) : Nat) : Int), .agg #[.int .u64 ((br - (min bl br) : Nat) : Int), .pointer pr], .int .u64 ((E.top (E.dn (min bl br) r) : Nat) : Int), .int .u64 ((max (E.top (E.dn (min bl br) l)) (E.top (E.dn (min bl br) r)) : Nat) : Int), .agg #[.int .u64 ((bl - (min bl br) : Nat) : Int), .pointer pl], .int .i64 ((E.depth (E.dn (min bl br) l) : Nat) : Int), .agg #[.int .u64 ((br - (min bl br) : Nat) : Int), .pointer pr], .int .i64 ((E.depth (E.dn (min bl br) r) : Nat) : Int), .int .i64 ((max (E.depth (E.dn (min bl br) l)) (E.depth (E.dn (min bl br) r)) : Nat) : Int), .int .i64 ((1 + (max (E.depth (E.dn (min bl br) l)) (E.depth (E.dn (min bl br) r))) : Nat) : Int), .agg #[.int .u64 ((bl - (min bl br) : Nat) : Int), .pointer pl, .int .u64 ((br - (min bl br) : Nat) : Int), .pointer pr, .int .u64 ((max (E.top (E.dn (min bl br) l)) (E.top (E.dn (min bl br) r)) : Nat) : Int), .int .i64 ((1 + (max (E.depth (E.dn (min bl br) l)) (E.depth (E.dn (min bl br) r))) : Nat) : Int)], .pointer (some ⟨(φ22 17), 0, none⟩), .agg #[.int .u64 ((n + (min bl br) : Nat) : Int), .pointer (some ⟨(φ22 17), 0, none⟩)], undef]), (fun φ22 xs22 => [[((φ1 0), .cells #[.int .u64 ((bl - (min bl br) : Nat) : Int), .pointer pl] 27), ((φ1 1), .cells #[.int .u64 ((br - (min bl br) : Nat) : Int), .pointer pr] 27), ((φ1 2), .cells #[.int .u64 0, .pointer none] 27)], [((φ1 0), .cells #[.int .u64 ((bl - (min bl br) : Nat) : Int), .pointer pl] 27), ((φ1 1), .cells #[.int .u64 ((br - (min bl br) : Nat) : Int), .pointer pr] 27), ((φ1 2), .cells #[.int .u64 ((n + (min bl br) : Nat) : Int), .pointer (some ⟨(φ22 17), 0, none⟩)] 27)]]), (fun φ22 xs22 => [[default, default, default, default, default, default, default, default, default, default, default, default, default, default, default, default, default, .cells #[.int .u64 ((bl - (min bl br) : Nat) : Int), .pointer pl, .int .u64 ((br - (min bl br) : Nat) : Int), .pointer pr, .int .u64 ((max (E.top (E.dn (min bl br) l)) (E.top (E.dn (min bl br) r)) : Nat) : Int), .int .i64 ((1 + (max (E.depth (E.dn (min bl br) l)) (E.depth (E.dn (min bl br) r))) : Nat) : Int)] 124, default, default], [default, default, default, default, default, default, default, default, default, default, default, default, default, default, default, default, default, .cells #[.int .u64 ((bl - (min bl br) : Nat) : Int), .pointer pl, .int .u64 ((br - (min bl br) : Nat) : Int), .pointer pr, .int .u64 ((max (E.top (E.dn (min bl br) l)) (E.top (E.dn (min bl br) r)) : Nat) : Int), .int .i64 ((1 + (max (E.depth (E.dn (min bl br) l)) (E.depth (E.dn (min bl br) r))) : Nat) : Int)] 124, default, default]]), [19], [1, 1, 5, 1, 1, 1, 3, 1, 3, 5, 1, 3, 1, 3, 5, 5, 1, 2, 1, 4]⟩ (fun j => ([MP.any, MP.any, MP.any, MP.any, MP.any, MP.any, MP.any, MP.any, MP.any, MP.any, MP.any, MP.any, MP.any, MP.any, MP.any, MP.any, MP.any, MP.any, MP.any, MP.any] : List MP).getD j MP.any) [6, 8, 11, 13] [2, 9, 14, 15] [] (fun φ22 xs22 => [[none, none, none, none, none, none, none, none, none, none, none, none, none, none, none, none, none, none, none, none]]) (fun φ22 xs22 => [(41, .int .u64 ((n : Nat) : Int)), (42, .int .u64 ((min bl br : Nat) : Int)), (43, .int .u64 ((n + (min bl br) : Nat) : Int)), (44, .agg #[.int .u64 ((bl - (min bl br) : Nat) : Int), .pointer pl]), (45, .agg #[.int .u64 ((br - (min bl br) : Nat) : Int), .pointer pr]), (46, .agg #[.int .u64 ((bl - (min bl br) : Nat) : Int), .pointer pl]), (47, .int .u64 ((E.top (E.dn (min bl br) l) : Nat) : Int)), (48, .agg #[.int .u64 ((br - (min bl br) : Nat) : Int), .pointer pr]), (49, .int .u64 ((E.top (E.dn (min bl br) r) : Nat) : Int)), (50, .int .u64 ((max (E.top (E.dn (min bl br) l)) (E.top (E.dn (min bl br) r)) : Nat) : Int)), (51, .agg #[.int .u64 ((bl - (min bl br) : Nat) : Int), .pointer pl]), (52, .int .i64 ((E.depth (E.dn (min bl br) l) : Nat) : Int)), (53, .agg #[.int .u64 ((br - (min bl br) : Nat) : Int), .pointer pr]), (54, .int .i64 ((E.depth (E.dn (min bl br) r) : Nat) : Int)), (55, .int .i64 ((max (E.depth (E.dn (min bl br) l)) (E.depth (E.dn (min bl br) r)) : Nat) : Int)), (56, .int .i64 ((1 + (max (E.depth (E.dn (min bl br) l)) (E.depth (E.dn (min bl br) r))) : Nat) : Int)), (57, .agg #[.int .u64 ((bl - (min bl br) : Nat) : Int), .pointer pl, .int .u64 ((br - (min bl br) : Nat) : Int), .pointer pr, .int .u64 ((max (E.top (E.dn (min bl br) l)) (E.top (E.dn (min bl br) r)) : Nat) : Int), .int .i64 ((1 + (max (E.depth (E.dn (min bl br) l)) (E.depth (E.dn (min bl br) r))) : Nat) : Int)]), (58, .pointer (some ⟨(φ22 17), 0, none⟩)), (59, .agg #[.int .u64 ((n + (min bl br) : Nat) : Int), .pointer (some ⟨(φ22 17), 0, none⟩)])]) (fun φ22 xs22 => [((φ1 0), .cells #[.int .u64 ((bl - (min bl br) : Nat) : Int), .pointer pl] 27), ((φ1 1), .cells #[.int .u64 ((br - (min bl br) : Nat) : Int), .pointer pr] 27), ((φ1 2), .cells #[.int .u64 ((n + (min bl br) : Nat) : Int), .pointer (some ⟨(φ22 17), 0, none⟩)] 27), ((φ22 17), .cells #[.int .u64 ((bl - (min bl br) : Nat) : Int), .pointer pl, .int .u64 ((br - (min bl br) : Nat) : Int), .pointer pr, .int .u64 ((max (E.top (E.dn (min bl br) l)) (E.top (E.dn (min bl br) r)) : Nat) : Int), .int .i64 ((1 + (max (E.depth (E.dn (min bl br) l)) (E.depth (E.dn (min bl br) r))) : Nat) : Int)] 124)]) s trivial (by kernel_rfl) (by kernel_rfl) (fun _ _ => by kernel_rfl) (fun _ _ => by kernel_rfl) ⟨fun _ _ => by kernel_rfl, fun _ _ => by kernel_rfl, fun _ _ => by kernel_rfl, fun _ _ => by kernel_rfl⟩ (fun _ _ _ => by kernel_rfl) (fun _ _ => by kernel_rfl) (fun _ _ => by kernel_rfl) (fun _ _ => by kernel_rfl) (fun _ _ => by kernel_rfl) (fun _ _ => by kernel_rfl) ⟨kcast (A := ∀ (φ22 : Nat → Nat) (xs22 : Xs), (.int .u64 (IntKind.wrap .u64 (((n : Nat) : Int) + ((min bl br : Nat) : Int))) : Value) = .int .u64 ((n + (min bl br) : Nat) : Int)) (by kernel_rfl) (fun φ22 xs22 => congrArg (Value.int .u64) ((nat_addU (a := n) (b := (min bl br)) (by omega)))), ⟨kcast (A := ∀ (φ22 : Nat → Nat) (xs22 : Xs), (.int .u64 (if ((E.top (E.dn (min bl br) r) : Nat) : Int) > ((E.top (E.dn (min bl br) l) : Nat) : Int) then ((E.top (E.dn (min bl br) r) : Nat) : Int) else ((E.top (E.dn (min bl br) l) : Nat) : Int)) : Value) = .int .u64 ((max (E.top (E.dn (min bl br) l)) (E.top (E.dn (min bl br) r)) : Nat) : Int)) (by kernel_rfl) (fun φ22 xs22 => congrArg (Value.int .u64) ((nat_max (a := (E.top (E.dn (min bl br) l))) (b := (E.top (E.dn (min bl br) r)))))), ⟨kcast (A := ∀ (φ22 : Nat → Nat) (xs22 : Xs), (.int .i64 (if ((E.depth (E.dn (min bl br) r) : Nat) : Int) > ((E.depth (E.dn (min bl br) l) : Nat) : Int) then ((E.depth (E.dn (min bl br) r) : Nat) : Int) else ((E.depth (E.dn (min bl br) l) : Nat) : Int)) : Value) = .int .i64 ((max (E.depth (E.dn (min bl br) l)) (E.depth (E.dn (min bl br) r)) : Nat) : Int)) (by kernel_rfl) (fun φ22 xs22 => congrArg (Value.int .i64) ((nat_max (a := (E.depth (E.dn (min bl br) l))) (b := (E.depth (E.dn (min bl br) r)))))), ⟨kcast (A := ∀ (φ22 : Nat → Nat) (xs22 : Xs), (.int .i64 (IntKind.wrap .i64 (((1 : Nat) : Int) + ((max (E.depth (E.dn (min bl br) l)) (E.depth (E.dn (min bl br) r)) : Nat) : Int))) : Value) = .int .i64 ((1 + (max (E.depth (E.dn (min bl br) l)) (E.depth (E.dn (min bl br) r))) : Nat) : Int)) (by kernel_rfl) (fun φ22 xs22 => congrArg (Value.int .i64) ((nat_addI (a := 1) (b := (max (E.depth (E.dn (min bl br) l)) (E.depth (E.dn (min bl br) r)))) (by omega)))), trivial⟩⟩⟩⟩ trivial (by kernel_rfl) ⟨?c22_6, ?c22_8, ?c22_11, ?c22_13, trivial⟩ ?k22
      case c22_6 =>
        refine kcast (A := ∀ (φ22 : Nat → Nat) (xs22 : Xs) (J6_22 : IM), I7.Le J6_22 → Fun Tryd.prog 34 #[.agg #[.int .u64 ((bl - (min bl br) : Nat) : Int), .pointer pl]] J6_22 (fun v J' => ∃ x : UX, v = .int .u64 ((E.top (E.dn (min bl br) l) : Nat) : Int) ∧ (True))) (by kernel_rfl) ?_
        intro φ22 xs22 J6_22 leJ
        have hl := ERep.mono leJ hl
        exact Fun.mono (max_c (ERep.dn (min bl br) hl) (by omega)) (fun v J' _ h => ⟨UX.d, h, trivial⟩)
      case c22_8 =>
        refine kcast (A := ∀ (φ22 : Nat → Nat) (xs22 : Xs) (J8_22 : IM), I7.Le J8_22 → (True) → Fun Tryd.prog 34 #[.agg #[.int .u64 ((br - (min bl br) : Nat) : Int), .pointer pr]] J8_22 (fun v J' => ∃ x : UX, v = .int .u64 ((E.top (E.dn (min bl br) r) : Nat) : Int) ∧ (True))) (by kernel_rfl) ?_
        intro φ22 xs22 J8_22 leJ
        rintro _
        have hr := ERep.mono leJ hr
        exact Fun.mono (max_c (ERep.dn (min bl br) hr) (by omega)) (fun v J' _ h => ⟨UX.d, h, trivial⟩)
      case c22_11 =>
        refine kcast (A := ∀ (φ22 : Nat → Nat) (xs22 : Xs) (J11_22 : IM), I7.Le J11_22 → (True) → (True) → Fun Tryd.prog 35 #[.agg #[.int .u64 ((bl - (min bl br) : Nat) : Int), .pointer pl]] J11_22 (fun v J' => ∃ x : UX, v = .int .i64 ((E.depth (E.dn (min bl br) l) : Nat) : Int) ∧ (True))) (by kernel_rfl) ?_
        intro φ22 xs22 J11_22 leJ
        rintro _ _
        have hl := ERep.mono leJ hl
        exact Fun.mono (depth_c (ERep.dn (min bl br) hl)) (fun v J' _ h => ⟨UX.d, h, trivial⟩)
      case c22_13 =>
        refine kcast (A := ∀ (φ22 : Nat → Nat) (xs22 : Xs) (J13_22 : IM), I7.Le J13_22 → (True) → (True) → (True) → Fun Tryd.prog 35 #[.agg #[.int .u64 ((br - (min bl br) : Nat) : Int), .pointer pr]] J13_22 (fun v J' => ∃ x : UX, v = .int .i64 ((E.depth (E.dn (min bl br) r) : Nat) : Int) ∧ (True))) (by kernel_rfl) ?_
        intro φ22 xs22 J13_22 leJ
        rintro _ _ _
        have hr := ERep.mono leJ hr
        exact Fun.mono (depth_c (ERep.dn (min bl br) hr)) (fun v J' _ h => ⟨UX.d, h, trivial⟩)
      case k22 =>
        rintro φ22 xs22 I22 w22 le22 s _ _ _ _
        replace hl := ERep.mono le22 hl
        replace hr := ERep.mono le22 hr
        refine wp_ret ?_
        refine ret_rule (C := []) [((φ1 0), .cells #[.int .u64 ((bl - (min bl br) : Nat) : Int), .pointer pl] 27), ((φ1 1), .cells #[.int .u64 ((br - (min bl br) : Nat) : Int), .pointer pr] 27), ((φ1 2), .cells #[.int .u64 ((n + (min bl br) : Nat) : Int), .pointer (some ⟨(φ22 17), 0, none⟩)] 27), ((φ22 17), .cells #[.int .u64 ((bl - (min bl br) : Nat) : Int), .pointer pl, .int .u64 ((br - (min bl br) : Nat) : Int), .pointer pr, .int .u64 ((max (E.top (E.dn (min bl br) l)) (E.top (E.dn (min bl br) r)) : Nat) : Int), .int .i64 ((1 + (max (E.depth (E.dn (min bl br) l)) (E.depth (E.dn (min bl br) r))) : Nat) : Int)] 124)] [] (.agg #[.int .u64 ((n + (min bl br) : Nat) : Int), .pointer (some ⟨(φ22 17), 0, none⟩)]) [.o 2, .o 2] [(φ1 2), (φ1 2)] s trivial (by kernel_rfl) ?_
        obtain ⟨I23, le23, hk23, s⟩ := s.freezeAt 3 (φ22 17) (.cells #[.int .u64 ((bl - (min bl br) : Nat) : Int), .pointer pl, .int .u64 ((br - (min bl br) : Nat) : Int), .pointer pr, .int .u64 ((max (E.top (E.dn (min bl br) l)) (E.top (E.dn (min bl br) r)) : Nat) : Int), .int .i64 ((1 + (max (E.depth (E.dn (min bl br) l)) (E.depth (E.dn (min bl br) r))) : Nat) : Int)] 124) [((φ1 0), .cells #[.int .u64 ((bl - (min bl br) : Nat) : Int), .pointer pl] 27), ((φ1 1), .cells #[.int .u64 ((br - (min bl br) : Nat) : Int), .pointer pr] 27), ((φ1 2), .cells #[.int .u64 ((n + (min bl br) : Nat) : Int), .pointer (some ⟨(φ22 17), 0, none⟩)] 27)] (by kernel_rfl) (by kernel_rfl)
        replace hl := ERep.mono le23 hl
        replace hr := ERep.mono le23 hr
        exact ⟨_, _, _, rfl, s, ⟨_, _, rfl, by rw [E.mk, if_neg (fun h => by rw [hc9] at h; cases h.2.1), ← hbl, ← hbr]; exact ⟨rfl, _, _, _, _, _, rfl, hk23, ERep.dn _ hl, ERep.dn _ hr⟩⟩⟩
  ·
    rw [hc5]
    refine ops_rule (C := []) [((φ1 0), .cells #[.int .u64 ((bl : Nat) : Int), .pointer pl] 27), ((φ1 1), .cells #[.int .u64 ((br : Nat) : Int), .pointer pr] 27), ((φ1 2), .cells #[.int .u64 0, .pointer none] 27)] [] 10 [] 0 (fun φ24 => [(20, .bool false), (19, undef), (18, undef), (17, undef), (16, undef), (15, undef), (14, .bool false), (13, .bool false), (12, undef), (11, undef)]) (fun φ24 => [((φ1 0), .cells #[.int .u64 ((bl : Nat) : Int), .pointer pl] 27), ((φ1 1), .cells #[.int .u64 ((br : Nat) : Int), .pointer pr] 27), ((φ1 2), .cells #[.int .u64 0, .pointer none] 27)]) (fun φ24 => []) s trivial (fun φ24 => by kernel_rfl) ?_
    intro φ24 w24 s
    refine ops_done (by kernel_rfl) ?_
    refine cond_false_rule (b := false) (by kernel_rfl) rfl ?_
    refine wp_skip ?_
    refine wp_seq ?_
    refine region_rule ?_
    refine ops_rule (C := []) [((φ1 0), .cells #[.int .u64 ((bl : Nat) : Int), .pointer pl] 27), ((φ1 1), .cells #[.int .u64 ((br : Nat) : Int), .pointer pr] 27), ((φ1 2), .cells #[.int .u64 0, .pointer none] 27)] [] 6 [.o 0, .o 1] 0 (fun φ25 => [(7, .int .u64 (if ((br : Nat) : Int) < ((bl : Nat) : Int) then ((br : Nat) : Int) else ((bl : Nat) : Int))), (30, .int .u64 (if ((br : Nat) : Int) < ((bl : Nat) : Int) then ((br : Nat) : Int) else ((bl : Nat) : Int))), (29, .int .u64 ((br : Nat) : Int)), (28, .pointer (some ⟨(φ1 1), 0, none⟩)), (27, .int .u64 ((bl : Nat) : Int)), (26, .pointer (some ⟨(φ1 0), 0, none⟩))]) (fun φ25 => [((φ1 0), .cells #[.int .u64 ((bl : Nat) : Int), .pointer pl] 27), ((φ1 1), .cells #[.int .u64 ((br : Nat) : Int), .pointer pr] 27), ((φ1 2), .cells #[.int .u64 0, .pointer none] 27)]) (fun φ25 => [(φ1 0), (φ1 1)]) s trivial (fun φ25 => by kernel_rfl) ?_
    intro φ25 w25 s
    rw [nat_min (a := bl) (b := br)]
    refine ops_done (by kernel_rfl) ?_
    refine wp_seq ?_
    refine region_rule ?_
    refine ops_rule (C := []) [((φ1 0), .cells #[.int .u64 ((bl : Nat) : Int), .pointer pl] 27), ((φ1 1), .cells #[.int .u64 ((br : Nat) : Int), .pointer pr] 27), ((φ1 2), .cells #[.int .u64 0, .pointer none] 27)] [] 6 [.o 0, .o 0] 0 (fun φ26 => [(35, .pointer (some ⟨(φ1 0), 0, none⟩)), (34, .int .u64 (IntKind.wrap .u64 (((bl : Nat) : Int) - ((min bl br : Nat) : Int)))), (33, .int .u64 ((min bl br : Nat) : Int)), (32, .int .u64 ((bl : Nat) : Int)), (31, .pointer (some ⟨(φ1 0), 0, none⟩))]) (fun φ26 => [((φ1 0), .cells #[.int .u64 (IntKind.wrap .u64 (((bl : Nat) : Int) - ((min bl br : Nat) : Int))), .pointer pl] 27), ((φ1 1), .cells #[.int .u64 ((br : Nat) : Int), .pointer pr] 27), ((φ1 2), .cells #[.int .u64 0, .pointer none] 27)]) (fun φ26 => [(φ1 0), (φ1 0)]) s trivial (fun φ26 => by kernel_rfl) ?_
    intro φ26 w26 s
    rw [nat_subU (a := bl) (b := (min bl br)) (by omega) (by omega)] at s ⊢
    refine ops_done (by kernel_rfl) ?_
    refine wp_seq ?_
    refine region_rule ?_
    refine ops_rule (C := []) [((φ1 0), .cells #[.int .u64 ((bl - (min bl br) : Nat) : Int), .pointer pl] 27), ((φ1 1), .cells #[.int .u64 ((br : Nat) : Int), .pointer pr] 27), ((φ1 2), .cells #[.int .u64 0, .pointer none] 27)] [] 6 [.o 1, .o 1] 0 (fun φ27 => [(40, .pointer (some ⟨(φ1 1), 0, none⟩)), (39, .int .u64 (IntKind.wrap .u64 (((br : Nat) : Int) - ((min bl br : Nat) : Int)))), (38, .int .u64 ((min bl br : Nat) : Int)), (37, .int .u64 ((br : Nat) : Int)), (36, .pointer (some ⟨(φ1 1), 0, none⟩))]) (fun φ27 => [((φ1 0), .cells #[.int .u64 ((bl - (min bl br) : Nat) : Int), .pointer pl] 27), ((φ1 1), .cells #[.int .u64 (IntKind.wrap .u64 (((br : Nat) : Int) - ((min bl br : Nat) : Int))), .pointer pr] 27), ((φ1 2), .cells #[.int .u64 0, .pointer none] 27)]) (fun φ27 => [(φ1 1), (φ1 1)]) s trivial (fun φ27 => by kernel_rfl) ?_
    intro φ27 w27 s
    rw [nat_subU (a := br) (b := (min bl br)) (by omega) (by omega)] at s ⊢
    refine ops_done (by kernel_rfl) ?_
    refine wp_seq ?_
    refine draw_rule (C := []) ⟨(fun φ28 xs28 => [.look 0 [] [], .look 0 [] [], .sub 0 [] [] (.int .u64 (IntKind.wrap .u64 (((n : Nat) : Int) + ((min bl br : Nat) : Int)))), .look 0 [.o 0, .o 0] [(φ1 0), (φ1 0)], .look 0 [.o 1, .o 1] [(φ1 1), (φ1 1)], .look 0 [.o 0, .o 0] [(φ1 0), (φ1 0)], .call 34 #[.agg #[.int .u64 ((bl - (min bl br) : Nat) : Int), .pointer pl]], .look 0 [.o 1, .o 1] [(φ1 1), (φ1 1)], .call 34 #[.agg #[.int .u64 ((br - (min bl br) : Nat) : Int), .pointer pr]], .sub 0 [] [] (.int .u64 (if ((E.top (E.dn (min bl br) r) : Nat) : Int) > ((E.top (E.dn (min bl br) l) : Nat) : Int) then ((E.top (E.dn (min bl br) r) : Nat) : Int) else ((E.top (E.dn (min bl br) l) : Nat) : Int))), .look 0 [.o 0, .o 0] [(φ1 0), (φ1 0)], .call 35 #[.agg #[.int .u64 ((bl - (min bl br) : Nat) : Int), .pointer pl]], .look 0 [.o 1, .o 1] [(φ1 1), (φ1 1)], .call 35 #[.agg #[.int .u64 ((br - (min bl br) : Nat) : Int), .pointer pr]], .sub 0 [] [] (.int .i64 (if ((E.depth (E.dn (min bl br) r) : Nat) : Int) > ((E.depth (E.dn (min bl br) l) : Nat) : Int) then ((E.depth (E.dn (min bl br) r) : Nat) : Int) else ((E.depth (E.dn (min bl br) l) : Nat) : Int))), .sub 0 [] [] (.int .i64 (IntKind.wrap .i64 (((1 : Nat) : Int) + ((max (E.depth (E.dn (min bl br) l)) (E.depth (E.dn (min bl br) r)) : Nat) : Int)))), .look 0 [] [], .new, .look 0 [] [], .store 0 [.o 2, .o 2] [(φ1 2), (φ1 2)]]), (fun φ28 xs28 => [.int .u64 ((n : Nat) : Int), .int .u64 ((min bl br : Nat) : Int), .int .u64 ((n + (min bl br) : Nat) : Int), .agg #[.int .u64 ((bl - (min bl br) : Nat) : Int), .pointer pl], .agg #[.int .u64 ((br - (min bl br) : Nat) : Int), .pointer pr], .agg #[.int .u64 ((bl - (min bl br) : Nat) : Int), .pointer pl], .int .u64 ((E.top (E.dn (min bl br) l) : Nat) : Int), .agg #[.int .u64 ((br - (min bl br) : Nat) : Int), .pointer pr], .int .u64 ((E.top (E.dn (min bl br) r) : Nat) : Int), .int .u64 ((max (E.top (E.dn (min bl br) l)) (E.top (E.dn (min bl br) r)) : Nat) : Int), .agg #[.int .u64 ((bl - (min bl br) : Nat) : Int), .pointer pl], .int .i64 ((E.depth (E.dn (min bl br) l) : Nat) : Int), .agg #[.int .u64 ((br - (min bl br) : Nat) : Int), .pointer pr], .int .i64 ((E.depth (E.dn (min bl br) r) : Nat) : Int), .int .i64 ((max (E.depth (E.dn (min bl br) l)) (E.depth (E.dn (min bl br) r)) : Nat) : Int), .int .i64 ((1 + (max (E.depth (E.dn (min bl br) l)) (E.depth (E.dn (min bl br) r))) : Nat) : Int), .agg #[.int .u64 ((bl - (min bl br) : Nat) : Int), .pointer pl, .int .u64 ((br - (min bl br) : Nat) : Int), .pointer pr, .int .u64 ((max (E.top (E.dn (min bl br) l)) (E.top (E.dn (min bl br) r)) : Nat) : Int), .int .i64 ((1 + (max (E.depth (E.dn (min bl br) l)) (E.depth (E.dn (min bl br) r))) : Nat) : Int)], .pointer (some ⟨(φ28 17), 0, none⟩), .agg #[.int .u64 ((n + (min bl br) : Nat) : Int), .pointer (some ⟨(φ28 17), 0, none⟩)], undef]), (fun φ28 xs28 => [[((φ1 0), .cells #[.int .u64 ((bl - (min bl br) : Nat) : Int), .pointer pl] 27), ((φ1 1), .cells #[.int .u64 ((br - (min bl br) : Nat) : Int), .pointer pr] 27), ((φ1 2), .cells #[.int .u64 0, .pointer none] 27)], [((φ1 0), .cells #[.int .u64 ((bl - (min bl br) : Nat) : Int), .pointer pl] 27), ((φ1 1), .cells #[.int .u64 ((br - (min bl br) : Nat) : Int), .pointer pr] 27), ((φ1 2), .cells #[.int .u64 ((n + (min bl br) : Nat) : Int), .pointer (some ⟨(φ28 17), 0, none⟩)] 27)]]), (fun φ28 xs28 => [[default, default, default, default, default, default, default, default, default, default, default, default, default, default, default, default, default, .cells #[.int .u64 ((bl - (min bl br) : Nat) : Int), .pointer pl, .int .u64 ((br - (min bl br) : Nat) : Int), .pointer pr, .int .u64 ((max (E.top (E.dn (min bl br) l)) (E.top (E.dn (min bl br) r)) : Nat) : Int), .int .i64 ((1 + (max (E.depth (E.dn (min bl br) l)) (E.depth (E.dn (min bl br) r))) : Nat) : Int)] 124, default, default], [default, default, default, default, default, default, default, default, default, default, default, default, default, default, default, default, default, .cells #[.int .u64 ((bl - (min bl br) : Nat) : Int), .pointer pl, .int .u64 ((br - (min bl br) : Nat) : Int), .pointer pr, .int .u64 ((max (E.top (E.dn (min bl br) l)) (E.top (E.dn (min bl br) r)) : Nat) : Int), .int .i64 ((1 + (max (E.depth (E.dn (min bl br) l)) (E.depth (E.dn (min bl br) r))) : Nat) : Int)] 124, default, default]]), [19], [1, 1, 5, 1, 1, 1, 3, 1, 3, 5, 1, 3, 1, 3, 5, 5, 1, 2, 1, 4]⟩ (fun j => ([MP.any, MP.any, MP.any, MP.any, MP.any, MP.any, MP.any, MP.any, MP.any, MP.any, MP.any, MP.any, MP.any, MP.any, MP.any, MP.any, MP.any, MP.any, MP.any, MP.any] : List MP).getD j MP.any) [6, 8, 11, 13] [2, 9, 14, 15] [] (fun φ28 xs28 => [[none, none, none, none, none, none, none, none, none, none, none, none, none, none, none, none, none, none, none, none]]) (fun φ28 xs28 => [(41, .int .u64 ((n : Nat) : Int)), (42, .int .u64 ((min bl br : Nat) : Int)), (43, .int .u64 ((n + (min bl br) : Nat) : Int)), (44, .agg #[.int .u64 ((bl - (min bl br) : Nat) : Int), .pointer pl]), (45, .agg #[.int .u64 ((br - (min bl br) : Nat) : Int), .pointer pr]), (46, .agg #[.int .u64 ((bl - (min bl br) : Nat) : Int), .pointer pl]), (47, .int .u64 ((E.top (E.dn (min bl br) l) : Nat) : Int)), (48, .agg #[.int .u64 ((br - (min bl br) : Nat) : Int), .pointer pr]), (49, .int .u64 ((E.top (E.dn (min bl br) r) : Nat) : Int)), (50, .int .u64 ((max (E.top (E.dn (min bl br) l)) (E.top (E.dn (min bl br) r)) : Nat) : Int)), (51, .agg #[.int .u64 ((bl - (min bl br) : Nat) : Int), .pointer pl]), (52, .int .i64 ((E.depth (E.dn (min bl br) l) : Nat) : Int)), (53, .agg #[.int .u64 ((br - (min bl br) : Nat) : Int), .pointer pr]), (54, .int .i64 ((E.depth (E.dn (min bl br) r) : Nat) : Int)), (55, .int .i64 ((max (E.depth (E.dn (min bl br) l)) (E.depth (E.dn (min bl br) r)) : Nat) : Int)), (56, .int .i64 ((1 + (max (E.depth (E.dn (min bl br) l)) (E.depth (E.dn (min bl br) r))) : Nat) : Int)), (57, .agg #[.int .u64 ((bl - (min bl br) : Nat) : Int), .pointer pl, .int .u64 ((br - (min bl br) : Nat) : Int), .pointer pr, .int .u64 ((max (E.top (E.dn (min bl br) l)) (E.top (E.dn (min bl br) r)) : Nat) : Int), .int .i64 ((1 + (max (E.depth (E.dn (min bl br) l)) (E.depth (E.dn (min bl br) r))) : Nat) : Int)]), (58, .pointer (some ⟨(φ28 17), 0, none⟩)), (59, .agg #[.int .u64 ((n + (min bl br) : Nat) : Int), .pointer (some ⟨(φ28 17), 0, none⟩)])]) (fun φ28 xs28 => [((φ1 0), .cells #[.int .u64 ((bl - (min bl br) : Nat) : Int), .pointer pl] 27), ((φ1 1), .cells #[.int .u64 ((br - (min bl br) : Nat) : Int), .pointer pr] 27), ((φ1 2), .cells #[.int .u64 ((n + (min bl br) : Nat) : Int), .pointer (some ⟨(φ28 17), 0, none⟩)] 27), ((φ28 17), .cells #[.int .u64 ((bl - (min bl br) : Nat) : Int), .pointer pl, .int .u64 ((br - (min bl br) : Nat) : Int), .pointer pr, .int .u64 ((max (E.top (E.dn (min bl br) l)) (E.top (E.dn (min bl br) r)) : Nat) : Int), .int .i64 ((1 + (max (E.depth (E.dn (min bl br) l)) (E.depth (E.dn (min bl br) r))) : Nat) : Int)] 124)]) s trivial (by kernel_rfl) (by kernel_rfl) (fun _ _ => by kernel_rfl) (fun _ _ => by kernel_rfl) ⟨fun _ _ => by kernel_rfl, fun _ _ => by kernel_rfl, fun _ _ => by kernel_rfl, fun _ _ => by kernel_rfl⟩ (fun _ _ _ => by kernel_rfl) (fun _ _ => by kernel_rfl) (fun _ _ => by kernel_rfl) (fun _ _ => by kernel_rfl) (fun _ _ => by kernel_rfl) (fun _ _ => by kernel_rfl) ⟨kcast (A := ∀ (φ28 : Nat → Nat) (xs28 : Xs), (.int .u64 (IntKind.wrap .u64 (((n : Nat) : Int) + ((min bl br : Nat) : Int))) : Value) = .int .u64 ((n + (min bl br) : Nat) : Int)) (by kernel_rfl) (fun φ28 xs28 => congrArg (Value.int .u64) ((nat_addU (a := n) (b := (min bl br)) (by omega)))), ⟨kcast (A := ∀ (φ28 : Nat → Nat) (xs28 : Xs), (.int .u64 (if ((E.top (E.dn (min bl br) r) : Nat) : Int) > ((E.top (E.dn (min bl br) l) : Nat) : Int) then ((E.top (E.dn (min bl br) r) : Nat) : Int) else ((E.top (E.dn (min bl br) l) : Nat) : Int)) : Value) = .int .u64 ((max (E.top (E.dn (min bl br) l)) (E.top (E.dn (min bl br) r)) : Nat) : Int)) (by kernel_rfl) (fun φ28 xs28 => congrArg (Value.int .u64) ((nat_max (a := (E.top (E.dn (min bl br) l))) (b := (E.top (E.dn (min bl br) r)))))), ⟨kcast (A := ∀ (φ28 : Nat → Nat) (xs28 : Xs), (.int .i64 (if ((E.depth (E.dn (min bl br) r) : Nat) : Int) > ((E.depth (E.dn (min bl br) l) : Nat) : Int) then ((E.depth (E.dn (min bl br) r) : Nat) : Int) else ((E.depth (E.dn (min bl br) l) : Nat) : Int)) : Value) = .int .i64 ((max (E.depth (E.dn (min bl br) l)) (E.depth (E.dn (min bl br) r)) : Nat) : Int)) (by kernel_rfl) (fun φ28 xs28 => congrArg (Value.int .i64) ((nat_max (a := (E.depth (E.dn (min bl br) l))) (b := (E.depth (E.dn (min bl br) r)))))), ⟨kcast (A := ∀ (φ28 : Nat → Nat) (xs28 : Xs), (.int .i64 (IntKind.wrap .i64 (((1 : Nat) : Int) + ((max (E.depth (E.dn (min bl br) l)) (E.depth (E.dn (min bl br) r)) : Nat) : Int))) : Value) = .int .i64 ((1 + (max (E.depth (E.dn (min bl br) l)) (E.depth (E.dn (min bl br) r))) : Nat) : Int)) (by kernel_rfl) (fun φ28 xs28 => congrArg (Value.int .i64) ((nat_addI (a := 1) (b := (max (E.depth (E.dn (min bl br) l)) (E.depth (E.dn (min bl br) r)))) (by omega)))), trivial⟩⟩⟩⟩ trivial (by kernel_rfl) ⟨?c28_6, ?c28_8, ?c28_11, ?c28_13, trivial⟩ ?k28
    case c28_6 =>
      refine kcast (A := ∀ (φ28 : Nat → Nat) (xs28 : Xs) (J6_28 : IM), I3.Le J6_28 → Fun Tryd.prog 34 #[.agg #[.int .u64 ((bl - (min bl br) : Nat) : Int), .pointer pl]] J6_28 (fun v J' => ∃ x : UX, v = .int .u64 ((E.top (E.dn (min bl br) l) : Nat) : Int) ∧ (True))) (by kernel_rfl) ?_
      intro φ28 xs28 J6_28 leJ
      have hl := ERep.mono leJ hl
      exact Fun.mono (max_c (ERep.dn (min bl br) hl) (by omega)) (fun v J' _ h => ⟨UX.d, h, trivial⟩)
    case c28_8 =>
      refine kcast (A := ∀ (φ28 : Nat → Nat) (xs28 : Xs) (J8_28 : IM), I3.Le J8_28 → (True) → Fun Tryd.prog 34 #[.agg #[.int .u64 ((br - (min bl br) : Nat) : Int), .pointer pr]] J8_28 (fun v J' => ∃ x : UX, v = .int .u64 ((E.top (E.dn (min bl br) r) : Nat) : Int) ∧ (True))) (by kernel_rfl) ?_
      intro φ28 xs28 J8_28 leJ
      rintro _
      have hr := ERep.mono leJ hr
      exact Fun.mono (max_c (ERep.dn (min bl br) hr) (by omega)) (fun v J' _ h => ⟨UX.d, h, trivial⟩)
    case c28_11 =>
      refine kcast (A := ∀ (φ28 : Nat → Nat) (xs28 : Xs) (J11_28 : IM), I3.Le J11_28 → (True) → (True) → Fun Tryd.prog 35 #[.agg #[.int .u64 ((bl - (min bl br) : Nat) : Int), .pointer pl]] J11_28 (fun v J' => ∃ x : UX, v = .int .i64 ((E.depth (E.dn (min bl br) l) : Nat) : Int) ∧ (True))) (by kernel_rfl) ?_
      intro φ28 xs28 J11_28 leJ
      rintro _ _
      have hl := ERep.mono leJ hl
      exact Fun.mono (depth_c (ERep.dn (min bl br) hl)) (fun v J' _ h => ⟨UX.d, h, trivial⟩)
    case c28_13 =>
      refine kcast (A := ∀ (φ28 : Nat → Nat) (xs28 : Xs) (J13_28 : IM), I3.Le J13_28 → (True) → (True) → (True) → Fun Tryd.prog 35 #[.agg #[.int .u64 ((br - (min bl br) : Nat) : Int), .pointer pr]] J13_28 (fun v J' => ∃ x : UX, v = .int .i64 ((E.depth (E.dn (min bl br) r) : Nat) : Int) ∧ (True))) (by kernel_rfl) ?_
      intro φ28 xs28 J13_28 leJ
      rintro _ _ _
      have hr := ERep.mono leJ hr
      exact Fun.mono (depth_c (ERep.dn (min bl br) hr)) (fun v J' _ h => ⟨UX.d, h, trivial⟩)
    case k28 =>
      rintro φ28 xs28 I28 w28 le28 s _ _ _ _
      replace hl := ERep.mono le28 hl
      replace hr := ERep.mono le28 hr
      refine wp_ret ?_
      refine ret_rule (C := []) [((φ1 0), .cells #[.int .u64 ((bl - (min bl br) : Nat) : Int), .pointer pl] 27), ((φ1 1), .cells #[.int .u64 ((br - (min bl br) : Nat) : Int), .pointer pr] 27), ((φ1 2), .cells #[.int .u64 ((n + (min bl br) : Nat) : Int), .pointer (some ⟨(φ28 17), 0, none⟩)] 27), ((φ28 17), .cells #[.int .u64 ((bl - (min bl br) : Nat) : Int), .pointer pl, .int .u64 ((br - (min bl br) : Nat) : Int), .pointer pr, .int .u64 ((max (E.top (E.dn (min bl br) l)) (E.top (E.dn (min bl br) r)) : Nat) : Int), .int .i64 ((1 + (max (E.depth (E.dn (min bl br) l)) (E.depth (E.dn (min bl br) r))) : Nat) : Int)] 124)] [] (.agg #[.int .u64 ((n + (min bl br) : Nat) : Int), .pointer (some ⟨(φ28 17), 0, none⟩)]) [.o 2, .o 2] [(φ1 2), (φ1 2)] s trivial (by kernel_rfl) ?_
      obtain ⟨I29, le29, hk29, s⟩ := s.freezeAt 3 (φ28 17) (.cells #[.int .u64 ((bl - (min bl br) : Nat) : Int), .pointer pl, .int .u64 ((br - (min bl br) : Nat) : Int), .pointer pr, .int .u64 ((max (E.top (E.dn (min bl br) l)) (E.top (E.dn (min bl br) r)) : Nat) : Int), .int .i64 ((1 + (max (E.depth (E.dn (min bl br) l)) (E.depth (E.dn (min bl br) r))) : Nat) : Int)] 124) [((φ1 0), .cells #[.int .u64 ((bl - (min bl br) : Nat) : Int), .pointer pl] 27), ((φ1 1), .cells #[.int .u64 ((br - (min bl br) : Nat) : Int), .pointer pr] 27), ((φ1 2), .cells #[.int .u64 ((n + (min bl br) : Nat) : Int), .pointer (some ⟨(φ28 17), 0, none⟩)] 27)] (by kernel_rfl) (by kernel_rfl)
      replace hl := ERep.mono le29 hl
      replace hr := ERep.mono le29 hr
      exact ⟨_, _, _, rfl, s, ⟨_, _, rfl, by rw [E.mk, if_neg (fun h => by rw [hc5] at h; cases h.1), ← hbl, ← hbr]; exact ⟨rfl, _, _, _, _, _, rfl, hk29, ERep.dn _ hl, ERep.dn _ hr⟩⟩⟩

end Go.Proofs.YtgdickihjaomjaaDoor
