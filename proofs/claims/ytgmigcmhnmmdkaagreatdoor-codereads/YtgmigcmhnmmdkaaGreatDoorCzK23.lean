/- Parts of how the document reads events. -/
import Derived.Test.YtgmigcmhnmmdkaaGreatDoorCzM21
set_option linter.all false
set_option maxRecDepth 100000
namespace Go.Proofs.YtgmigcmhnmmdkaaGreatDoor
open Go.RowKit Go.Sep
attribute [local irreducible] Go.wpList Go.Code.wp

theorem RE.peekL {I : IM} {e : Ev.E} {k : Nat} (h : Ev.RE I e k) : ∃ pl pr, (pl = none ↔ e.isLeaf = true) ∧ I k = some (.cells #[.int .u64 ((e.base : Nat) : Int), .pointer pl, .pointer pr] 83) := by
  cases e with
  | leaf n => exact ⟨none, none, ⟨fun _ => rfl, fun _ => rfl⟩, h⟩
  | node n l r =>
    obtain ⟨kl, kr, h, _, _⟩ := h
    exact ⟨some ⟨kl, 0, none⟩, some ⟨kr, 0, none⟩, ⟨fun q => (by cases q), fun q => (by simp [Ev.E.isLeaf] at q)⟩, h⟩
theorem run_nilE {w : World} {pl : Option Addr} {b : Bool} (h : pl = none ↔ b = true) : (binOp .eql 38 (.pointer pl) (.pointer none)).run Tryz.prog w = .ok (.bool b) w := by
  cases b with
  | true => rw [h.2 rfl]; kernel_rfl
  | false =>
    cases pl with
    | none => exact absurd (h.1 rfl) (by decide)
    | some p => obtain ⟨b, o, s⟩ := p; cases s <;> rfl
theorem nd_topZ {n : Nat} {l r : Ev.E} (h : (Ev.E.node n l r).nf) : (Ev.E.node n l r).top ≠ 0 := by
  have := nd_top h; omega

set_option maxHeartbeats 400000 in
theorem refZero_c {I : IM} {e : Ev.E} {k : Nat} (h : Ev.RE I e k) (hn : e.nf) : Fun Tryz.prog 37 #[.pointer (some ⟨k, 0, none⟩)] I (fun v J => v = .bool (decide (e.top = 0))) := by
 cases e with
 | leaf n =>
  refine enter_rule 15 [(0, pB k)] Tryz.func37 rfl (by kernel_rfl) ?_
  intro w s
  refine seqR ?_
  refine oKD [] [] 1 [] 0 (fun φ1 => [(2, .bool false)]) (fun φ1 => []) s (fun φ1 => by kernel_rfl) (by kernel_rfl) ?_
  intro φ1 w1 s
  refine seqR ?_
  refine ops_rule (C := [(k, .cells #[.int .u64 n, .pointer none, .pointer none] 83)]) [] [] 13 [.c 0, .c 0] 0 (fun φ2 => [(2, .bool (((n : Nat) : Int) == ((0 : Nat) : Int))), (14, .bool (((n : Nat) : Int) == ((0 : Nat) : Int))), (13, .bool (((n : Nat) : Int) == ((0 : Nat) : Int))), (12, .int .u64 n), (11, pB k), (10, pB k), (9, pB k), (8, .bool true), (7, .bool true), (6, .pointer none), (5, .pointer (some ⟨k, 1, none⟩)), (4, pB k), (3, pB k)]) (fun φ2 => []) (fun φ2 => [k, k]) s ⟨h, trivial⟩ (fun φ2 => by kernel_rfl) ?_
  intro φ2 w2 s
  rw [nat_eql (a := n) (b := 0)]
  refine ops_done (by kernel_rfl) ?_
  refine wp_ret ?_
  refine ret_rule (C := []) [] [] (.bool (decide (n = 0))) [] [] s trivial (by kernel_rfl) ?_
  exact ⟨_, _, _, rfl, s, rfl⟩
 | node n l r =>
  obtain ⟨kl, kr, hk, hl, hr⟩ := h
  refine enter_rule 15 [(0, pB k)] Tryz.func37 rfl (by kernel_rfl) ?_
  intro w s
  refine seqR ?_
  refine oKD [] [] 1 [] 0 (fun φ1 => [(2, .bool false)]) (fun φ1 => []) s (fun φ1 => by kernel_rfl) (by kernel_rfl) ?_
  intro φ1 w1 s
  refine seqR ?_
  refine ops_rule (C := [(k, .cells #[.int .u64 n, pB kl, pB kr] 83)]) [] [] 13 [.c 0] 0 (fun φ2 => [(2, .bool false), (14, .bool false), (13, undef), (12, undef), (11, undef), (10, undef), (9, undef), (8, .bool false), (7, .bool false), (6, pB kl), (5, .pointer (some ⟨k, 1, none⟩)), (4, pB k), (3, pB k)]) (fun φ2 => []) (fun φ2 => [k]) s ⟨hk, trivial⟩ (fun φ2 => by kernel_rfl) ?_
  intro φ2 w2 s
  refine ops_done (by kernel_rfl) ?_
  refine wp_ret ?_
  refine ret_rule (C := []) [] [] (.bool false) [] [] s trivial (by kernel_rfl) ?_
  exact ⟨_, _, _, rfl, s, (congrArg Value.bool (decide_eq_false (nd_topZ hn)).symm)⟩

set_option maxHeartbeats 2000000 in
theorem rmax_step {I : IM} {e : Ev.E} {k : Nat} (h : Ev.RE I e k) (ht : e.top < 18446744073709551616) (ih : ∀ n l r, e = .node n l r → (∀ {J : IM} {k : Nat}, Ev.RE J l k → l.top < 18446744073709551616 → Fun Tryz.prog 38 #[.pointer (some ⟨k, 0, none⟩)] J (fun v J => v = .int .u64 ((l.top : Nat) : Int))) ∧ (∀ {J : IM} {k : Nat}, Ev.RE J r k → r.top < 18446744073709551616 → Fun Tryz.prog 38 #[.pointer (some ⟨k, 0, none⟩)] J (fun v J => v = .int .u64 ((r.top : Nat) : Int)))) : Fun Tryz.prog 38 #[.pointer (some ⟨k, 0, none⟩)] I (fun v J => v = .int .u64 ((e.top : Nat) : Int)) := by
 cases e with
 | leaf n =>
  refine enter_rule 39 [(0, pB k)] Tryz.func38 rfl (by kernel_rfl) ?_
  intro w s
  refine seqR ?_
  refine oKD [] [] 1 [] 0 (fun φ1 => [(2, .int .u64 0)]) (fun φ1 => []) s (fun φ1 => by kernel_rfl) (by kernel_rfl) ?_
  intro φ1 w1 s
  refine wp_seq ?_
  refine seqR ?_
  refine ops_rule (C := [(k, .cells #[.int .u64 n, .pointer none, .pointer none] 83)]) [] [] 5 [.c 0] 0 (fun φ2 => [(9, .bool true), (8, .pointer none), (7, .pointer (some ⟨k, 1, none⟩)), (6, pB k), (5, pB k)]) (fun φ2 => []) (fun φ2 => [k]) s ⟨h, trivial⟩ (fun φ2 => by kernel_rfl) ?_
  intro φ2 w2 s
  refine ops_done (by kernel_rfl) ?_
  refine cond_true_rule (b := true) (by kernel_rfl) rfl ?_
  refine seqR ?_
  refine ops_rule (C := [(k, .cells #[.int .u64 n, .pointer none, .pointer none] 83)]) [] [] 5 [.c 0] 0 (fun φ3 => [(2, .int .u64 n), (13, .int .u64 n), (12, pB k), (11, pB k), (10, pB k)]) (fun φ3 => []) (fun φ3 => [k]) s ⟨h, trivial⟩ (fun φ3 => by kernel_rfl) ?_
  intro φ3 w3 s
  refine ops_done (by kernel_rfl) ?_
  refine wp_ret ?_
  refine ret_rule (C := []) [] [] (.int .u64 n) [] [] s trivial (by kernel_rfl) ?_
  exact ⟨_, _, _, rfl, s, rfl⟩
 | node n l r =>
  obtain ⟨ihl, ihr⟩ := ih n l r rfl
  clear ih
  have hb8 : n + max l.top r.top < 18446744073709551616 := ht
  obtain ⟨kl, kr, hk, hl, hr⟩ := h
  refine enter_rule 39 [(0, pB k)] Tryz.func38 rfl (by kernel_rfl) ?_
  intro w s
  refine seqR ?_
  refine oKD [] [] 1 [] 0 (fun φ1 => [(2, .int .u64 0)]) (fun φ1 => []) s (fun φ1 => by kernel_rfl) (by kernel_rfl) ?_
  intro φ1 w1 s
  refine wp_seq ?_
  refine seqR ?_
  refine ops_rule (C := [(k, .cells #[.int .u64 n, pB kl, pB kr] 83)]) [] [] 5 [.c 0] 0 (fun φ2 => [(9, .bool false), (8, pB kl), (7, .pointer (some ⟨k, 1, none⟩)), (6, pB k), (5, pB k)]) (fun φ2 => []) (fun φ2 => [k]) s ⟨hk, trivial⟩ (fun φ2 => by kernel_rfl) ?_
  intro φ2 w2 s
  refine ops_done (by kernel_rfl) ?_
  refine cond_false_rule (b := false) (by kernel_rfl) rfl ?_
  refine wp_skip ?_
  refine wp_seq ?_
  refine draw_rule (C := [(k, .cells #[.int .u64 n, pB kl, pB kr] 83)]) ⟨(fun φ3 xs3 => [.look 0 [] [], .look 0 [] [], .look 0 [] [], .look 0 [.c 0] [k], .call 38 #[pB kl], .look 0 [] [], .look 0 [] [], .look 0 [] [], .look 0 [.c 0] [k], .call 38 #[pB kr], .look 0 [] [], .look 0 [] []]), (fun φ3 xs3 => [pB k, pB k, .pointer (some ⟨k, 1, none⟩), pB kl, .int .u64 l.top, pB k, pB k, .pointer (some ⟨k, 2, none⟩), pB kr, .int .u64 r.top, .int .u64 l.top, .int .u64 r.top]), (fun φ3 xs3 => [[]]), (fun φ3 xs3 => [[default, default, default, default, default, default, default, default, default, default, default, default]]), [], [1, 1, 1, 1, 3, 1, 1, 1, 1, 3, 1, 1]⟩ (fun j => ([MP.any] : List MP).getD j MP.any) [4, 9] [] [] (fun φ3 xs3 => []) (fun φ3 xs3 => [(14, pB k), (15, pB k), (16, .pointer (some ⟨k, 1, none⟩)), (17, pB kl), (18, .int .u64 l.top), (19, pB k), (20, pB k), (21, .pointer (some ⟨k, 2, none⟩)), (22, pB kr), (23, .int .u64 r.top), (3, .int .u64 l.top), (4, .int .u64 r.top)]) (fun φ3 xs3 => []) s ⟨hk, trivial⟩ (by kernel_rfl) (by kernel_rfl) (fun _ _ => by kernel_rfl) (fun _ _ => by kernel_rfl) ⟨fun _ _ => by kernel_rfl, fun _ _ => by kernel_rfl, fun _ _ => by kernel_rfl, fun _ _ => by kernel_rfl⟩ (fun _ _ _ => by kernel_rfl) (fun _ _ => by kernel_rfl) (fun _ _ => by kernel_rfl) (fun _ _ => by kernel_rfl) (fun _ _ => by kernel_rfl) (fun _ _ => by kernel_rfl) trivial trivial (by kernel_rfl) ⟨?c3_4, ?c3_9, trivial⟩ ?k3
  case c3_4 =>
   refine kcast (A := ∀ (φ3 : Nat → Nat) (xs3 : Xs) (J4_3 : IM), I.Le J4_3 → Fun Tryz.prog 38 #[pB kl] J4_3 (fun v J' => ∃ x : UX, v = .int .u64 l.top ∧ (True))) (by kernel_rfl) ?_
   intro φ3 xs3 J4_3 leJ
   have hl := Ev.RE.mono leJ hl
   exact Fun.mono (ihl hl (by omega)) (fun v J' _ h => ⟨UX.d, h, trivial⟩)
  case c3_9 =>
   refine kcast (A := ∀ (φ3 : Nat → Nat) (xs3 : Xs) (J9_3 : IM), I.Le J9_3 → (True) → Fun Tryz.prog 38 #[pB kr] J9_3 (fun v J' => ∃ x : UX, v = .int .u64 r.top ∧ (True))) (by kernel_rfl) ?_
   intro φ3 xs3 J9_3 leJ
   rintro _
   have hr := Ev.RE.mono leJ hr
   exact Fun.mono (ihr hr (by omega)) (fun v J' _ h => ⟨UX.d, h, trivial⟩)
  case k3 =>
   rintro φ3 xs3 I3 w3 le3 s _ _
   replace hk := le3 _ _ hk
   refine wp_seq ?_
   refine seqR ?_
   refine oK [] [] 3 [] 0 (fun φ4 => [(26, .bool (decide (((l.top : Nat) : Int) > ((r.top : Nat) : Int)))), (25, .int .u64 r.top), (24, .int .u64 l.top)]) (fun φ4 => []) s (fun φ4 => by kernel_rfl) ?_
   intro φ4 w4 s
   rw [nat_gtr (a := l.top) (b := r.top)]
   refine ops_done (by kernel_rfl) ?_
   rcases Bool.eq_false_or_eq_true (decide (r.top < l.top)) with hc5 | hc5
   ·
    rw [hc5]
    refine cond_true_rule (b := true) (by kernel_rfl) rfl ?_
    refine seqR ?_
    refine ops_rule (C := [(k, .cells #[.int .u64 n, pB kl, pB kr] 83)]) [] [] 7 [.c 0] 0 (fun φ6 => [(2, .int .u64 (IntKind.wrap .u64 (((n : Nat) : Int) + ((l.top : Nat) : Int)))), (32, .int .u64 (IntKind.wrap .u64 (((n : Nat) : Int) + ((l.top : Nat) : Int)))), (31, .int .u64 l.top), (30, .int .u64 n), (29, pB k), (28, pB k), (27, pB k)]) (fun φ6 => []) (fun φ6 => [k]) s ⟨hk, trivial⟩ (fun φ6 => by kernel_rfl) ?_
    intro φ6 w6 s
    rw [nat_addU (a := n) (b := l.top) (by have hb9 : n + max l.top r.top < 18446744073709551616 := ht;  have hq0 := of_decide_eq_true hc5; omega)]
    refine ops_done (by kernel_rfl) ?_
    refine wp_ret ?_
    refine ret_rule (C := []) [] [] (.int .u64 ((n + l.top : Nat) : Int)) [] [] s trivial (by kernel_rfl) ?_
    exact ⟨_, _, _, rfl, s, (by have hq0 := of_decide_eq_true hc5; show _ = Value.int .u64 ((n + max l.top r.top : Nat) : Int); congr 3; omega)⟩
   ·
    rw [hc5]
    refine cond_false_rule (b := false) (by kernel_rfl) rfl ?_
    refine wp_skip ?_
    refine seqR ?_
    refine ops_rule (C := [(k, .cells #[.int .u64 n, pB kl, pB kr] 83)]) [] [] 7 [.c 0] 0 (fun φ7 => [(2, .int .u64 (IntKind.wrap .u64 (((n : Nat) : Int) + ((r.top : Nat) : Int)))), (38, .int .u64 (IntKind.wrap .u64 (((n : Nat) : Int) + ((r.top : Nat) : Int)))), (37, .int .u64 r.top), (36, .int .u64 n), (35, pB k), (34, pB k), (33, pB k)]) (fun φ7 => []) (fun φ7 => [k]) s ⟨hk, trivial⟩ (fun φ7 => by kernel_rfl) ?_
    intro φ7 w7 s
    rw [nat_addU (a := n) (b := r.top) (by have hb9 : n + max l.top r.top < 18446744073709551616 := ht;  have hq0 := of_decide_eq_false hc5; omega)]
    refine ops_done (by kernel_rfl) ?_
    refine wp_ret ?_
    refine ret_rule (C := []) [] [] (.int .u64 ((n + r.top : Nat) : Int)) [] [] s trivial (by kernel_rfl) ?_
    exact ⟨_, _, _, rfl, s, (by have hq0 := of_decide_eq_false hc5; show _ = Value.int .u64 ((n + max l.top r.top : Nat) : Int); congr 3; omega)⟩

theorem rmax_c : ∀ (e : Ev.E) {I : IM} {k : Nat}, Ev.RE I e k → e.top < 18446744073709551616 → Fun Tryz.prog 38 #[.pointer (some ⟨k, 0, none⟩)] I (fun v _ => v = .int .u64 ((e.top : Nat) : Int))
  | .leaf n, _, _, h, ht => rmax_step h ht (fun n l r h => by cases h)
  | .node n l r, _, _, h, ht => rmax_step h ht (fun n' l' r' e => by
      cases e
      exact ⟨fun {J} {k} a b => rmax_c l a b, fun {J} {k} a b => rmax_c r a b⟩)
theorem rmaxN_c {I : IM} {n k : Nat} {l r : Ev.E} (h : Ev.RE I (.node n l r) k) (ht : n + max l.top r.top < 18446744073709551616) : Fun Tryz.prog 38 #[.pointer (some ⟨k, 0, none⟩)] I (fun v _ => v = .int .u64 ((n + max l.top r.top : Nat) : Int)) := rmax_c _ h ht

set_option maxHeartbeats 400000 in
theorem rleaf_c {I : IM} {n : Nat} : Fun Tryz.prog 18 #[.int .u64 ((n : Nat) : Int)] I (fun v J => ∃ k, v = .pointer (some ⟨k, 0, none⟩) ∧ Ev.RE J (.leaf n) k) := by
 refine enter_rule 6 [(0, .int .u64 n)] Tryz.func18 rfl (by kernel_rfl) ?_
 intro w s
 refine seqR ?_
 refine oKD [] [] 1 [] 0 (fun φ1 => [(2, .pointer none)]) (fun φ1 => []) s (fun φ1 => by kernel_rfl) (by kernel_rfl) ?_
 intro φ1 w1 s
 refine seqR ?_
 refine oAD [] [] 4 [] 1 (fun φ2 => [(2, pB (φ2 0)), (5, pB (φ2 0)), (4, .agg #[.int .u64 n, .pointer none, .pointer none]), (3, .int .u64 n)]) (fun φ2 => [(φ2 0, .cells #[.int .u64 n, .pointer none, .pointer none] 83)]) (fun φ2 => []) s (fun φ2 => by kernel_rfl) (by kernel_rfl) ?_
 intro φ2 w2 s
 refine wp_ret ?_
 refine ret_rule (C := []) _ [] (pB (φ2 0)) [] [] s trivial (by kernel_rfl) ?_
 obtain ⟨I3, le3, hk3, s⟩ := s.freezeAt 0 (φ2 0) (.cells #[.int .u64 ((n : Nat) : Int), .pointer none, .pointer none] 83) [] (by kernel_rfl) (by kernel_rfl)
 exact ⟨_, _, _, rfl, s, ⟨_, rfl, hk3⟩⟩

theorem refNumV_c {I : IM} {B : List Bool} {a : Option Addr} {n c y e : Nat} (hb : BoS I B (.slice a n c)) (hn9 : B.length ≤ 1000000) : FunM Tryz.prog 61 #[.pointer (some ⟨y, 0, none⟩)] I [(y, .cells #[.slice a n c, .int .i64 ((e : Nat) : Int)] 56)] (fun v J H' => ∃ b' : OB, H' = [b'] ∧ b'.1 = y ∧ ∃ (V E D : Nat) (B' : List Bool) (a' : Option Addr) (n' c' : Nat), v = .int .u64 ((V : Nat) : Int) ∧ b' = (y, .cells #[.slice a' n' c', .int .i64 ((E : Nat) : Int)] 56) ∧ BoS J B' (.slice a' n' c') ∧ bnV B e = V ∧ bnE B e = E ∧ bnD B e = D ∧ B.drop D = B') := by
  refine funM_mono (refNumB_c (y := y) (e := e) hb hn9) (fun v J H' q => ?_)
  obtain ⟨b', h1, h2, a', n', c', h3, h4, h5⟩ := q
  exact ⟨b', h1, h2, _, _, _, _, a', n', c', h3, h4, h5, rfl, rfl, rfl, rfl⟩

set_option maxHeartbeats 2000000 in
theorem refNumber_c {I : IM} {B : List Bool} {a : Option Addr} {n c y e : Nat} (hb : BoS I B (.slice a n c)) (hn9 : B.length ≤ 1000000) : FunM Tryz.prog 36 #[.pointer (some ⟨y, 0, none⟩)] I [(y, .cells #[.slice a n c, .int .i64 ((e : Nat) : Int)] 56)] (fun v J H' => ∃ b' : OB, H' = [b'] ∧ b'.1 = y ∧ ∃ (N R E D : Nat) (B' : List Bool) (a' : Option Addr) (n' c' : Nat), v = .tuple #[.int .u64 ((N : Nat) : Int), .int .i64 ((R : Nat) : Int)] ∧ b' = (y, .cells #[.slice a' n' c', .int .i64 ((E : Nat) : Int)] 56) ∧ BoS J B' (.slice a' n' c') ∧ cnG e B = ⟨N, R, D, E⟩ ∧ B.drop D = B') := by
 obtain ⟨rfl, -⟩ := hb.cap
 refine enterM_rule 15 [(0, pB y)] Tryz.func36 rfl (by kernel_rfl) ?_
 intro w s
 refine seqR ?_
 refine oKD [(y, .cells #[.slice a B.length c, .int .i64 e] 56)] [] 2 [] 0 (fun φ1 => [(3, .int .i64 0), (2, .int .u64 0)]) (fun φ1 => []) s (fun φ1 => by kernel_rfl) (by kernel_rfl) ?_
 intro φ1 w1 s
 refine seqR ?_
 refine oK _ [] 1 [] 0 (fun φ2 => [(5, pB y)]) (fun φ2 => []) s (fun φ2 => by kernel_rfl) ?_
 intro φ2 w2 s
 refine callB_rule (b := (y, .cells #[.slice a B.length c, .int .i64 e] 56)) (F := []) (Hr := []) (some 6) 0 s (by kernel_rfl) (by kernel_rfl) (refNumV_c (y := y) (e := e) hb hn9) (by kernel_rfl) ?_
 rintro v3 I3 w3 b3 le3 - h3 s
 obtain ⟨V3, E3, D3, B3, a3, n3, c3, rfl, rfl, h3_0, h3_1, h3_2, h3_3, h3_4⟩ := h3
 refine oKD _ [] 1 [] 0 (fun φ4 => [(4, .int .u64 V3)]) (fun φ4 => []) s (fun φ4 => by kernel_rfl) (by kernel_rfl) ?_
 intro φ4 w4 s
 refine wp_seq ?_
 refine seqR ?_
 refine oK _ [] 5 [.o 0] 0 (fun φ5 => [(11, .bool (((E3 : Nat) : Int) != ((0 : Nat) : Int))), (10, .int .i64 E3), (9, .pointer (some ⟨y, 1, none⟩)), (8, pB y), (7, pB y)]) (fun φ5 => [y]) s (fun φ5 => by kernel_rfl) ?_
 intro φ5 w5 s
 rw [nat_neq (a := E3) (b := 0)]
 refine ops_done (by kernel_rfl) ?_
 rcases Bool.eq_false_or_eq_true (decide (E3 ≠ 0)) with hc6 | hc6
 ·
  rw [hc6]
  refine cond_true_rule (b := true) (by kernel_rfl) rfl ?_
  refine seqR ?_
  refine oKD _ [] 2 [] 0 (fun φ7 => [(3, .int .i64 6), (2, .int .u64 0)]) (fun φ7 => []) s (fun φ7 => by kernel_rfl) (by kernel_rfl) ?_
  intro φ7 w7 s
  refine wp_ret ?_
  refine ret_rule (C := []) _ [] (.tuple #[.int .u64 0, .int .i64 6]) [] [] s trivial (by kernel_rfl) ?_
  replace s := s.drop (List.Sublist.append (List.Sublist.cons₂ _ List.Sublist.slnil) (List.Sublist.refl []))
  have e9 : cnG e B = ⟨0, 6, D3, E3⟩ := by unfold cnG; simp [h3_1, h3_2, h3_3, h3_4, of_decide_eq_true hc6]
  exact ⟨_, _, _, rfl, s, ⟨_, rfl, rfl, _, _, _, _, _, _, _, _, rfl, rfl, h3_0, e9, (by simp only [← List.drop_drop, h3_4])⟩⟩
 ·
  rw [hc6]
  refine cond_false_rule (b := false) (by kernel_rfl) rfl ?_
  refine wp_skip ?_
  refine wp_seq ?_
  refine seqR ?_
  refine oK _ [] 2 [] 0 (fun φ8 => [(13, .bool (decide (((V3 : Nat) : Int) > ((1048576 : Nat) : Int)))), (12, .int .u64 V3)]) (fun φ8 => []) s (fun φ8 => by kernel_rfl) ?_
  intro φ8 w8 s
  rw [nat_gtr (a := V3) (b := 1048576)]
  refine ops_done (by kernel_rfl) ?_
  rcases Bool.eq_false_or_eq_true (decide (1048576 < V3)) with hc9 | hc9
  ·
   rw [hc9]
   refine cond_true_rule (b := true) (by kernel_rfl) rfl ?_
   refine seqR ?_
   refine oKD _ [] 2 [] 0 (fun φ10 => [(3, .int .i64 4), (2, .int .u64 0)]) (fun φ10 => []) s (fun φ10 => by kernel_rfl) (by kernel_rfl) ?_
   intro φ10 w10 s
   refine wp_ret ?_
   refine ret_rule (C := []) _ [] (.tuple #[.int .u64 0, .int .i64 4]) [] [] s trivial (by kernel_rfl) ?_
   replace s := s.drop (List.Sublist.append (List.Sublist.cons₂ _ List.Sublist.slnil) (List.Sublist.refl []))
   have e9 : cnG e B = ⟨0, 4, D3, E3⟩ := by unfold cnG; simp [h3_1, h3_2, h3_3, h3_4, Decidable.not_not.1 (of_decide_eq_false hc6), of_decide_eq_true hc9]
   exact ⟨_, _, _, rfl, s, ⟨_, rfl, rfl, _, _, _, _, _, _, _, _, rfl, rfl, h3_0, e9, (by simp only [← List.drop_drop, h3_4])⟩⟩
  ·
   rw [hc9]
   refine cond_false_rule (b := false) (by kernel_rfl) rfl ?_
   refine wp_skip ?_
   refine seqR ?_
   refine oKD _ [] 3 [] 0 (fun φ11 => [(3, .int .i64 0), (2, .int .u64 V3), (14, .int .u64 V3)]) (fun φ11 => []) s (fun φ11 => by kernel_rfl) (by kernel_rfl) ?_
   intro φ11 w11 s
   refine wp_ret ?_
   refine ret_rule (C := []) _ [] (.tuple #[.int .u64 V3, .int .i64 0]) [] [] s trivial (by kernel_rfl) ?_
   replace s := s.drop (List.Sublist.append (List.Sublist.cons₂ _ List.Sublist.slnil) (List.Sublist.refl []))
   have e9 : cnG e B = ⟨V3, 0, D3, E3⟩ := by unfold cnG; simp [h3_1, h3_2, h3_3, h3_4, Decidable.not_not.1 (of_decide_eq_false hc6), of_decide_eq_false hc9]
   exact ⟨_, _, _, rfl, s, ⟨_, rfl, rfl, _, _, _, _, _, _, _, _, rfl, rfl, h3_0, e9, (by simp only [← List.drop_drop, h3_4])⟩⟩

theorem refNumber0_c {I : IM} {B : List Bool} {a : Option Addr} {n c y e : Nat} (hb : BoS I B (.slice a n c)) (hn9 : B.length ≤ 1000000) (he : e = 0) : FunM Tryz.prog 36 #[.pointer (some ⟨y, 0, none⟩)] I [(y, .cells #[.slice a n c, .int .i64 ((e : Nat) : Int)] 56)] (fun v J H' => ∃ b' : OB, H' = [b'] ∧ b'.1 = y ∧ ∃ (N R E D : Nat) (B' : List Bool) (a' : Option Addr) (n' c' : Nat), v = .tuple #[.int .u64 ((N : Nat) : Int), .int .i64 ((R : Nat) : Int)] ∧ b' = (y, .cells #[.slice a' n' c', .int .i64 ((E : Nat) : Int)] 56) ∧ BoS J B' (.slice a' n' c') ∧ cnG 0 B = ⟨N, R, D, E⟩ ∧ B.drop D = B') := by subst he; exact refNumber_c hb hn9

end Go.Proofs.YtgmigcmhnmmdkaaGreatDoor
