/- The document writes ids, events and stamps. -/
import Derived.Test.YtgmigcmhnmmdkaaCwM21
import Derived.Test.YtgmigcmhnmmdkaaCwM14
import Derived.Test.YtgmigcmhnmmdkaaCwM13
set_option linter.all false
set_option maxRecDepth 100000
namespace Go.Proofs.Ytgmigcmhnmmdkaa
open Go.RowKit Go.Sep
attribute [local irreducible] Go.wpList Go.Code.wp

set_option maxHeartbeats 1000000 in
theorem refID_step {I : IM} {t : Ev.T} {k : Nat} {L : List Bool} {a : Option Addr} {m c : Nat} (h : Ev.RT I t k) (hL : BoS I L (.slice a m c)) (hlen : L.length + (idB t).length ≤ 700000) (ih : ∀ l r, t = .node l r → (∀ {J : IM} {k : Nat} {L : List Bool} {a : Option Addr} {m c : Nat}, Ev.RT J l k → BoS J L (.slice a m c) → L.length + (idB l).length ≤ 700000 → Fun Try.prog 20 #[.slice a m c, .pointer (some ⟨k, 0, none⟩)] J (fun v J => boR (L ++ idB l) v J)) ∧ (∀ {J : IM} {k : Nat} {L : List Bool} {a : Option Addr} {m c : Nat}, Ev.RT J r k → BoS J L (.slice a m c) → L.length + (idB r).length ≤ 700000 → Fun Try.prog 20 #[.slice a m c, .pointer (some ⟨k, 0, none⟩)] J (fun v J => boR (L ++ idB r) v J))) : Fun Try.prog 20 #[.slice a m c, .pointer (some ⟨k, 0, none⟩)] I (fun v J => boR (L ++ idB t) v J) := by
 obtain ⟨rfl, -⟩ := hL.cap
 cases t with
 | zero =>
  refine enter_rule 60 [(0, .slice a L.length c), (1, pB k)] Try.func20 rfl (by kernel_rfl) ?_
  intro w s
  refine seqR ?_
  refine ops_rule (C := []) [] [] 1 [] 0 (fun φ1 => [(4, .slice none 0 0)]) (fun φ1 => []) (fun φ1 => []) s trivial (fun φ1 => by kernel_rfl) ?_
  intro φ1 w1 s
  refine ops_done (by kernel_rfl) ?_
  refine wp_seq ?_
  refine seqR ?_
  refine ops_rule (C := [(k, .cells #[.int .i64 0, .pointer none, .pointer none] 84)]) [] [] 5 [.c 0] 0 (fun φ2 => [(9, .bool true), (8, .int .i64 0), (7, pB k), (6, pB k), (5, pB k)]) (fun φ2 => []) (fun φ2 => [k]) s ⟨h, trivial⟩ (fun φ2 => by kernel_rfl) ?_
  intro φ2 w2 s
  refine ops_done (by kernel_rfl) ?_
  refine cond_true_rule (b := true) (by kernel_rfl) rfl ?_
  refine wp_seq ?_
  refine draw_rule (C := [(k, .cells #[.int .i64 0, .pointer none, .pointer none] 84)]) ⟨(fun φ3 xs3 => [.look 0 [] [], .call 43 #[.slice a L.length c, .int .u64 0, .int .i64 2], .look 0 [] [], .look 0 [] [], .look 0 [] [], .look 0 [.c 0] [k], .look 0 [] [], .call 43 #[.slice ((xs3 1).p 0) (List.length (L ++ putBits 0 2)) ((xs3 1).n 0), .int .u64 0, .int .i64 1], .look 0 [] []]), (fun φ3 xs3 => [.slice a L.length c, .slice ((xs3 1).p 0) (List.length (L ++ putBits 0 2)) ((xs3 1).n 0), pB k, pB k, pB k, .int .i64 0, .int .u64 0, .slice ((xs3 7).p 0) (List.length (L ++ putBits 0 2 ++ putBits 0 1)) ((xs3 7).n 0), .slice ((xs3 7).p 0) (List.length (L ++ putBits 0 2 ++ putBits 0 1)) ((xs3 7).n 0)]), (fun φ3 xs3 => [[]]), (fun φ3 xs3 => [[default, default, default, default, default, default, default, default, default]]), [], [1, 3, 1, 1, 1, 1, 1, 3, 1]⟩ (fun j => ([MP.any, ⟨fun x J => BoS J (L ++ putBits 0 2) (.slice (x.p 0) (List.length (L ++ putBits 0 2)) (x.n 0)), fun le h => BoS.mono le h⟩, MP.any, MP.any, MP.any, MP.any, MP.any, ⟨fun x J => BoS J (L ++ putBits 0 2 ++ putBits 0 1) (.slice (x.p 0) (List.length (L ++ putBits 0 2 ++ putBits 0 1)) (x.n 0)), fun le h => BoS.mono le h⟩] : List MP).getD j MP.any) [1, 7] [] [] (fun φ3 xs3 => []) (fun φ3 xs3 => [(10, .slice a L.length c), (11, .slice ((xs3 1).p 0) (List.length (L ++ putBits 0 2)) ((xs3 1).n 0)), (12, pB k), (13, pB k), (14, pB k), (15, .int .i64 0), (16, .int .u64 0), (17, .slice ((xs3 7).p 0) (List.length (L ++ putBits 0 2 ++ putBits 0 1)) ((xs3 7).n 0)), (4, .slice ((xs3 7).p 0) (List.length (L ++ putBits 0 2 ++ putBits 0 1)) ((xs3 7).n 0))]) (fun φ3 xs3 => []) s ⟨h, trivial⟩ (by kernel_rfl) (by kernel_rfl) (fun _ _ => by kernel_rfl) (fun _ _ => by kernel_rfl) ⟨fun _ _ => by kernel_rfl, fun _ _ => by kernel_rfl, fun _ _ => by kernel_rfl, fun _ _ => by kernel_rfl⟩ (fun _ _ _ => by kernel_rfl) (fun _ _ => by kernel_rfl) (fun _ _ => by kernel_rfl) (fun _ _ => by kernel_rfl) (fun _ _ => by kernel_rfl) (fun _ _ => by kernel_rfl) trivial trivial (by kernel_rfl) ⟨?c3_1, ?c3_7, trivial⟩ ?k3
  case c3_1 =>
   refine kcast (A := ∀ (φ3 : Nat → Nat) (xs3 : Xs) (J1_3 : IM), I.Le J1_3 → Fun Try.prog 43 #[.slice a L.length c, .int .u64 0, .int .i64 2] J1_3 (fun v J' => ∃ x : UX, v = .slice (x.p 0) (List.length (L ++ putBits 0 2)) (x.n 0) ∧ (BoS J' (L ++ putBits 0 2) (.slice (x.p 0) (List.length (L ++ putBits 0 2)) (x.n 0))))) (by kernel_rfl) ?_
   intro φ3 xs3 J1_3 leJ
   have hL := BoS.mono leJ hL
   exact Fun.mono (refput_c (n := 0) (k := 2) hL (by (try simp only [List.length_append, putBits_len, List.length_nil]); omega) (by decide) (by decide)) (fun v J' _ ⟨y0, y1, hv, g0⟩ => ⟨{ UX.d with p := fun j => y0, n := fun j => y1 }, hv, g0⟩)
  case c3_7 =>
   refine kcast (A := ∀ (φ3 : Nat → Nat) (xs3 : Xs) (J7_3 : IM), I.Le J7_3 → (BoS J7_3 (L ++ putBits 0 2) (.slice ((xs3 1).p 0) (List.length (L ++ putBits 0 2)) ((xs3 1).n 0))) → Fun Try.prog 43 #[.slice ((xs3 1).p 0) (List.length (L ++ putBits 0 2)) ((xs3 1).n 0), .int .u64 0, .int .i64 1] J7_3 (fun v J' => ∃ x : UX, v = .slice (x.p 0) (List.length (L ++ putBits 0 2 ++ putBits 0 1)) (x.n 0) ∧ (BoS J' (L ++ putBits 0 2 ++ putBits 0 1) (.slice (x.p 0) (List.length (L ++ putBits 0 2 ++ putBits 0 1)) (x.n 0))))) (by kernel_rfl) ?_
   intro φ3 xs3 J7_3 leJ
   rintro h3_1_0
   exact Fun.mono (refput_c (n := 0) (k := 1) h3_1_0 (by (try simp only [List.length_append, putBits_len, List.length_nil]); omega) (by decide) (by decide)) (fun v J' _ ⟨y0, y1, hv, g0⟩ => ⟨{ UX.d with p := fun j => y0, n := fun j => y1 }, hv, g0⟩)
  case k3 =>
   rintro φ3 xs3 I3 w3 le3 s h3_1_0 h3_7_0
   replace hL := BoS.mono le3 hL
   replace h := le3 _ _ h
   refine wp_ret ?_
   refine ret_rule (C := []) [] [] (.slice ((xs3 7).p 0) (List.length (L ++ putBits 0 2 ++ putBits 0 1)) ((xs3 7).n 0)) [] [] s trivial (by kernel_rfl) ?_
   have e9 : L ++ putBits 0 2 ++ putBits 0 1 = L ++ idB Ev.T.zero := by simp [idB]
   rw [e9] at h3_7_0 ⊢
   exact ⟨_, _, _, rfl, s, ⟨_, _, rfl, h3_7_0⟩⟩
 | one =>
  refine enter_rule 60 [(0, .slice a L.length c), (1, pB k)] Try.func20 rfl (by kernel_rfl) ?_
  intro w s
  refine seqR ?_
  refine ops_rule (C := []) [] [] 1 [] 0 (fun φ1 => [(4, .slice none 0 0)]) (fun φ1 => []) (fun φ1 => []) s trivial (fun φ1 => by kernel_rfl) ?_
  intro φ1 w1 s
  refine ops_done (by kernel_rfl) ?_
  refine wp_seq ?_
  refine seqR ?_
  refine ops_rule (C := [(k, .cells #[.int .i64 1, .pointer none, .pointer none] 84)]) [] [] 5 [.c 0] 0 (fun φ2 => [(9, .bool true), (8, .int .i64 1), (7, pB k), (6, pB k), (5, pB k)]) (fun φ2 => []) (fun φ2 => [k]) s ⟨h, trivial⟩ (fun φ2 => by kernel_rfl) ?_
  intro φ2 w2 s
  refine ops_done (by kernel_rfl) ?_
  refine cond_true_rule (b := true) (by kernel_rfl) rfl ?_
  refine wp_seq ?_
  refine draw_rule (C := [(k, .cells #[.int .i64 1, .pointer none, .pointer none] 84)]) ⟨(fun φ3 xs3 => [.look 0 [] [], .call 43 #[.slice a L.length c, .int .u64 0, .int .i64 2], .look 0 [] [], .look 0 [] [], .look 0 [] [], .look 0 [.c 0] [k], .look 0 [] [], .call 43 #[.slice ((xs3 1).p 0) (List.length (L ++ putBits 0 2)) ((xs3 1).n 0), .int .u64 1, .int .i64 1], .look 0 [] []]), (fun φ3 xs3 => [.slice a L.length c, .slice ((xs3 1).p 0) (List.length (L ++ putBits 0 2)) ((xs3 1).n 0), pB k, pB k, pB k, .int .i64 1, .int .u64 1, .slice ((xs3 7).p 0) (List.length (L ++ putBits 0 2 ++ putBits 1 1)) ((xs3 7).n 0), .slice ((xs3 7).p 0) (List.length (L ++ putBits 0 2 ++ putBits 1 1)) ((xs3 7).n 0)]), (fun φ3 xs3 => [[]]), (fun φ3 xs3 => [[default, default, default, default, default, default, default, default, default]]), [], [1, 3, 1, 1, 1, 1, 1, 3, 1]⟩ (fun j => ([MP.any, ⟨fun x J => BoS J (L ++ putBits 0 2) (.slice (x.p 0) (List.length (L ++ putBits 0 2)) (x.n 0)), fun le h => BoS.mono le h⟩, MP.any, MP.any, MP.any, MP.any, MP.any, ⟨fun x J => BoS J (L ++ putBits 0 2 ++ putBits 1 1) (.slice (x.p 0) (List.length (L ++ putBits 0 2 ++ putBits 1 1)) (x.n 0)), fun le h => BoS.mono le h⟩] : List MP).getD j MP.any) [1, 7] [] [] (fun φ3 xs3 => []) (fun φ3 xs3 => [(10, .slice a L.length c), (11, .slice ((xs3 1).p 0) (List.length (L ++ putBits 0 2)) ((xs3 1).n 0)), (12, pB k), (13, pB k), (14, pB k), (15, .int .i64 1), (16, .int .u64 1), (17, .slice ((xs3 7).p 0) (List.length (L ++ putBits 0 2 ++ putBits 1 1)) ((xs3 7).n 0)), (4, .slice ((xs3 7).p 0) (List.length (L ++ putBits 0 2 ++ putBits 1 1)) ((xs3 7).n 0))]) (fun φ3 xs3 => []) s ⟨h, trivial⟩ (by kernel_rfl) (by kernel_rfl) (fun _ _ => by kernel_rfl) (fun _ _ => by kernel_rfl) ⟨fun _ _ => by kernel_rfl, fun _ _ => by kernel_rfl, fun _ _ => by kernel_rfl, fun _ _ => by kernel_rfl⟩ (fun _ _ _ => by kernel_rfl) (fun _ _ => by kernel_rfl) (fun _ _ => by kernel_rfl) (fun _ _ => by kernel_rfl) (fun _ _ => by kernel_rfl) (fun _ _ => by kernel_rfl) trivial trivial (by kernel_rfl) ⟨?c3_1, ?c3_7, trivial⟩ ?k3
  case c3_1 =>
   refine kcast (A := ∀ (φ3 : Nat → Nat) (xs3 : Xs) (J1_3 : IM), I.Le J1_3 → Fun Try.prog 43 #[.slice a L.length c, .int .u64 0, .int .i64 2] J1_3 (fun v J' => ∃ x : UX, v = .slice (x.p 0) (List.length (L ++ putBits 0 2)) (x.n 0) ∧ (BoS J' (L ++ putBits 0 2) (.slice (x.p 0) (List.length (L ++ putBits 0 2)) (x.n 0))))) (by kernel_rfl) ?_
   intro φ3 xs3 J1_3 leJ
   have hL := BoS.mono leJ hL
   exact Fun.mono (refput_c (n := 0) (k := 2) hL (by (try simp only [List.length_append, putBits_len, List.length_nil]); omega) (by decide) (by decide)) (fun v J' _ ⟨y0, y1, hv, g0⟩ => ⟨{ UX.d with p := fun j => y0, n := fun j => y1 }, hv, g0⟩)
  case c3_7 =>
   refine kcast (A := ∀ (φ3 : Nat → Nat) (xs3 : Xs) (J7_3 : IM), I.Le J7_3 → (BoS J7_3 (L ++ putBits 0 2) (.slice ((xs3 1).p 0) (List.length (L ++ putBits 0 2)) ((xs3 1).n 0))) → Fun Try.prog 43 #[.slice ((xs3 1).p 0) (List.length (L ++ putBits 0 2)) ((xs3 1).n 0), .int .u64 1, .int .i64 1] J7_3 (fun v J' => ∃ x : UX, v = .slice (x.p 0) (List.length (L ++ putBits 0 2 ++ putBits 1 1)) (x.n 0) ∧ (BoS J' (L ++ putBits 0 2 ++ putBits 1 1) (.slice (x.p 0) (List.length (L ++ putBits 0 2 ++ putBits 1 1)) (x.n 0))))) (by kernel_rfl) ?_
   intro φ3 xs3 J7_3 leJ
   rintro h3_1_0
   exact Fun.mono (refput_c (n := 1) (k := 1) h3_1_0 (by (try simp only [List.length_append, putBits_len, List.length_nil]); omega) (by decide) (by decide)) (fun v J' _ ⟨y0, y1, hv, g0⟩ => ⟨{ UX.d with p := fun j => y0, n := fun j => y1 }, hv, g0⟩)
  case k3 =>
   rintro φ3 xs3 I3 w3 le3 s h3_1_0 h3_7_0
   replace hL := BoS.mono le3 hL
   replace h := le3 _ _ h
   refine wp_ret ?_
   refine ret_rule (C := []) [] [] (.slice ((xs3 7).p 0) (List.length (L ++ putBits 0 2 ++ putBits 1 1)) ((xs3 7).n 0)) [] [] s trivial (by kernel_rfl) ?_
   have e9 : L ++ putBits 0 2 ++ putBits 1 1 = L ++ idB Ev.T.one := by simp [idB]
   rw [e9] at h3_7_0 ⊢
   exact ⟨_, _, _, rfl, s, ⟨_, _, rfl, h3_7_0⟩⟩
 | node l r =>
  obtain ⟨ihl, ihr⟩ := ih l r rfl
  clear ih
  obtain ⟨kl, kr, hk, hl, hr⟩ := h
  refine enter_rule 60 [(0, .slice a L.length c), (1, pB k)] Try.func20 rfl (by kernel_rfl) ?_
  intro w s
  refine seqR ?_
  refine ops_rule (C := []) [] [] 1 [] 0 (fun φ1 => [(4, .slice none 0 0)]) (fun φ1 => []) (fun φ1 => []) s trivial (fun φ1 => by kernel_rfl) ?_
  intro φ1 w1 s
  refine ops_done (by kernel_rfl) ?_
  refine wp_seq ?_
  refine seqR ?_
  refine ops_rule (C := [(k, .cells #[.int .i64 2, pB kl, pB kr] 84)]) [] [] 5 [.c 0] 0 (fun φ2 => [(9, .bool false), (8, .int .i64 2), (7, pB k), (6, pB k), (5, pB k)]) (fun φ2 => []) (fun φ2 => [k]) s ⟨hk, trivial⟩ (fun φ2 => by kernel_rfl) ?_
  intro φ2 w2 s
  refine ops_done (by kernel_rfl) ?_
  refine cond_false_rule (b := false) (by kernel_rfl) rfl ?_
  refine wp_skip ?_
  refine wp_seq ?_
  refine seqR ?_
  obtain ⟨pl3, pr3, hp3⟩ := Ev.RT.peek hl
  refine ops_rule (C := [(k, .cells #[.int .i64 2, pB kl, pB kr] 84), (kl, .cells #[.int .i64 (Ev.kindT l), .pointer pl3, .pointer pr3] 84)]) [] [] 8 [.c 0, .c 1] 0 (fun φ3 => [(25, .bool (((Ev.kindT l : Nat) : Int) == ((0 : Nat) : Int))), (24, .int .i64 (Ev.kindT l)), (23, pB kl), (22, pB kl), (21, pB kl), (20, .pointer (some ⟨k, 1, none⟩)), (19, pB k), (18, pB k)]) (fun φ3 => []) (fun φ3 => [k, kl]) s ⟨hk, ⟨hp3, trivial⟩⟩ (fun φ3 => by kernel_rfl) ?_
  intro φ3 w3 s
  rw [nat_eql (a := (Ev.kindT l)) (b := 0)]
  refine ops_done (by kernel_rfl) ?_
  rcases Bool.eq_false_or_eq_true (decide ((Ev.kindT l) = 0)) with hc5 | hc5
  ·
   rw [hc5]
   refine cond_true_rule (b := true) (by kernel_rfl) rfl ?_
   refine wp_seq ?_
   refine draw_rule (C := [(k, .cells #[.int .i64 2, pB kl, pB kr] 84)]) ⟨(fun φ6 xs6 => [.look 0 [] [], .call 43 #[.slice a L.length c, .int .u64 1, .int .i64 2], .look 0 [] [], .look 0 [] [], .look 0 [] [], .look 0 [.c 0] [k], .call 20 #[.slice ((xs6 1).p 0) (List.length (L ++ putBits 1 2)) ((xs6 1).n 0), pB kr], .look 0 [] []]), (fun φ6 xs6 => [.slice a L.length c, .slice ((xs6 1).p 0) (List.length (L ++ putBits 1 2)) ((xs6 1).n 0), pB k, pB k, .pointer (some ⟨k, 2, none⟩), pB kr, .slice ((xs6 6).p 0) (List.length (L ++ putBits 1 2 ++ idB r)) ((xs6 6).n 0), .slice ((xs6 6).p 0) (List.length (L ++ putBits 1 2 ++ idB r)) ((xs6 6).n 0)]), (fun φ6 xs6 => [[]]), (fun φ6 xs6 => [[default, default, default, default, default, default, default, default]]), [], [1, 3, 1, 1, 1, 1, 3, 1]⟩ (fun j => ([MP.any, ⟨fun x J => BoS J (L ++ putBits 1 2) (.slice (x.p 0) (List.length (L ++ putBits 1 2)) (x.n 0)), fun le h => BoS.mono le h⟩, MP.any, MP.any, MP.any, MP.any, ⟨fun x J => BoS J (L ++ putBits 1 2 ++ idB r) (.slice (x.p 0) (List.length (L ++ putBits 1 2 ++ idB r)) (x.n 0)), fun le h => BoS.mono le h⟩] : List MP).getD j MP.any) [1, 6] [] [] (fun φ6 xs6 => []) (fun φ6 xs6 => [(26, .slice a L.length c), (27, .slice ((xs6 1).p 0) (List.length (L ++ putBits 1 2)) ((xs6 1).n 0)), (28, pB k), (29, pB k), (30, .pointer (some ⟨k, 2, none⟩)), (31, pB kr), (32, .slice ((xs6 6).p 0) (List.length (L ++ putBits 1 2 ++ idB r)) ((xs6 6).n 0)), (4, .slice ((xs6 6).p 0) (List.length (L ++ putBits 1 2 ++ idB r)) ((xs6 6).n 0))]) (fun φ6 xs6 => []) s ⟨hk, trivial⟩ (by kernel_rfl) (by kernel_rfl) (fun _ _ => by kernel_rfl) (fun _ _ => by kernel_rfl) ⟨fun _ _ => by kernel_rfl, fun _ _ => by kernel_rfl, fun _ _ => by kernel_rfl, fun _ _ => by kernel_rfl⟩ (fun _ _ _ => by kernel_rfl) (fun _ _ => by kernel_rfl) (fun _ _ => by kernel_rfl) (fun _ _ => by kernel_rfl) (fun _ _ => by kernel_rfl) (fun _ _ => by kernel_rfl) trivial trivial (by kernel_rfl) ⟨?c6_1, ?c6_6, trivial⟩ ?k6
   case c6_1 =>
    refine kcast (A := ∀ (φ6 : Nat → Nat) (xs6 : Xs) (J1_6 : IM), I.Le J1_6 → Fun Try.prog 43 #[.slice a L.length c, .int .u64 1, .int .i64 2] J1_6 (fun v J' => ∃ x : UX, v = .slice (x.p 0) (List.length (L ++ putBits 1 2)) (x.n 0) ∧ (BoS J' (L ++ putBits 1 2) (.slice (x.p 0) (List.length (L ++ putBits 1 2)) (x.n 0))))) (by kernel_rfl) ?_
    intro φ6 xs6 J1_6 leJ
    have hL := BoS.mono leJ hL
    exact Fun.mono (refput_c (n := 1) (k := 2) hL (by have h7 := congrArg List.length (idB_nd1 (r := r) (of_decide_eq_true hc5)); simp only [List.length_append, putBits_len] at h7; (try simp only [List.length_append, putBits_len, List.length_nil]); omega) (by decide) (by decide)) (fun v J' _ ⟨y0, y1, hv, g0⟩ => ⟨{ UX.d with p := fun j => y0, n := fun j => y1 }, hv, g0⟩)
   case c6_6 =>
    refine kcast (A := ∀ (φ6 : Nat → Nat) (xs6 : Xs) (J6_6 : IM), I.Le J6_6 → (BoS J6_6 (L ++ putBits 1 2) (.slice ((xs6 1).p 0) (List.length (L ++ putBits 1 2)) ((xs6 1).n 0))) → Fun Try.prog 20 #[.slice ((xs6 1).p 0) (List.length (L ++ putBits 1 2)) ((xs6 1).n 0), pB kr] J6_6 (fun v J' => ∃ x : UX, v = .slice (x.p 0) (List.length (L ++ putBits 1 2 ++ idB r)) (x.n 0) ∧ (BoS J' (L ++ putBits 1 2 ++ idB r) (.slice (x.p 0) (List.length (L ++ putBits 1 2 ++ idB r)) (x.n 0))))) (by kernel_rfl) ?_
    intro φ6 xs6 J6_6 leJ
    rintro h6_1_0
    have hr := Ev.RT.mono leJ hr
    exact Fun.mono (ihr hr h6_1_0 (by have h7 := congrArg List.length (idB_nd1 (r := r) (of_decide_eq_true hc5)); simp only [List.length_append, putBits_len] at h7; (try simp only [List.length_append, putBits_len, List.length_nil]); omega)) (fun v J' _ ⟨y0, y1, hv, g0⟩ => ⟨{ UX.d with p := fun j => y0, n := fun j => y1 }, hv, g0⟩)
   case k6 =>
    rintro φ6 xs6 I6 w6 le6 s h6_1_0 h6_6_0
    replace hl := Ev.RT.mono le6 hl
    replace hr := Ev.RT.mono le6 hr
    replace hL := BoS.mono le6 hL
    replace hk := le6 _ _ hk
    refine wp_ret ?_
    refine ret_rule (C := []) [] [] (.slice ((xs6 6).p 0) (List.length (L ++ putBits 1 2 ++ idB r)) ((xs6 6).n 0)) [] [] s trivial (by kernel_rfl) ?_
    have e9 : L ++ putBits 1 2 ++ idB r = L ++ idB (Ev.T.node l r) := by rw [idB_nd1 (of_decide_eq_true hc5)]; simp
    rw [e9] at h6_6_0 ⊢
    exact ⟨_, _, _, rfl, s, ⟨_, _, rfl, h6_6_0⟩⟩
  ·
   rw [hc5]
   refine cond_false_rule (b := false) (by kernel_rfl) rfl ?_
   refine wp_skip ?_
   refine wp_seq ?_
   refine seqR ?_
   obtain ⟨pl7, pr7, hp7⟩ := Ev.RT.peek hr
   refine ops_rule (C := [(k, .cells #[.int .i64 2, pB kl, pB kr] 84), (kr, .cells #[.int .i64 (Ev.kindT r), .pointer pl7, .pointer pr7] 84)]) [] [] 8 [.c 0, .c 1] 0 (fun φ7 => [(40, .bool (((Ev.kindT r : Nat) : Int) == ((0 : Nat) : Int))), (39, .int .i64 (Ev.kindT r)), (38, pB kr), (37, pB kr), (36, pB kr), (35, .pointer (some ⟨k, 2, none⟩)), (34, pB k), (33, pB k)]) (fun φ7 => []) (fun φ7 => [k, kr]) s ⟨hk, ⟨hp7, trivial⟩⟩ (fun φ7 => by kernel_rfl) ?_
   intro φ7 w7 s
   rw [nat_eql (a := (Ev.kindT r)) (b := 0)]
   refine ops_done (by kernel_rfl) ?_
   rcases Bool.eq_false_or_eq_true (decide ((Ev.kindT r) = 0)) with hc9 | hc9
   ·
    rw [hc9]
    refine cond_true_rule (b := true) (by kernel_rfl) rfl ?_
    refine wp_seq ?_
    refine draw_rule (C := [(k, .cells #[.int .i64 2, pB kl, pB kr] 84)]) ⟨(fun φ10 xs10 => [.look 0 [] [], .call 43 #[.slice a L.length c, .int .u64 2, .int .i64 2], .look 0 [] [], .look 0 [] [], .look 0 [] [], .look 0 [.c 0] [k], .call 20 #[.slice ((xs10 1).p 0) (List.length (L ++ putBits 2 2)) ((xs10 1).n 0), pB kl], .look 0 [] []]), (fun φ10 xs10 => [.slice a L.length c, .slice ((xs10 1).p 0) (List.length (L ++ putBits 2 2)) ((xs10 1).n 0), pB k, pB k, .pointer (some ⟨k, 1, none⟩), pB kl, .slice ((xs10 6).p 0) (List.length (L ++ putBits 2 2 ++ idB l)) ((xs10 6).n 0), .slice ((xs10 6).p 0) (List.length (L ++ putBits 2 2 ++ idB l)) ((xs10 6).n 0)]), (fun φ10 xs10 => [[]]), (fun φ10 xs10 => [[default, default, default, default, default, default, default, default]]), [], [1, 3, 1, 1, 1, 1, 3, 1]⟩ (fun j => ([MP.any, ⟨fun x J => BoS J (L ++ putBits 2 2) (.slice (x.p 0) (List.length (L ++ putBits 2 2)) (x.n 0)), fun le h => BoS.mono le h⟩, MP.any, MP.any, MP.any, MP.any, ⟨fun x J => BoS J (L ++ putBits 2 2 ++ idB l) (.slice (x.p 0) (List.length (L ++ putBits 2 2 ++ idB l)) (x.n 0)), fun le h => BoS.mono le h⟩] : List MP).getD j MP.any) [1, 6] [] [] (fun φ10 xs10 => []) (fun φ10 xs10 => [(41, .slice a L.length c), (42, .slice ((xs10 1).p 0) (List.length (L ++ putBits 2 2)) ((xs10 1).n 0)), (43, pB k), (44, pB k), (45, .pointer (some ⟨k, 1, none⟩)), (46, pB kl), (47, .slice ((xs10 6).p 0) (List.length (L ++ putBits 2 2 ++ idB l)) ((xs10 6).n 0)), (4, .slice ((xs10 6).p 0) (List.length (L ++ putBits 2 2 ++ idB l)) ((xs10 6).n 0))]) (fun φ10 xs10 => []) s ⟨hk, trivial⟩ (by kernel_rfl) (by kernel_rfl) (fun _ _ => by kernel_rfl) (fun _ _ => by kernel_rfl) ⟨fun _ _ => by kernel_rfl, fun _ _ => by kernel_rfl, fun _ _ => by kernel_rfl, fun _ _ => by kernel_rfl⟩ (fun _ _ _ => by kernel_rfl) (fun _ _ => by kernel_rfl) (fun _ _ => by kernel_rfl) (fun _ _ => by kernel_rfl) (fun _ _ => by kernel_rfl) (fun _ _ => by kernel_rfl) trivial trivial (by kernel_rfl) ⟨?c10_1, ?c10_6, trivial⟩ ?k10
    case c10_1 =>
     refine kcast (A := ∀ (φ10 : Nat → Nat) (xs10 : Xs) (J1_10 : IM), I.Le J1_10 → Fun Try.prog 43 #[.slice a L.length c, .int .u64 2, .int .i64 2] J1_10 (fun v J' => ∃ x : UX, v = .slice (x.p 0) (List.length (L ++ putBits 2 2)) (x.n 0) ∧ (BoS J' (L ++ putBits 2 2) (.slice (x.p 0) (List.length (L ++ putBits 2 2)) (x.n 0))))) (by kernel_rfl) ?_
     intro φ10 xs10 J1_10 leJ
     have hL := BoS.mono leJ hL
     exact Fun.mono (refput_c (n := 2) (k := 2) hL (by have h7 := congrArg List.length (idB_nd2 (of_decide_eq_false hc5) (of_decide_eq_true hc9)); simp only [List.length_append, putBits_len] at h7; (try simp only [List.length_append, putBits_len, List.length_nil]); omega) (by decide) (by decide)) (fun v J' _ ⟨y0, y1, hv, g0⟩ => ⟨{ UX.d with p := fun j => y0, n := fun j => y1 }, hv, g0⟩)
    case c10_6 =>
     refine kcast (A := ∀ (φ10 : Nat → Nat) (xs10 : Xs) (J6_10 : IM), I.Le J6_10 → (BoS J6_10 (L ++ putBits 2 2) (.slice ((xs10 1).p 0) (List.length (L ++ putBits 2 2)) ((xs10 1).n 0))) → Fun Try.prog 20 #[.slice ((xs10 1).p 0) (List.length (L ++ putBits 2 2)) ((xs10 1).n 0), pB kl] J6_10 (fun v J' => ∃ x : UX, v = .slice (x.p 0) (List.length (L ++ putBits 2 2 ++ idB l)) (x.n 0) ∧ (BoS J' (L ++ putBits 2 2 ++ idB l) (.slice (x.p 0) (List.length (L ++ putBits 2 2 ++ idB l)) (x.n 0))))) (by kernel_rfl) ?_
     intro φ10 xs10 J6_10 leJ
     rintro h10_1_0
     have hl := Ev.RT.mono leJ hl
     exact Fun.mono (ihl hl h10_1_0 (by have h7 := congrArg List.length (idB_nd2 (of_decide_eq_false hc5) (of_decide_eq_true hc9)); simp only [List.length_append, putBits_len] at h7; (try simp only [List.length_append, putBits_len, List.length_nil]); omega)) (fun v J' _ ⟨y0, y1, hv, g0⟩ => ⟨{ UX.d with p := fun j => y0, n := fun j => y1 }, hv, g0⟩)
    case k10 =>
     rintro φ10 xs10 I10 w10 le10 s h10_1_0 h10_6_0
     replace hl := Ev.RT.mono le10 hl
     replace hr := Ev.RT.mono le10 hr
     replace hL := BoS.mono le10 hL
     replace hk := le10 _ _ hk
     refine wp_ret ?_
     refine ret_rule (C := []) [] [] (.slice ((xs10 6).p 0) (List.length (L ++ putBits 2 2 ++ idB l)) ((xs10 6).n 0)) [] [] s trivial (by kernel_rfl) ?_
     have e9 : L ++ putBits 2 2 ++ idB l = L ++ idB (Ev.T.node l r) := by rw [idB_nd2 (of_decide_eq_false hc5) (of_decide_eq_true hc9)]; simp
     rw [e9] at h10_6_0 ⊢
     exact ⟨_, _, _, rfl, s, ⟨_, _, rfl, h10_6_0⟩⟩
   ·
    rw [hc9]
    refine cond_false_rule (b := false) (by kernel_rfl) rfl ?_
    refine wp_skip ?_
    refine wp_seq ?_
    refine draw_rule (C := [(k, .cells #[.int .i64 2, pB kl, pB kr] 84)]) ⟨(fun φ11 xs11 => [.look 0 [] [], .call 43 #[.slice a L.length c, .int .u64 3, .int .i64 2], .look 0 [] [], .look 0 [] [], .look 0 [] [], .look 0 [.c 0] [k], .call 20 #[.slice ((xs11 1).p 0) (List.length (L ++ putBits 3 2)) ((xs11 1).n 0), pB kl], .look 0 [] [], .look 0 [] [], .look 0 [] [], .look 0 [.c 0] [k], .call 20 #[.slice ((xs11 6).p 0) (List.length (L ++ putBits 3 2 ++ idB l)) ((xs11 6).n 0), pB kr], .look 0 [] []]), (fun φ11 xs11 => [.slice a L.length c, .slice ((xs11 1).p 0) (List.length (L ++ putBits 3 2)) ((xs11 1).n 0), pB k, pB k, .pointer (some ⟨k, 1, none⟩), pB kl, .slice ((xs11 6).p 0) (List.length (L ++ putBits 3 2 ++ idB l)) ((xs11 6).n 0), pB k, pB k, .pointer (some ⟨k, 2, none⟩), pB kr, .slice ((xs11 11).p 0) (List.length (L ++ putBits 3 2 ++ idB l ++ idB r)) ((xs11 11).n 0), .slice ((xs11 11).p 0) (List.length (L ++ putBits 3 2 ++ idB l ++ idB r)) ((xs11 11).n 0)]), (fun φ11 xs11 => [[]]), (fun φ11 xs11 => [[default, default, default, default, default, default, default, default, default, default, default, default, default]]), [], [1, 3, 1, 1, 1, 1, 3, 1, 1, 1, 1, 3, 1]⟩ (fun j => ([MP.any, ⟨fun x J => BoS J (L ++ putBits 3 2) (.slice (x.p 0) (List.length (L ++ putBits 3 2)) (x.n 0)), fun le h => BoS.mono le h⟩, MP.any, MP.any, MP.any, MP.any, ⟨fun x J => BoS J (L ++ putBits 3 2 ++ idB l) (.slice (x.p 0) (List.length (L ++ putBits 3 2 ++ idB l)) (x.n 0)), fun le h => BoS.mono le h⟩, MP.any, MP.any, MP.any, MP.any, ⟨fun x J => BoS J (L ++ putBits 3 2 ++ idB l ++ idB r) (.slice (x.p 0) (List.length (L ++ putBits 3 2 ++ idB l ++ idB r)) (x.n 0)), fun le h => BoS.mono le h⟩] : List MP).getD j MP.any) [1, 6, 11] [] [] (fun φ11 xs11 => []) (fun φ11 xs11 => [(48, .slice a L.length c), (49, .slice ((xs11 1).p 0) (List.length (L ++ putBits 3 2)) ((xs11 1).n 0)), (50, pB k), (51, pB k), (52, .pointer (some ⟨k, 1, none⟩)), (53, pB kl), (54, .slice ((xs11 6).p 0) (List.length (L ++ putBits 3 2 ++ idB l)) ((xs11 6).n 0)), (55, pB k), (56, pB k), (57, .pointer (some ⟨k, 2, none⟩)), (58, pB kr), (59, .slice ((xs11 11).p 0) (List.length (L ++ putBits 3 2 ++ idB l ++ idB r)) ((xs11 11).n 0)), (4, .slice ((xs11 11).p 0) (List.length (L ++ putBits 3 2 ++ idB l ++ idB r)) ((xs11 11).n 0))]) (fun φ11 xs11 => []) s ⟨hk, trivial⟩ (by kernel_rfl) (by kernel_rfl) (fun _ _ => by kernel_rfl) (fun _ _ => by kernel_rfl) ⟨fun _ _ => by kernel_rfl, fun _ _ => by kernel_rfl, fun _ _ => by kernel_rfl, fun _ _ => by kernel_rfl⟩ (fun _ _ _ => by kernel_rfl) (fun _ _ => by kernel_rfl) (fun _ _ => by kernel_rfl) (fun _ _ => by kernel_rfl) (fun _ _ => by kernel_rfl) (fun _ _ => by kernel_rfl) trivial trivial (by kernel_rfl) ⟨?c11_1, ?c11_6, ?c11_11, trivial⟩ ?k11
    case c11_1 =>
     refine kcast (A := ∀ (φ11 : Nat → Nat) (xs11 : Xs) (J1_11 : IM), I.Le J1_11 → Fun Try.prog 43 #[.slice a L.length c, .int .u64 3, .int .i64 2] J1_11 (fun v J' => ∃ x : UX, v = .slice (x.p 0) (List.length (L ++ putBits 3 2)) (x.n 0) ∧ (BoS J' (L ++ putBits 3 2) (.slice (x.p 0) (List.length (L ++ putBits 3 2)) (x.n 0))))) (by kernel_rfl) ?_
     intro φ11 xs11 J1_11 leJ
     have hL := BoS.mono leJ hL
     exact Fun.mono (refput_c (n := 3) (k := 2) hL (by have h7 := congrArg List.length (idB_nd3 (of_decide_eq_false hc5) (of_decide_eq_false hc9)); simp only [List.length_append, putBits_len] at h7; (try simp only [List.length_append, putBits_len, List.length_nil]); omega) (by decide) (by decide)) (fun v J' _ ⟨y0, y1, hv, g0⟩ => ⟨{ UX.d with p := fun j => y0, n := fun j => y1 }, hv, g0⟩)
    case c11_6 =>
     refine kcast (A := ∀ (φ11 : Nat → Nat) (xs11 : Xs) (J6_11 : IM), I.Le J6_11 → (BoS J6_11 (L ++ putBits 3 2) (.slice ((xs11 1).p 0) (List.length (L ++ putBits 3 2)) ((xs11 1).n 0))) → Fun Try.prog 20 #[.slice ((xs11 1).p 0) (List.length (L ++ putBits 3 2)) ((xs11 1).n 0), pB kl] J6_11 (fun v J' => ∃ x : UX, v = .slice (x.p 0) (List.length (L ++ putBits 3 2 ++ idB l)) (x.n 0) ∧ (BoS J' (L ++ putBits 3 2 ++ idB l) (.slice (x.p 0) (List.length (L ++ putBits 3 2 ++ idB l)) (x.n 0))))) (by kernel_rfl) ?_
     intro φ11 xs11 J6_11 leJ
     rintro h11_1_0
     have hl := Ev.RT.mono leJ hl
     exact Fun.mono (ihl hl h11_1_0 (by have h7 := congrArg List.length (idB_nd3 (of_decide_eq_false hc5) (of_decide_eq_false hc9)); simp only [List.length_append, putBits_len] at h7; (try simp only [List.length_append, putBits_len, List.length_nil]); omega)) (fun v J' _ ⟨y0, y1, hv, g0⟩ => ⟨{ UX.d with p := fun j => y0, n := fun j => y1 }, hv, g0⟩)
    case c11_11 =>
     refine kcast (A := ∀ (φ11 : Nat → Nat) (xs11 : Xs) (J11_11 : IM), I.Le J11_11 → (BoS J11_11 (L ++ putBits 3 2) (.slice ((xs11 1).p 0) (List.length (L ++ putBits 3 2)) ((xs11 1).n 0))) → (BoS J11_11 (L ++ putBits 3 2 ++ idB l) (.slice ((xs11 6).p 0) (List.length (L ++ putBits 3 2 ++ idB l)) ((xs11 6).n 0))) → Fun Try.prog 20 #[.slice ((xs11 6).p 0) (List.length (L ++ putBits 3 2 ++ idB l)) ((xs11 6).n 0), pB kr] J11_11 (fun v J' => ∃ x : UX, v = .slice (x.p 0) (List.length (L ++ putBits 3 2 ++ idB l ++ idB r)) (x.n 0) ∧ (BoS J' (L ++ putBits 3 2 ++ idB l ++ idB r) (.slice (x.p 0) (List.length (L ++ putBits 3 2 ++ idB l ++ idB r)) (x.n 0))))) (by kernel_rfl) ?_
     intro φ11 xs11 J11_11 leJ
     rintro h11_1_0 h11_6_0
     have hr := Ev.RT.mono leJ hr
     exact Fun.mono (ihr hr h11_6_0 (by have h7 := congrArg List.length (idB_nd3 (of_decide_eq_false hc5) (of_decide_eq_false hc9)); simp only [List.length_append, putBits_len] at h7; (try simp only [List.length_append, putBits_len, List.length_nil]); omega)) (fun v J' _ ⟨y0, y1, hv, g0⟩ => ⟨{ UX.d with p := fun j => y0, n := fun j => y1 }, hv, g0⟩)
    case k11 =>
     rintro φ11 xs11 I11 w11 le11 s h11_1_0 h11_6_0 h11_11_0
     refine wp_ret ?_
     refine ret_rule (C := []) [] [] (.slice ((xs11 11).p 0) (List.length (L ++ putBits 3 2 ++ idB l ++ idB r)) ((xs11 11).n 0)) [] [] s trivial (by kernel_rfl) ?_
     have e9 : L ++ putBits 3 2 ++ idB l ++ idB r = L ++ idB (Ev.T.node l r) := by rw [idB_nd3 (of_decide_eq_false hc5) (of_decide_eq_false hc9)]; simp
     rw [e9] at h11_11_0 ⊢
     exact ⟨_, _, _, rfl, s, ⟨_, _, rfl, h11_11_0⟩⟩

theorem refID_c : ∀ (t : Ev.T) {I : IM} {k : Nat} {L : List Bool} {a : Option Addr} {m c : Nat}, Ev.RT I t k → BoS I L (.slice a m c) → L.length + (idB t).length ≤ 700000 → Fun Try.prog 20 #[.slice a m c, .pointer (some ⟨k, 0, none⟩)] I (fun v J => boR (L ++ idB t) v J)
  | .zero, _, _, _, _, _, _, h, hL, hl => refID_step h hL hl (fun l r h => by cases h)
  | .one, _, _, _, _, _, _, h, hL, hl => refID_step h hL hl (fun l r h => by cases h)
  | .node l r, _, _, _, _, _, _, h, hL, hl => refID_step h hL hl (fun l' r' e => by
      cases e
      exact ⟨fun {J k L a m c} a1 a2 a3 => refID_c l a1 a2 a3, fun {J k L a m c} a1 a2 a3 => refID_c r a1 a2 a3⟩)

set_option maxHeartbeats 400000 in
theorem refZero_c {I : IM} {e : Ev.E} {k : Nat} (h : Ev.RE I e k) (hn : e.nf) : Fun Try.prog 45 #[.pointer (some ⟨k, 0, none⟩)] I (fun v J => v = .bool (decide (e.top = 0))) := by
 cases e with
 | leaf n =>
  refine enter_rule 15 [(0, pB k)] Try.func45 rfl (by kernel_rfl) ?_
  intro w s
  refine seqR ?_
  refine ops_rule (C := []) [] [] 1 [] 0 (fun φ1 => [(2, .bool false)]) (fun φ1 => []) (fun φ1 => []) s trivial (fun φ1 => by kernel_rfl) ?_
  intro φ1 w1 s
  refine ops_done (by kernel_rfl) ?_
  refine seqR ?_
  refine ops_rule (C := [(k, .cells #[.int .u64 n, .pointer none, .pointer none] 87)]) [] [] 13 [.c 0, .c 0] 0 (fun φ2 => [(2, .bool (((n : Nat) : Int) == ((0 : Nat) : Int))), (14, .bool (((n : Nat) : Int) == ((0 : Nat) : Int))), (13, .bool (((n : Nat) : Int) == ((0 : Nat) : Int))), (12, .int .u64 n), (11, pB k), (10, pB k), (9, pB k), (8, .bool true), (7, .bool true), (6, .pointer none), (5, .pointer (some ⟨k, 1, none⟩)), (4, pB k), (3, pB k)]) (fun φ2 => []) (fun φ2 => [k, k]) s ⟨h, trivial⟩ (fun φ2 => by kernel_rfl) ?_
  intro φ2 w2 s
  rw [nat_eql (a := n) (b := 0)]
  refine ops_done (by kernel_rfl) ?_
  refine wp_ret ?_
  refine ret_rule (C := []) [] [] (.bool (decide (n = 0))) [] [] s trivial (by kernel_rfl) ?_
  exact ⟨_, _, _, rfl, s, rfl⟩
 | node n l r =>
  obtain ⟨kl, kr, hk, hl, hr⟩ := h
  refine enter_rule 15 [(0, pB k)] Try.func45 rfl (by kernel_rfl) ?_
  intro w s
  refine seqR ?_
  refine ops_rule (C := []) [] [] 1 [] 0 (fun φ1 => [(2, .bool false)]) (fun φ1 => []) (fun φ1 => []) s trivial (fun φ1 => by kernel_rfl) ?_
  intro φ1 w1 s
  refine ops_done (by kernel_rfl) ?_
  refine seqR ?_
  refine ops_rule (C := [(k, .cells #[.int .u64 n, pB kl, pB kr] 87)]) [] [] 13 [.c 0] 0 (fun φ2 => [(2, .bool false), (14, .bool false), (13, undef), (12, undef), (11, undef), (10, undef), (9, undef), (8, .bool false), (7, .bool false), (6, pB kl), (5, .pointer (some ⟨k, 1, none⟩)), (4, pB k), (3, pB k)]) (fun φ2 => []) (fun φ2 => [k]) s ⟨hk, trivial⟩ (fun φ2 => by kernel_rfl) ?_
  intro φ2 w2 s
  refine ops_done (by kernel_rfl) ?_
  refine wp_ret ?_
  refine ret_rule (C := []) [] [] (.bool false) [] [] s trivial (by kernel_rfl) ?_
  exact ⟨_, _, _, rfl, s, (congrArg Value.bool (decide_eq_false (nd_top0 hn)).symm)⟩

set_option maxHeartbeats 4000000 in
theorem refEvent_step {I : IM} {e : Ev.E} {k : Nat} {L : List Bool} {a : Option Addr} {m c : Nat} (h : Ev.RE I e k) (hn : e.nf) (ht : e.top < 18446744073709551616) (hL : BoS I L (.slice a m c)) (hlen : L.length + (evB e).length ≤ 700000) (ih : ∀ n l r, e = .node n l r → (∀ {J : IM} {k : Nat} {L : List Bool} {a : Option Addr} {m c : Nat}, Ev.RE J l k → BoS J L (.slice a m c) → L.length + (evB l).length ≤ 700000 → Fun Try.prog 21 #[.slice a m c, .pointer (some ⟨k, 0, none⟩)] J (fun v J => boR (L ++ evB l) v J)) ∧ (∀ {J : IM} {k : Nat} {L : List Bool} {a : Option Addr} {m c : Nat}, Ev.RE J r k → BoS J L (.slice a m c) → L.length + (evB r).length ≤ 700000 → Fun Try.prog 21 #[.slice a m c, .pointer (some ⟨k, 0, none⟩)] J (fun v J => boR (L ++ evB r) v J))) : Fun Try.prog 21 #[.slice a m c, .pointer (some ⟨k, 0, none⟩)] I (fun v J => boR (L ++ evB e) v J) := by
 obtain ⟨rfl, -⟩ := hL.cap
 cases e with
 | leaf n =>
  refine enter_rule 113 [(0, .slice a L.length c), (1, pB k)] Try.func21 rfl (by kernel_rfl) ?_
  intro w s
  refine seqR ?_
  refine ops_rule (C := []) [] [] 1 [] 0 (fun φ1 => [(4, .slice none 0 0)]) (fun φ1 => []) (fun φ1 => []) s trivial (fun φ1 => by kernel_rfl) ?_
  intro φ1 w1 s
  refine ops_done (by kernel_rfl) ?_
  refine wp_seq ?_
  refine seqR ?_
  refine ops_rule (C := [(k, .cells #[.int .u64 n, .pointer none, .pointer none] 87)]) [] [] 5 [.c 0] 0 (fun φ2 => [(9, .bool true), (8, .pointer none), (7, .pointer (some ⟨k, 1, none⟩)), (6, pB k), (5, pB k)]) (fun φ2 => []) (fun φ2 => [k]) s ⟨h, trivial⟩ (fun φ2 => by kernel_rfl) ?_
  intro φ2 w2 s
  refine ops_done (by kernel_rfl) ?_
  refine cond_true_rule (b := true) (by kernel_rfl) rfl ?_
  refine wp_seq ?_
  refine draw_rule (C := [(k, .cells #[.int .u64 n, .pointer none, .pointer none] 87)]) ⟨(fun φ3 xs3 => [.look 0 [] [], .call 43 #[.slice a L.length c, .int .u64 1, .int .i64 1], .look 0 [] [], .look 0 [] [], .look 0 [] [], .look 0 [.c 0] [k], .call 44 #[.slice ((xs3 1).p 0) (List.length (L ++ putBits 1 1)) ((xs3 1).n 0), .int .u64 n], .look 0 [] []]), (fun φ3 xs3 => [.slice a L.length c, .slice ((xs3 1).p 0) (List.length (L ++ putBits 1 1)) ((xs3 1).n 0), pB k, pB k, pB k, .int .u64 n, .slice ((xs3 6).p 0) (List.length (L ++ putBits 1 1 ++ numW 62 2 n)) ((xs3 6).n 0), .slice ((xs3 6).p 0) (List.length (L ++ putBits 1 1 ++ numW 62 2 n)) ((xs3 6).n 0)]), (fun φ3 xs3 => [[]]), (fun φ3 xs3 => [[default, default, default, default, default, default, default, default]]), [], [1, 3, 1, 1, 1, 1, 3, 1]⟩ (fun j => ([MP.any, ⟨fun x J => BoS J (L ++ putBits 1 1) (.slice (x.p 0) (List.length (L ++ putBits 1 1)) (x.n 0)), fun le h => BoS.mono le h⟩, MP.any, MP.any, MP.any, MP.any, ⟨fun x J => BoS J (L ++ putBits 1 1 ++ numW 62 2 n) (.slice (x.p 0) (List.length (L ++ putBits 1 1 ++ numW 62 2 n)) (x.n 0)), fun le h => BoS.mono le h⟩] : List MP).getD j MP.any) [1, 6] [] [] (fun φ3 xs3 => []) (fun φ3 xs3 => [(10, .slice a L.length c), (11, .slice ((xs3 1).p 0) (List.length (L ++ putBits 1 1)) ((xs3 1).n 0)), (12, pB k), (13, pB k), (14, pB k), (15, .int .u64 n), (16, .slice ((xs3 6).p 0) (List.length (L ++ putBits 1 1 ++ numW 62 2 n)) ((xs3 6).n 0)), (4, .slice ((xs3 6).p 0) (List.length (L ++ putBits 1 1 ++ numW 62 2 n)) ((xs3 6).n 0))]) (fun φ3 xs3 => []) s ⟨h, trivial⟩ (by kernel_rfl) (by kernel_rfl) (fun _ _ => by kernel_rfl) (fun _ _ => by kernel_rfl) ⟨fun _ _ => by kernel_rfl, fun _ _ => by kernel_rfl, fun _ _ => by kernel_rfl, fun _ _ => by kernel_rfl⟩ (fun _ _ _ => by kernel_rfl) (fun _ _ => by kernel_rfl) (fun _ _ => by kernel_rfl) (fun _ _ => by kernel_rfl) (fun _ _ => by kernel_rfl) (fun _ _ => by kernel_rfl) trivial trivial (by kernel_rfl) ⟨?c3_1, ?c3_6, trivial⟩ ?k3
  case c3_1 =>
   refine kcast (A := ∀ (φ3 : Nat → Nat) (xs3 : Xs) (J1_3 : IM), I.Le J1_3 → Fun Try.prog 43 #[.slice a L.length c, .int .u64 1, .int .i64 1] J1_3 (fun v J' => ∃ x : UX, v = .slice (x.p 0) (List.length (L ++ putBits 1 1)) (x.n 0) ∧ (BoS J' (L ++ putBits 1 1) (.slice (x.p 0) (List.length (L ++ putBits 1 1)) (x.n 0))))) (by kernel_rfl) ?_
   intro φ3 xs3 J1_3 leJ
   have hL := BoS.mono leJ hL
   exact Fun.mono (refput_c (n := 1) (k := 1) hL (by (try simp only [List.length_append, putBits_len, List.length_nil]); omega) (by decide) (by decide)) (fun v J' _ ⟨y0, y1, hv, g0⟩ => ⟨{ UX.d with p := fun j => y0, n := fun j => y1 }, hv, g0⟩)
  case c3_6 =>
   refine kcast (A := ∀ (φ3 : Nat → Nat) (xs3 : Xs) (J6_3 : IM), I.Le J6_3 → (BoS J6_3 (L ++ putBits 1 1) (.slice ((xs3 1).p 0) (List.length (L ++ putBits 1 1)) ((xs3 1).n 0))) → Fun Try.prog 44 #[.slice ((xs3 1).p 0) (List.length (L ++ putBits 1 1)) ((xs3 1).n 0), .int .u64 n] J6_3 (fun v J' => ∃ x : UX, v = .slice (x.p 0) (List.length (L ++ putBits 1 1 ++ numW 62 2 n)) (x.n 0) ∧ (BoS J' (L ++ putBits 1 1 ++ numW 62 2 n) (.slice (x.p 0) (List.length (L ++ putBits 1 1 ++ numW 62 2 n)) (x.n 0))))) (by kernel_rfl) ?_
   intro φ3 xs3 J6_3 leJ
   rintro h3_1_0
   exact Fun.mono (refnum_c (n := n) h3_1_0 (by (try simp only [List.length_append, putBits_len, List.length_nil]); omega) (ht)) (fun v J' _ ⟨y0, y1, hv, g0⟩ => ⟨{ UX.d with p := fun j => y0, n := fun j => y1 }, hv, g0⟩)
  case k3 =>
   rintro φ3 xs3 I3 w3 le3 s h3_1_0 h3_6_0
   replace hL := BoS.mono le3 hL
   replace h := le3 _ _ h
   refine wp_ret ?_
   refine ret_rule (C := []) [] [] (.slice ((xs3 6).p 0) (List.length (L ++ putBits 1 1 ++ numW 62 2 n)) ((xs3 6).n 0)) [] [] s trivial (by kernel_rfl) ?_
   have e9 : L ++ putBits 1 1 ++ numW 62 2 n = L ++ evB (Ev.E.leaf n) := by simp [evB]
   rw [e9] at h3_6_0 ⊢
   exact ⟨_, _, _, rfl, s, ⟨_, _, rfl, h3_6_0⟩⟩
 | node n l r =>
  obtain ⟨ihl, ihr⟩ := ih n l r rfl
  clear ih
  have hnb : n < 18446744073709551616 := (half_lt ht).2.2
  obtain ⟨kl, kr, hk, hl, hr⟩ := h
  refine enter_rule 113 [(0, .slice a L.length c), (1, pB k)] Try.func21 rfl (by kernel_rfl) ?_
  intro w s
  refine seqR ?_
  refine ops_rule (C := []) [] [] 1 [] 0 (fun φ1 => [(4, .slice none 0 0)]) (fun φ1 => []) (fun φ1 => []) s trivial (fun φ1 => by kernel_rfl) ?_
  intro φ1 w1 s
  refine ops_done (by kernel_rfl) ?_
  refine wp_seq ?_
  refine seqR ?_
  refine ops_rule (C := [(k, .cells #[.int .u64 n, pB kl, pB kr] 87)]) [] [] 5 [.c 0] 0 (fun φ2 => [(9, .bool false), (8, pB kl), (7, .pointer (some ⟨k, 1, none⟩)), (6, pB k), (5, pB k)]) (fun φ2 => []) (fun φ2 => [k]) s ⟨hk, trivial⟩ (fun φ2 => by kernel_rfl) ?_
  intro φ2 w2 s
  refine ops_done (by kernel_rfl) ?_
  refine cond_false_rule (b := false) (by kernel_rfl) rfl ?_
  refine wp_skip ?_
  refine seqR ?_
  refine ops_rule (C := []) [] [] 1 [] 0 (fun φ3 => [(17, .slice a L.length c)]) (fun φ3 => []) (fun φ3 => []) s trivial (fun φ3 => by kernel_rfl) ?_
  intro φ3 w3 s
  refine call_rule (some 18) s (refput_c (n := 0) (k := 1) hL (by have h7 := hlen; simp [evB, headB, kindE, pb02, pb12, pb22, pb32, pb01, pb11, putBits_len] at h7; (try simp only [List.length_append, putBits_len, List.length_nil]); omega) (by decide) (by decide)) (by kernel_rfl) ?_
  intro v4 I4 w4 le4 h4 s
  replace hl := Ev.RE.mono le4 hl
  replace hr := Ev.RE.mono le4 hr
  replace hk := le4 _ _ hk
  obtain ⟨a4, c4, rfl, h4_0⟩ := h4
  refine ops_rule (C := []) [] [] 1 [] 0 (fun φ5 => [(0, .slice a4 (List.length (L ++ putBits 0 1)) c4)]) (fun φ5 => []) (fun φ5 => []) s trivial (fun φ5 => by kernel_rfl) ?_
  intro φ5 w5 s
  refine ops_done (by kernel_rfl) ?_
  refine wp_seq ?_
  refine seqR ?_
  refine ops_rule (C := [(k, .cells #[.int .u64 n, pB kl, pB kr] 87)]) [] [] 5 [.c 0] 0 (fun φ6 => [(23, .bool (((n : Nat) : Int) == ((0 : Nat) : Int))), (22, .int .u64 n), (21, pB k), (20, pB k), (19, pB k)]) (fun φ6 => []) (fun φ6 => [k]) s ⟨hk, trivial⟩ (fun φ6 => by kernel_rfl) ?_
  intro φ6 w6 s
  rw [nat_eql (a := n) (b := 0)]
  refine ops_done (by kernel_rfl) ?_
  rcases Bool.eq_false_or_eq_true (decide (n = 0)) with hc7 | hc7
  ·
   rw [hc7]
   refine cond_true_rule (b := true) (by kernel_rfl) rfl ?_
   refine wp_seq ?_
   refine seqR ?_
   refine ops_rule (C := [(k, .cells #[.int .u64 n, pB kl, pB kr] 87)]) [] [] 4 [.c 0] 0 (fun φ8 => [(27, pB kl), (26, .pointer (some ⟨k, 1, none⟩)), (25, pB k), (24, pB k)]) (fun φ8 => []) (fun φ8 => [k]) s ⟨hk, trivial⟩ (fun φ8 => by kernel_rfl) ?_
   intro φ8 w8 s
   refine call_rule (some 28) s (refZero_c hl hn.1) (by kernel_rfl) ?_
   intro v9 I9 w9 le9 h9 s
   replace hl := Ev.RE.mono le9 hl
   replace hr := Ev.RE.mono le9 hr
   replace h4_0 := BoS.mono le9 h4_0
   replace hk := le9 _ _ hk
   obtain rfl := h9
   refine ops_done (by kernel_rfl) ?_
   rcases Bool.eq_false_or_eq_true (decide (l.top = 0)) with hc10 | hc10
   ·
    rw [hc10]
    refine cond_true_rule (b := true) (by kernel_rfl) rfl ?_
    refine wp_seq ?_
    refine draw_rule (C := [(k, .cells #[.int .u64 n, pB kl, pB kr] 87)]) ⟨(fun φ11 xs11 => [.look 0 [] [], .call 43 #[.slice a4 (List.length (L ++ putBits 0 1)) c4, .int .u64 0, .int .i64 2], .look 0 [] [], .look 0 [] [], .look 0 [] [], .look 0 [.c 0] [k], .call 21 #[.slice ((xs11 1).p 0) (List.length (L ++ putBits 0 1 ++ putBits 0 2)) ((xs11 1).n 0), pB kr], .look 0 [] []]), (fun φ11 xs11 => [.slice a4 (List.length (L ++ putBits 0 1)) c4, .slice ((xs11 1).p 0) (List.length (L ++ putBits 0 1 ++ putBits 0 2)) ((xs11 1).n 0), pB k, pB k, .pointer (some ⟨k, 2, none⟩), pB kr, .slice ((xs11 6).p 0) (List.length (L ++ putBits 0 1 ++ putBits 0 2 ++ evB r)) ((xs11 6).n 0), .slice ((xs11 6).p 0) (List.length (L ++ putBits 0 1 ++ putBits 0 2 ++ evB r)) ((xs11 6).n 0)]), (fun φ11 xs11 => [[]]), (fun φ11 xs11 => [[default, default, default, default, default, default, default, default]]), [], [1, 3, 1, 1, 1, 1, 3, 1]⟩ (fun j => ([MP.any, ⟨fun x J => BoS J (L ++ putBits 0 1 ++ putBits 0 2) (.slice (x.p 0) (List.length (L ++ putBits 0 1 ++ putBits 0 2)) (x.n 0)), fun le h => BoS.mono le h⟩, MP.any, MP.any, MP.any, MP.any, ⟨fun x J => BoS J (L ++ putBits 0 1 ++ putBits 0 2 ++ evB r) (.slice (x.p 0) (List.length (L ++ putBits 0 1 ++ putBits 0 2 ++ evB r)) (x.n 0)), fun le h => BoS.mono le h⟩] : List MP).getD j MP.any) [1, 6] [] [] (fun φ11 xs11 => []) (fun φ11 xs11 => [(29, .slice a4 (List.length (L ++ putBits 0 1)) c4), (30, .slice ((xs11 1).p 0) (List.length (L ++ putBits 0 1 ++ putBits 0 2)) ((xs11 1).n 0)), (31, pB k), (32, pB k), (33, .pointer (some ⟨k, 2, none⟩)), (34, pB kr), (35, .slice ((xs11 6).p 0) (List.length (L ++ putBits 0 1 ++ putBits 0 2 ++ evB r)) ((xs11 6).n 0)), (4, .slice ((xs11 6).p 0) (List.length (L ++ putBits 0 1 ++ putBits 0 2 ++ evB r)) ((xs11 6).n 0))]) (fun φ11 xs11 => []) s ⟨hk, trivial⟩ (by kernel_rfl) (by kernel_rfl) (fun _ _ => by kernel_rfl) (fun _ _ => by kernel_rfl) ⟨fun _ _ => by kernel_rfl, fun _ _ => by kernel_rfl, fun _ _ => by kernel_rfl, fun _ _ => by kernel_rfl⟩ (fun _ _ _ => by kernel_rfl) (fun _ _ => by kernel_rfl) (fun _ _ => by kernel_rfl) (fun _ _ => by kernel_rfl) (fun _ _ => by kernel_rfl) (fun _ _ => by kernel_rfl) trivial trivial (by kernel_rfl) ⟨?c11_1, ?c11_6, trivial⟩ ?k11
    case c11_1 =>
     refine kcast (A := ∀ (φ11 : Nat → Nat) (xs11 : Xs) (J1_11 : IM), I9.Le J1_11 → Fun Try.prog 43 #[.slice a4 (List.length (L ++ putBits 0 1)) c4, .int .u64 0, .int .i64 2] J1_11 (fun v J' => ∃ x : UX, v = .slice (x.p 0) (List.length (L ++ putBits 0 1 ++ putBits 0 2)) (x.n 0) ∧ (BoS J' (L ++ putBits 0 1 ++ putBits 0 2) (.slice (x.p 0) (List.length (L ++ putBits 0 1 ++ putBits 0 2)) (x.n 0))))) (by kernel_rfl) ?_
     intro φ11 xs11 J1_11 leJ
     have h4_0 := BoS.mono leJ h4_0
     exact Fun.mono (refput_c (n := 0) (k := 2) h4_0 (by have h7 := hlen; simp [evB, headB, kindE, pb02, pb12, pb22, pb32, pb01, pb11, putBits_len, of_decide_eq_true hc7, of_decide_eq_true hc10] at h7; (try simp only [List.length_append, putBits_len, List.length_nil]); omega) (by decide) (by decide)) (fun v J' _ ⟨y0, y1, hv, g0⟩ => ⟨{ UX.d with p := fun j => y0, n := fun j => y1 }, hv, g0⟩)
    case c11_6 =>
     refine kcast (A := ∀ (φ11 : Nat → Nat) (xs11 : Xs) (J6_11 : IM), I9.Le J6_11 → (BoS J6_11 (L ++ putBits 0 1 ++ putBits 0 2) (.slice ((xs11 1).p 0) (List.length (L ++ putBits 0 1 ++ putBits 0 2)) ((xs11 1).n 0))) → Fun Try.prog 21 #[.slice ((xs11 1).p 0) (List.length (L ++ putBits 0 1 ++ putBits 0 2)) ((xs11 1).n 0), pB kr] J6_11 (fun v J' => ∃ x : UX, v = .slice (x.p 0) (List.length (L ++ putBits 0 1 ++ putBits 0 2 ++ evB r)) (x.n 0) ∧ (BoS J' (L ++ putBits 0 1 ++ putBits 0 2 ++ evB r) (.slice (x.p 0) (List.length (L ++ putBits 0 1 ++ putBits 0 2 ++ evB r)) (x.n 0))))) (by kernel_rfl) ?_
     intro φ11 xs11 J6_11 leJ
     rintro h11_1_0
     have hr := Ev.RE.mono leJ hr
     exact Fun.mono (ihr hr h11_1_0 (by have h7 := hlen; simp [evB, headB, kindE, pb02, pb12, pb22, pb32, pb01, pb11, putBits_len, of_decide_eq_true hc7, of_decide_eq_true hc10] at h7; (try simp only [List.length_append, putBits_len, List.length_nil]); omega)) (fun v J' _ ⟨y0, y1, hv, g0⟩ => ⟨{ UX.d with p := fun j => y0, n := fun j => y1 }, hv, g0⟩)
    case k11 =>
     rintro φ11 xs11 I11 w11 le11 s h11_1_0 h11_6_0
     replace hl := Ev.RE.mono le11 hl
     replace hr := Ev.RE.mono le11 hr
     replace h4_0 := BoS.mono le11 h4_0
     replace hk := le11 _ _ hk
     refine wp_ret ?_
     refine ret_rule (C := []) [] [] (.slice ((xs11 6).p 0) (List.length (L ++ putBits 0 1 ++ putBits 0 2 ++ evB r)) ((xs11 6).n 0)) [] [] s trivial (by kernel_rfl) ?_
     have e9 : L ++ putBits 0 1 ++ putBits 0 2 ++ evB r = L ++ evB (Ev.E.node n l r) := by simp [evB, headB, kindE, pb02, pb12, pb22, pb32, pb01, pb11, of_decide_eq_true hc7, of_decide_eq_true hc10]
     rw [e9] at h11_6_0 ⊢
     exact ⟨_, _, _, rfl, s, ⟨_, _, rfl, h11_6_0⟩⟩
   ·
    rw [hc10]
    refine cond_false_rule (b := false) (by kernel_rfl) rfl ?_
    refine wp_skip ?_
    refine wp_seq ?_
    refine seqR ?_
    refine ops_rule (C := [(k, .cells #[.int .u64 n, pB kl, pB kr] 87)]) [] [] 4 [.c 0] 0 (fun φ12 => [(39, pB kr), (38, .pointer (some ⟨k, 2, none⟩)), (37, pB k), (36, pB k)]) (fun φ12 => []) (fun φ12 => [k]) s ⟨hk, trivial⟩ (fun φ12 => by kernel_rfl) ?_
    intro φ12 w12 s
    refine call_rule (some 40) s (refZero_c hr hn.2.1) (by kernel_rfl) ?_
    intro v13 I13 w13 le13 h13 s
    replace hl := Ev.RE.mono le13 hl
    replace hr := Ev.RE.mono le13 hr
    replace h4_0 := BoS.mono le13 h4_0
    replace hk := le13 _ _ hk
    obtain rfl := h13
    refine ops_done (by kernel_rfl) ?_
    rcases Bool.eq_false_or_eq_true (decide (r.top = 0)) with hc14 | hc14
    ·
     rw [hc14]
     refine cond_true_rule (b := true) (by kernel_rfl) rfl ?_
     refine wp_seq ?_
     refine draw_rule (C := [(k, .cells #[.int .u64 n, pB kl, pB kr] 87)]) ⟨(fun φ15 xs15 => [.look 0 [] [], .call 43 #[.slice a4 (List.length (L ++ putBits 0 1)) c4, .int .u64 1, .int .i64 2], .look 0 [] [], .look 0 [] [], .look 0 [] [], .look 0 [.c 0] [k], .call 21 #[.slice ((xs15 1).p 0) (List.length (L ++ putBits 0 1 ++ putBits 1 2)) ((xs15 1).n 0), pB kl], .look 0 [] []]), (fun φ15 xs15 => [.slice a4 (List.length (L ++ putBits 0 1)) c4, .slice ((xs15 1).p 0) (List.length (L ++ putBits 0 1 ++ putBits 1 2)) ((xs15 1).n 0), pB k, pB k, .pointer (some ⟨k, 1, none⟩), pB kl, .slice ((xs15 6).p 0) (List.length (L ++ putBits 0 1 ++ putBits 1 2 ++ evB l)) ((xs15 6).n 0), .slice ((xs15 6).p 0) (List.length (L ++ putBits 0 1 ++ putBits 1 2 ++ evB l)) ((xs15 6).n 0)]), (fun φ15 xs15 => [[]]), (fun φ15 xs15 => [[default, default, default, default, default, default, default, default]]), [], [1, 3, 1, 1, 1, 1, 3, 1]⟩ (fun j => ([MP.any, ⟨fun x J => BoS J (L ++ putBits 0 1 ++ putBits 1 2) (.slice (x.p 0) (List.length (L ++ putBits 0 1 ++ putBits 1 2)) (x.n 0)), fun le h => BoS.mono le h⟩, MP.any, MP.any, MP.any, MP.any, ⟨fun x J => BoS J (L ++ putBits 0 1 ++ putBits 1 2 ++ evB l) (.slice (x.p 0) (List.length (L ++ putBits 0 1 ++ putBits 1 2 ++ evB l)) (x.n 0)), fun le h => BoS.mono le h⟩] : List MP).getD j MP.any) [1, 6] [] [] (fun φ15 xs15 => []) (fun φ15 xs15 => [(41, .slice a4 (List.length (L ++ putBits 0 1)) c4), (42, .slice ((xs15 1).p 0) (List.length (L ++ putBits 0 1 ++ putBits 1 2)) ((xs15 1).n 0)), (43, pB k), (44, pB k), (45, .pointer (some ⟨k, 1, none⟩)), (46, pB kl), (47, .slice ((xs15 6).p 0) (List.length (L ++ putBits 0 1 ++ putBits 1 2 ++ evB l)) ((xs15 6).n 0)), (4, .slice ((xs15 6).p 0) (List.length (L ++ putBits 0 1 ++ putBits 1 2 ++ evB l)) ((xs15 6).n 0))]) (fun φ15 xs15 => []) s ⟨hk, trivial⟩ (by kernel_rfl) (by kernel_rfl) (fun _ _ => by kernel_rfl) (fun _ _ => by kernel_rfl) ⟨fun _ _ => by kernel_rfl, fun _ _ => by kernel_rfl, fun _ _ => by kernel_rfl, fun _ _ => by kernel_rfl⟩ (fun _ _ _ => by kernel_rfl) (fun _ _ => by kernel_rfl) (fun _ _ => by kernel_rfl) (fun _ _ => by kernel_rfl) (fun _ _ => by kernel_rfl) (fun _ _ => by kernel_rfl) trivial trivial (by kernel_rfl) ⟨?c15_1, ?c15_6, trivial⟩ ?k15
     case c15_1 =>
      refine kcast (A := ∀ (φ15 : Nat → Nat) (xs15 : Xs) (J1_15 : IM), I13.Le J1_15 → Fun Try.prog 43 #[.slice a4 (List.length (L ++ putBits 0 1)) c4, .int .u64 1, .int .i64 2] J1_15 (fun v J' => ∃ x : UX, v = .slice (x.p 0) (List.length (L ++ putBits 0 1 ++ putBits 1 2)) (x.n 0) ∧ (BoS J' (L ++ putBits 0 1 ++ putBits 1 2) (.slice (x.p 0) (List.length (L ++ putBits 0 1 ++ putBits 1 2)) (x.n 0))))) (by kernel_rfl) ?_
      intro φ15 xs15 J1_15 leJ
      have h4_0 := BoS.mono leJ h4_0
      exact Fun.mono (refput_c (n := 1) (k := 2) h4_0 (by have h7 := hlen; simp [evB, headB, kindE, pb02, pb12, pb22, pb32, pb01, pb11, putBits_len, of_decide_eq_true hc7, of_decide_eq_false hc10, of_decide_eq_true hc14] at h7; (try simp only [List.length_append, putBits_len, List.length_nil]); omega) (by decide) (by decide)) (fun v J' _ ⟨y0, y1, hv, g0⟩ => ⟨{ UX.d with p := fun j => y0, n := fun j => y1 }, hv, g0⟩)
     case c15_6 =>
      refine kcast (A := ∀ (φ15 : Nat → Nat) (xs15 : Xs) (J6_15 : IM), I13.Le J6_15 → (BoS J6_15 (L ++ putBits 0 1 ++ putBits 1 2) (.slice ((xs15 1).p 0) (List.length (L ++ putBits 0 1 ++ putBits 1 2)) ((xs15 1).n 0))) → Fun Try.prog 21 #[.slice ((xs15 1).p 0) (List.length (L ++ putBits 0 1 ++ putBits 1 2)) ((xs15 1).n 0), pB kl] J6_15 (fun v J' => ∃ x : UX, v = .slice (x.p 0) (List.length (L ++ putBits 0 1 ++ putBits 1 2 ++ evB l)) (x.n 0) ∧ (BoS J' (L ++ putBits 0 1 ++ putBits 1 2 ++ evB l) (.slice (x.p 0) (List.length (L ++ putBits 0 1 ++ putBits 1 2 ++ evB l)) (x.n 0))))) (by kernel_rfl) ?_
      intro φ15 xs15 J6_15 leJ
      rintro h15_1_0
      have hl := Ev.RE.mono leJ hl
      exact Fun.mono (ihl hl h15_1_0 (by have h7 := hlen; simp [evB, headB, kindE, pb02, pb12, pb22, pb32, pb01, pb11, putBits_len, of_decide_eq_true hc7, of_decide_eq_false hc10, of_decide_eq_true hc14] at h7; (try simp only [List.length_append, putBits_len, List.length_nil]); omega)) (fun v J' _ ⟨y0, y1, hv, g0⟩ => ⟨{ UX.d with p := fun j => y0, n := fun j => y1 }, hv, g0⟩)
     case k15 =>
      rintro φ15 xs15 I15 w15 le15 s h15_1_0 h15_6_0
      replace hl := Ev.RE.mono le15 hl
      replace hr := Ev.RE.mono le15 hr
      replace h4_0 := BoS.mono le15 h4_0
      replace hk := le15 _ _ hk
      refine wp_ret ?_
      refine ret_rule (C := []) [] [] (.slice ((xs15 6).p 0) (List.length (L ++ putBits 0 1 ++ putBits 1 2 ++ evB l)) ((xs15 6).n 0)) [] [] s trivial (by kernel_rfl) ?_
      have e9 : L ++ putBits 0 1 ++ putBits 1 2 ++ evB l = L ++ evB (Ev.E.node n l r) := by simp [evB, headB, kindE, pb02, pb12, pb22, pb32, pb01, pb11, of_decide_eq_true hc7, of_decide_eq_false hc10, of_decide_eq_true hc14]
      rw [e9] at h15_6_0 ⊢
      exact ⟨_, _, _, rfl, s, ⟨_, _, rfl, h15_6_0⟩⟩
    ·
     rw [hc14]
     refine cond_false_rule (b := false) (by kernel_rfl) rfl ?_
     refine wp_skip ?_
     refine wp_seq ?_
     refine draw_rule (C := [(k, .cells #[.int .u64 n, pB kl, pB kr] 87)]) ⟨(fun φ16 xs16 => [.look 0 [] [], .call 43 #[.slice a4 (List.length (L ++ putBits 0 1)) c4, .int .u64 2, .int .i64 2], .look 0 [] [], .look 0 [] [], .look 0 [] [], .look 0 [.c 0] [k], .call 21 #[.slice ((xs16 1).p 0) (List.length (L ++ putBits 0 1 ++ putBits 2 2)) ((xs16 1).n 0), pB kl], .look 0 [] [], .look 0 [] [], .look 0 [] [], .look 0 [.c 0] [k], .call 21 #[.slice ((xs16 6).p 0) (List.length (L ++ putBits 0 1 ++ putBits 2 2 ++ evB l)) ((xs16 6).n 0), pB kr], .look 0 [] []]), (fun φ16 xs16 => [.slice a4 (List.length (L ++ putBits 0 1)) c4, .slice ((xs16 1).p 0) (List.length (L ++ putBits 0 1 ++ putBits 2 2)) ((xs16 1).n 0), pB k, pB k, .pointer (some ⟨k, 1, none⟩), pB kl, .slice ((xs16 6).p 0) (List.length (L ++ putBits 0 1 ++ putBits 2 2 ++ evB l)) ((xs16 6).n 0), pB k, pB k, .pointer (some ⟨k, 2, none⟩), pB kr, .slice ((xs16 11).p 0) (List.length (L ++ putBits 0 1 ++ putBits 2 2 ++ evB l ++ evB r)) ((xs16 11).n 0), .slice ((xs16 11).p 0) (List.length (L ++ putBits 0 1 ++ putBits 2 2 ++ evB l ++ evB r)) ((xs16 11).n 0)]), (fun φ16 xs16 => [[]]), (fun φ16 xs16 => [[default, default, default, default, default, default, default, default, default, default, default, default, default]]), [], [1, 3, 1, 1, 1, 1, 3, 1, 1, 1, 1, 3, 1]⟩ (fun j => ([MP.any, ⟨fun x J => BoS J (L ++ putBits 0 1 ++ putBits 2 2) (.slice (x.p 0) (List.length (L ++ putBits 0 1 ++ putBits 2 2)) (x.n 0)), fun le h => BoS.mono le h⟩, MP.any, MP.any, MP.any, MP.any, ⟨fun x J => BoS J (L ++ putBits 0 1 ++ putBits 2 2 ++ evB l) (.slice (x.p 0) (List.length (L ++ putBits 0 1 ++ putBits 2 2 ++ evB l)) (x.n 0)), fun le h => BoS.mono le h⟩, MP.any, MP.any, MP.any, MP.any, ⟨fun x J => BoS J (L ++ putBits 0 1 ++ putBits 2 2 ++ evB l ++ evB r) (.slice (x.p 0) (List.length (L ++ putBits 0 1 ++ putBits 2 2 ++ evB l ++ evB r)) (x.n 0)), fun le h => BoS.mono le h⟩] : List MP).getD j MP.any) [1, 6, 11] [] [] (fun φ16 xs16 => []) (fun φ16 xs16 => [(48, .slice a4 (List.length (L ++ putBits 0 1)) c4), (49, .slice ((xs16 1).p 0) (List.length (L ++ putBits 0 1 ++ putBits 2 2)) ((xs16 1).n 0)), (50, pB k), (51, pB k), (52, .pointer (some ⟨k, 1, none⟩)), (53, pB kl), (54, .slice ((xs16 6).p 0) (List.length (L ++ putBits 0 1 ++ putBits 2 2 ++ evB l)) ((xs16 6).n 0)), (55, pB k), (56, pB k), (57, .pointer (some ⟨k, 2, none⟩)), (58, pB kr), (59, .slice ((xs16 11).p 0) (List.length (L ++ putBits 0 1 ++ putBits 2 2 ++ evB l ++ evB r)) ((xs16 11).n 0)), (4, .slice ((xs16 11).p 0) (List.length (L ++ putBits 0 1 ++ putBits 2 2 ++ evB l ++ evB r)) ((xs16 11).n 0))]) (fun φ16 xs16 => []) s ⟨hk, trivial⟩ (by kernel_rfl) (by kernel_rfl) (fun _ _ => by kernel_rfl) (fun _ _ => by kernel_rfl) ⟨fun _ _ => by kernel_rfl, fun _ _ => by kernel_rfl, fun _ _ => by kernel_rfl, fun _ _ => by kernel_rfl⟩ (fun _ _ _ => by kernel_rfl) (fun _ _ => by kernel_rfl) (fun _ _ => by kernel_rfl) (fun _ _ => by kernel_rfl) (fun _ _ => by kernel_rfl) (fun _ _ => by kernel_rfl) trivial trivial (by kernel_rfl) ⟨?c16_1, ?c16_6, ?c16_11, trivial⟩ ?k16
     case c16_1 =>
      refine kcast (A := ∀ (φ16 : Nat → Nat) (xs16 : Xs) (J1_16 : IM), I13.Le J1_16 → Fun Try.prog 43 #[.slice a4 (List.length (L ++ putBits 0 1)) c4, .int .u64 2, .int .i64 2] J1_16 (fun v J' => ∃ x : UX, v = .slice (x.p 0) (List.length (L ++ putBits 0 1 ++ putBits 2 2)) (x.n 0) ∧ (BoS J' (L ++ putBits 0 1 ++ putBits 2 2) (.slice (x.p 0) (List.length (L ++ putBits 0 1 ++ putBits 2 2)) (x.n 0))))) (by kernel_rfl) ?_
      intro φ16 xs16 J1_16 leJ
      have h4_0 := BoS.mono leJ h4_0
      exact Fun.mono (refput_c (n := 2) (k := 2) h4_0 (by have h7 := hlen; simp [evB, headB, kindE, pb02, pb12, pb22, pb32, pb01, pb11, putBits_len, of_decide_eq_true hc7, of_decide_eq_false hc10, of_decide_eq_false hc14] at h7; (try simp only [List.length_append, putBits_len, List.length_nil]); omega) (by decide) (by decide)) (fun v J' _ ⟨y0, y1, hv, g0⟩ => ⟨{ UX.d with p := fun j => y0, n := fun j => y1 }, hv, g0⟩)
     case c16_6 =>
      refine kcast (A := ∀ (φ16 : Nat → Nat) (xs16 : Xs) (J6_16 : IM), I13.Le J6_16 → (BoS J6_16 (L ++ putBits 0 1 ++ putBits 2 2) (.slice ((xs16 1).p 0) (List.length (L ++ putBits 0 1 ++ putBits 2 2)) ((xs16 1).n 0))) → Fun Try.prog 21 #[.slice ((xs16 1).p 0) (List.length (L ++ putBits 0 1 ++ putBits 2 2)) ((xs16 1).n 0), pB kl] J6_16 (fun v J' => ∃ x : UX, v = .slice (x.p 0) (List.length (L ++ putBits 0 1 ++ putBits 2 2 ++ evB l)) (x.n 0) ∧ (BoS J' (L ++ putBits 0 1 ++ putBits 2 2 ++ evB l) (.slice (x.p 0) (List.length (L ++ putBits 0 1 ++ putBits 2 2 ++ evB l)) (x.n 0))))) (by kernel_rfl) ?_
      intro φ16 xs16 J6_16 leJ
      rintro h16_1_0
      have hl := Ev.RE.mono leJ hl
      exact Fun.mono (ihl hl h16_1_0 (by have h7 := hlen; simp [evB, headB, kindE, pb02, pb12, pb22, pb32, pb01, pb11, putBits_len, of_decide_eq_true hc7, of_decide_eq_false hc10, of_decide_eq_false hc14] at h7; (try simp only [List.length_append, putBits_len, List.length_nil]); omega)) (fun v J' _ ⟨y0, y1, hv, g0⟩ => ⟨{ UX.d with p := fun j => y0, n := fun j => y1 }, hv, g0⟩)
     case c16_11 =>
      refine kcast (A := ∀ (φ16 : Nat → Nat) (xs16 : Xs) (J11_16 : IM), I13.Le J11_16 → (BoS J11_16 (L ++ putBits 0 1 ++ putBits 2 2) (.slice ((xs16 1).p 0) (List.length (L ++ putBits 0 1 ++ putBits 2 2)) ((xs16 1).n 0))) → (BoS J11_16 (L ++ putBits 0 1 ++ putBits 2 2 ++ evB l) (.slice ((xs16 6).p 0) (List.length (L ++ putBits 0 1 ++ putBits 2 2 ++ evB l)) ((xs16 6).n 0))) → Fun Try.prog 21 #[.slice ((xs16 6).p 0) (List.length (L ++ putBits 0 1 ++ putBits 2 2 ++ evB l)) ((xs16 6).n 0), pB kr] J11_16 (fun v J' => ∃ x : UX, v = .slice (x.p 0) (List.length (L ++ putBits 0 1 ++ putBits 2 2 ++ evB l ++ evB r)) (x.n 0) ∧ (BoS J' (L ++ putBits 0 1 ++ putBits 2 2 ++ evB l ++ evB r) (.slice (x.p 0) (List.length (L ++ putBits 0 1 ++ putBits 2 2 ++ evB l ++ evB r)) (x.n 0))))) (by kernel_rfl) ?_
      intro φ16 xs16 J11_16 leJ
      rintro h16_1_0 h16_6_0
      have hr := Ev.RE.mono leJ hr
      exact Fun.mono (ihr hr h16_6_0 (by have h7 := hlen; simp [evB, headB, kindE, pb02, pb12, pb22, pb32, pb01, pb11, putBits_len, of_decide_eq_true hc7, of_decide_eq_false hc10, of_decide_eq_false hc14] at h7; (try simp only [List.length_append, putBits_len, List.length_nil]); omega)) (fun v J' _ ⟨y0, y1, hv, g0⟩ => ⟨{ UX.d with p := fun j => y0, n := fun j => y1 }, hv, g0⟩)
     case k16 =>
      rintro φ16 xs16 I16 w16 le16 s h16_1_0 h16_6_0 h16_11_0
      replace hl := Ev.RE.mono le16 hl
      replace hr := Ev.RE.mono le16 hr
      replace h4_0 := BoS.mono le16 h4_0
      replace hk := le16 _ _ hk
      refine wp_ret ?_
      refine ret_rule (C := []) [] [] (.slice ((xs16 11).p 0) (List.length (L ++ putBits 0 1 ++ putBits 2 2 ++ evB l ++ evB r)) ((xs16 11).n 0)) [] [] s trivial (by kernel_rfl) ?_
      have e9 : L ++ putBits 0 1 ++ putBits 2 2 ++ evB l ++ evB r = L ++ evB (Ev.E.node n l r) := by simp [evB, headB, kindE, pb02, pb12, pb22, pb32, pb01, pb11, of_decide_eq_true hc7, of_decide_eq_false hc10, of_decide_eq_false hc14]
      rw [e9] at h16_11_0 ⊢
      exact ⟨_, _, _, rfl, s, ⟨_, _, rfl, h16_11_0⟩⟩
  ·
   rw [hc7]
   refine cond_false_rule (b := false) (by kernel_rfl) rfl ?_
   refine wp_skip ?_
   refine seqR ?_
   refine ops_rule (C := []) [] [] 1 [] 0 (fun φ17 => [(60, .slice a4 (List.length (L ++ putBits 0 1)) c4)]) (fun φ17 => []) (fun φ17 => []) s trivial (fun φ17 => by kernel_rfl) ?_
   intro φ17 w17 s
   refine call_rule (some 61) s (refput_c (n := 3) (k := 2) h4_0 (by have h7 := hlen; simp [evB, headB, kindE, pb02, pb12, pb22, pb32, pb01, pb11, putBits_len, of_decide_eq_false hc7] at h7; (try simp only [List.length_append, putBits_len, List.length_nil]); omega) (by decide) (by decide)) (by kernel_rfl) ?_
   intro v18 I18 w18 le18 h18 s
   replace hl := Ev.RE.mono le18 hl
   replace hr := Ev.RE.mono le18 hr
   replace hk := le18 _ _ hk
   obtain ⟨a18, c18, rfl, h18_0⟩ := h18
   refine ops_rule (C := []) [] [] 1 [] 0 (fun φ19 => [(0, .slice a18 (List.length (L ++ putBits 0 1 ++ putBits 3 2)) c18)]) (fun φ19 => []) (fun φ19 => []) s trivial (fun φ19 => by kernel_rfl) ?_
   intro φ19 w19 s
   refine ops_done (by kernel_rfl) ?_
   refine wp_seq ?_
   refine seqR ?_
   refine ops_rule (C := [(k, .cells #[.int .u64 n, pB kl, pB kr] 87)]) [] [] 4 [.c 0] 0 (fun φ20 => [(65, pB kl), (64, .pointer (some ⟨k, 1, none⟩)), (63, pB k), (62, pB k)]) (fun φ20 => []) (fun φ20 => [k]) s ⟨hk, trivial⟩ (fun φ20 => by kernel_rfl) ?_
   intro φ20 w20 s
   refine call_rule (some 66) s (refZero_c hl hn.1) (by kernel_rfl) ?_
   intro v21 I21 w21 le21 h21 s
   replace hl := Ev.RE.mono le21 hl
   replace hr := Ev.RE.mono le21 hr
   replace h18_0 := BoS.mono le21 h18_0
   replace hk := le21 _ _ hk
   obtain rfl := h21
   refine ops_done (by kernel_rfl) ?_
   rcases Bool.eq_false_or_eq_true (decide (l.top = 0)) with hc22 | hc22
   ·
    rw [hc22]
    refine cond_true_rule (b := true) (by kernel_rfl) rfl ?_
    refine wp_seq ?_
    refine draw_rule (C := [(k, .cells #[.int .u64 n, pB kl, pB kr] 87)]) ⟨(fun φ23 xs23 => [.look 0 [] [], .call 43 #[.slice a18 (List.length (L ++ putBits 0 1 ++ putBits 3 2)) c18, .int .u64 0, .int .i64 2], .look 0 [] [], .look 0 [] [], .look 0 [] [], .look 0 [.c 0] [k], .call 44 #[.slice ((xs23 1).p 0) (List.length (L ++ putBits 0 1 ++ putBits 3 2 ++ putBits 0 2)) ((xs23 1).n 0), .int .u64 n], .look 0 [] [], .look 0 [] [], .look 0 [] [], .look 0 [.c 0] [k], .call 21 #[.slice ((xs23 6).p 0) (List.length (L ++ putBits 0 1 ++ putBits 3 2 ++ putBits 0 2 ++ numW 62 2 n)) ((xs23 6).n 0), pB kr], .look 0 [] []]), (fun φ23 xs23 => [.slice a18 (List.length (L ++ putBits 0 1 ++ putBits 3 2)) c18, .slice ((xs23 1).p 0) (List.length (L ++ putBits 0 1 ++ putBits 3 2 ++ putBits 0 2)) ((xs23 1).n 0), pB k, pB k, pB k, .int .u64 n, .slice ((xs23 6).p 0) (List.length (L ++ putBits 0 1 ++ putBits 3 2 ++ putBits 0 2 ++ numW 62 2 n)) ((xs23 6).n 0), pB k, pB k, .pointer (some ⟨k, 2, none⟩), pB kr, .slice ((xs23 11).p 0) (List.length (L ++ putBits 0 1 ++ putBits 3 2 ++ putBits 0 2 ++ numW 62 2 n ++ evB r)) ((xs23 11).n 0), .slice ((xs23 11).p 0) (List.length (L ++ putBits 0 1 ++ putBits 3 2 ++ putBits 0 2 ++ numW 62 2 n ++ evB r)) ((xs23 11).n 0)]), (fun φ23 xs23 => [[]]), (fun φ23 xs23 => [[default, default, default, default, default, default, default, default, default, default, default, default, default]]), [], [1, 3, 1, 1, 1, 1, 3, 1, 1, 1, 1, 3, 1]⟩ (fun j => ([MP.any, ⟨fun x J => BoS J (L ++ putBits 0 1 ++ putBits 3 2 ++ putBits 0 2) (.slice (x.p 0) (List.length (L ++ putBits 0 1 ++ putBits 3 2 ++ putBits 0 2)) (x.n 0)), fun le h => BoS.mono le h⟩, MP.any, MP.any, MP.any, MP.any, ⟨fun x J => BoS J (L ++ putBits 0 1 ++ putBits 3 2 ++ putBits 0 2 ++ numW 62 2 n) (.slice (x.p 0) (List.length (L ++ putBits 0 1 ++ putBits 3 2 ++ putBits 0 2 ++ numW 62 2 n)) (x.n 0)), fun le h => BoS.mono le h⟩, MP.any, MP.any, MP.any, MP.any, ⟨fun x J => BoS J (L ++ putBits 0 1 ++ putBits 3 2 ++ putBits 0 2 ++ numW 62 2 n ++ evB r) (.slice (x.p 0) (List.length (L ++ putBits 0 1 ++ putBits 3 2 ++ putBits 0 2 ++ numW 62 2 n ++ evB r)) (x.n 0)), fun le h => BoS.mono le h⟩] : List MP).getD j MP.any) [1, 6, 11] [] [] (fun φ23 xs23 => []) (fun φ23 xs23 => [(67, .slice a18 (List.length (L ++ putBits 0 1 ++ putBits 3 2)) c18), (68, .slice ((xs23 1).p 0) (List.length (L ++ putBits 0 1 ++ putBits 3 2 ++ putBits 0 2)) ((xs23 1).n 0)), (69, pB k), (70, pB k), (71, pB k), (72, .int .u64 n), (73, .slice ((xs23 6).p 0) (List.length (L ++ putBits 0 1 ++ putBits 3 2 ++ putBits 0 2 ++ numW 62 2 n)) ((xs23 6).n 0)), (74, pB k), (75, pB k), (76, .pointer (some ⟨k, 2, none⟩)), (77, pB kr), (78, .slice ((xs23 11).p 0) (List.length (L ++ putBits 0 1 ++ putBits 3 2 ++ putBits 0 2 ++ numW 62 2 n ++ evB r)) ((xs23 11).n 0)), (4, .slice ((xs23 11).p 0) (List.length (L ++ putBits 0 1 ++ putBits 3 2 ++ putBits 0 2 ++ numW 62 2 n ++ evB r)) ((xs23 11).n 0))]) (fun φ23 xs23 => []) s ⟨hk, trivial⟩ (by kernel_rfl) (by kernel_rfl) (fun _ _ => by kernel_rfl) (fun _ _ => by kernel_rfl) ⟨fun _ _ => by kernel_rfl, fun _ _ => by kernel_rfl, fun _ _ => by kernel_rfl, fun _ _ => by kernel_rfl⟩ (fun _ _ _ => by kernel_rfl) (fun _ _ => by kernel_rfl) (fun _ _ => by kernel_rfl) (fun _ _ => by kernel_rfl) (fun _ _ => by kernel_rfl) (fun _ _ => by kernel_rfl) trivial trivial (by kernel_rfl) ⟨?c23_1, ?c23_6, ?c23_11, trivial⟩ ?k23
    case c23_1 =>
     refine kcast (A := ∀ (φ23 : Nat → Nat) (xs23 : Xs) (J1_23 : IM), I21.Le J1_23 → Fun Try.prog 43 #[.slice a18 (List.length (L ++ putBits 0 1 ++ putBits 3 2)) c18, .int .u64 0, .int .i64 2] J1_23 (fun v J' => ∃ x : UX, v = .slice (x.p 0) (List.length (L ++ putBits 0 1 ++ putBits 3 2 ++ putBits 0 2)) (x.n 0) ∧ (BoS J' (L ++ putBits 0 1 ++ putBits 3 2 ++ putBits 0 2) (.slice (x.p 0) (List.length (L ++ putBits 0 1 ++ putBits 3 2 ++ putBits 0 2)) (x.n 0))))) (by kernel_rfl) ?_
     intro φ23 xs23 J1_23 leJ
     have h18_0 := BoS.mono leJ h18_0
     exact Fun.mono (refput_c (n := 0) (k := 2) h18_0 (by have h7 := hlen; simp [evB, headB, kindE, pb02, pb12, pb22, pb32, pb01, pb11, putBits_len, of_decide_eq_false hc7, of_decide_eq_true hc22] at h7; (try simp only [List.length_append, putBits_len, List.length_nil]); omega) (by decide) (by decide)) (fun v J' _ ⟨y0, y1, hv, g0⟩ => ⟨{ UX.d with p := fun j => y0, n := fun j => y1 }, hv, g0⟩)
    case c23_6 =>
     refine kcast (A := ∀ (φ23 : Nat → Nat) (xs23 : Xs) (J6_23 : IM), I21.Le J6_23 → (BoS J6_23 (L ++ putBits 0 1 ++ putBits 3 2 ++ putBits 0 2) (.slice ((xs23 1).p 0) (List.length (L ++ putBits 0 1 ++ putBits 3 2 ++ putBits 0 2)) ((xs23 1).n 0))) → Fun Try.prog 44 #[.slice ((xs23 1).p 0) (List.length (L ++ putBits 0 1 ++ putBits 3 2 ++ putBits 0 2)) ((xs23 1).n 0), .int .u64 n] J6_23 (fun v J' => ∃ x : UX, v = .slice (x.p 0) (List.length (L ++ putBits 0 1 ++ putBits 3 2 ++ putBits 0 2 ++ numW 62 2 n)) (x.n 0) ∧ (BoS J' (L ++ putBits 0 1 ++ putBits 3 2 ++ putBits 0 2 ++ numW 62 2 n) (.slice (x.p 0) (List.length (L ++ putBits 0 1 ++ putBits 3 2 ++ putBits 0 2 ++ numW 62 2 n)) (x.n 0))))) (by kernel_rfl) ?_
     intro φ23 xs23 J6_23 leJ
     rintro h23_1_0
     exact Fun.mono (refnum_c (n := n) h23_1_0 (by have h7 := hlen; simp [evB, headB, kindE, pb02, pb12, pb22, pb32, pb01, pb11, putBits_len, of_decide_eq_false hc7, of_decide_eq_true hc22] at h7; (try simp only [List.length_append, putBits_len, List.length_nil]); omega) (hnb)) (fun v J' _ ⟨y0, y1, hv, g0⟩ => ⟨{ UX.d with p := fun j => y0, n := fun j => y1 }, hv, g0⟩)
    case c23_11 =>
     refine kcast (A := ∀ (φ23 : Nat → Nat) (xs23 : Xs) (J11_23 : IM), I21.Le J11_23 → (BoS J11_23 (L ++ putBits 0 1 ++ putBits 3 2 ++ putBits 0 2) (.slice ((xs23 1).p 0) (List.length (L ++ putBits 0 1 ++ putBits 3 2 ++ putBits 0 2)) ((xs23 1).n 0))) → (BoS J11_23 (L ++ putBits 0 1 ++ putBits 3 2 ++ putBits 0 2 ++ numW 62 2 n) (.slice ((xs23 6).p 0) (List.length (L ++ putBits 0 1 ++ putBits 3 2 ++ putBits 0 2 ++ numW 62 2 n)) ((xs23 6).n 0))) → Fun Try.prog 21 #[.slice ((xs23 6).p 0) (List.length (L ++ putBits 0 1 ++ putBits 3 2 ++ putBits 0 2 ++ numW 62 2 n)) ((xs23 6).n 0), pB kr] J11_23 (fun v J' => ∃ x : UX, v = .slice (x.p 0) (List.length (L ++ putBits 0 1 ++ putBits 3 2 ++ putBits 0 2 ++ numW 62 2 n ++ evB r)) (x.n 0) ∧ (BoS J' (L ++ putBits 0 1 ++ putBits 3 2 ++ putBits 0 2 ++ numW 62 2 n ++ evB r) (.slice (x.p 0) (List.length (L ++ putBits 0 1 ++ putBits 3 2 ++ putBits 0 2 ++ numW 62 2 n ++ evB r)) (x.n 0))))) (by kernel_rfl) ?_
     intro φ23 xs23 J11_23 leJ
     rintro h23_1_0 h23_6_0
     have hr := Ev.RE.mono leJ hr
     exact Fun.mono (ihr hr h23_6_0 (by have h7 := hlen; simp [evB, headB, kindE, pb02, pb12, pb22, pb32, pb01, pb11, putBits_len, of_decide_eq_false hc7, of_decide_eq_true hc22] at h7; (try simp only [List.length_append, putBits_len, List.length_nil]); omega)) (fun v J' _ ⟨y0, y1, hv, g0⟩ => ⟨{ UX.d with p := fun j => y0, n := fun j => y1 }, hv, g0⟩)
    case k23 =>
     rintro φ23 xs23 I23 w23 le23 s h23_1_0 h23_6_0 h23_11_0
     replace hl := Ev.RE.mono le23 hl
     replace hr := Ev.RE.mono le23 hr
     replace h18_0 := BoS.mono le23 h18_0
     replace hk := le23 _ _ hk
     refine wp_ret ?_
     refine ret_rule (C := []) [] [] (.slice ((xs23 11).p 0) (List.length (L ++ putBits 0 1 ++ putBits 3 2 ++ putBits 0 2 ++ numW 62 2 n ++ evB r)) ((xs23 11).n 0)) [] [] s trivial (by kernel_rfl) ?_
     have e9 : L ++ putBits 0 1 ++ putBits 3 2 ++ putBits 0 2 ++ numW 62 2 n ++ evB r = L ++ evB (Ev.E.node n l r) := by simp [evB, headB, kindE, pb02, pb12, pb22, pb32, pb01, pb11, of_decide_eq_false hc7, of_decide_eq_true hc22]
     rw [e9] at h23_11_0 ⊢
     exact ⟨_, _, _, rfl, s, ⟨_, _, rfl, h23_11_0⟩⟩
   ·
    rw [hc22]
    refine cond_false_rule (b := false) (by kernel_rfl) rfl ?_
    refine wp_skip ?_
    refine wp_seq ?_
    refine seqR ?_
    refine ops_rule (C := [(k, .cells #[.int .u64 n, pB kl, pB kr] 87)]) [] [] 4 [.c 0] 0 (fun φ24 => [(82, pB kr), (81, .pointer (some ⟨k, 2, none⟩)), (80, pB k), (79, pB k)]) (fun φ24 => []) (fun φ24 => [k]) s ⟨hk, trivial⟩ (fun φ24 => by kernel_rfl) ?_
    intro φ24 w24 s
    refine call_rule (some 83) s (refZero_c hr hn.2.1) (by kernel_rfl) ?_
    intro v25 I25 w25 le25 h25 s
    replace hl := Ev.RE.mono le25 hl
    replace hr := Ev.RE.mono le25 hr
    replace h18_0 := BoS.mono le25 h18_0
    replace hk := le25 _ _ hk
    obtain rfl := h25
    refine ops_done (by kernel_rfl) ?_
    rcases Bool.eq_false_or_eq_true (decide (r.top = 0)) with hc26 | hc26
    ·
     rw [hc26]
     refine cond_true_rule (b := true) (by kernel_rfl) rfl ?_
     refine wp_seq ?_
     refine draw_rule (C := [(k, .cells #[.int .u64 n, pB kl, pB kr] 87)]) ⟨(fun φ27 xs27 => [.look 0 [] [], .call 43 #[.slice a18 (List.length (L ++ putBits 0 1 ++ putBits 3 2)) c18, .int .u64 1, .int .i64 2], .look 0 [] [], .look 0 [] [], .look 0 [] [], .look 0 [.c 0] [k], .call 44 #[.slice ((xs27 1).p 0) (List.length (L ++ putBits 0 1 ++ putBits 3 2 ++ putBits 1 2)) ((xs27 1).n 0), .int .u64 n], .look 0 [] [], .look 0 [] [], .look 0 [] [], .look 0 [.c 0] [k], .call 21 #[.slice ((xs27 6).p 0) (List.length (L ++ putBits 0 1 ++ putBits 3 2 ++ putBits 1 2 ++ numW 62 2 n)) ((xs27 6).n 0), pB kl], .look 0 [] []]), (fun φ27 xs27 => [.slice a18 (List.length (L ++ putBits 0 1 ++ putBits 3 2)) c18, .slice ((xs27 1).p 0) (List.length (L ++ putBits 0 1 ++ putBits 3 2 ++ putBits 1 2)) ((xs27 1).n 0), pB k, pB k, pB k, .int .u64 n, .slice ((xs27 6).p 0) (List.length (L ++ putBits 0 1 ++ putBits 3 2 ++ putBits 1 2 ++ numW 62 2 n)) ((xs27 6).n 0), pB k, pB k, .pointer (some ⟨k, 1, none⟩), pB kl, .slice ((xs27 11).p 0) (List.length (L ++ putBits 0 1 ++ putBits 3 2 ++ putBits 1 2 ++ numW 62 2 n ++ evB l)) ((xs27 11).n 0), .slice ((xs27 11).p 0) (List.length (L ++ putBits 0 1 ++ putBits 3 2 ++ putBits 1 2 ++ numW 62 2 n ++ evB l)) ((xs27 11).n 0)]), (fun φ27 xs27 => [[]]), (fun φ27 xs27 => [[default, default, default, default, default, default, default, default, default, default, default, default, default]]), [], [1, 3, 1, 1, 1, 1, 3, 1, 1, 1, 1, 3, 1]⟩ (fun j => ([MP.any, ⟨fun x J => BoS J (L ++ putBits 0 1 ++ putBits 3 2 ++ putBits 1 2) (.slice (x.p 0) (List.length (L ++ putBits 0 1 ++ putBits 3 2 ++ putBits 1 2)) (x.n 0)), fun le h => BoS.mono le h⟩, MP.any, MP.any, MP.any, MP.any, ⟨fun x J => BoS J (L ++ putBits 0 1 ++ putBits 3 2 ++ putBits 1 2 ++ numW 62 2 n) (.slice (x.p 0) (List.length (L ++ putBits 0 1 ++ putBits 3 2 ++ putBits 1 2 ++ numW 62 2 n)) (x.n 0)), fun le h => BoS.mono le h⟩, MP.any, MP.any, MP.any, MP.any, ⟨fun x J => BoS J (L ++ putBits 0 1 ++ putBits 3 2 ++ putBits 1 2 ++ numW 62 2 n ++ evB l) (.slice (x.p 0) (List.length (L ++ putBits 0 1 ++ putBits 3 2 ++ putBits 1 2 ++ numW 62 2 n ++ evB l)) (x.n 0)), fun le h => BoS.mono le h⟩] : List MP).getD j MP.any) [1, 6, 11] [] [] (fun φ27 xs27 => []) (fun φ27 xs27 => [(84, .slice a18 (List.length (L ++ putBits 0 1 ++ putBits 3 2)) c18), (85, .slice ((xs27 1).p 0) (List.length (L ++ putBits 0 1 ++ putBits 3 2 ++ putBits 1 2)) ((xs27 1).n 0)), (86, pB k), (87, pB k), (88, pB k), (89, .int .u64 n), (90, .slice ((xs27 6).p 0) (List.length (L ++ putBits 0 1 ++ putBits 3 2 ++ putBits 1 2 ++ numW 62 2 n)) ((xs27 6).n 0)), (91, pB k), (92, pB k), (93, .pointer (some ⟨k, 1, none⟩)), (94, pB kl), (95, .slice ((xs27 11).p 0) (List.length (L ++ putBits 0 1 ++ putBits 3 2 ++ putBits 1 2 ++ numW 62 2 n ++ evB l)) ((xs27 11).n 0)), (4, .slice ((xs27 11).p 0) (List.length (L ++ putBits 0 1 ++ putBits 3 2 ++ putBits 1 2 ++ numW 62 2 n ++ evB l)) ((xs27 11).n 0))]) (fun φ27 xs27 => []) s ⟨hk, trivial⟩ (by kernel_rfl) (by kernel_rfl) (fun _ _ => by kernel_rfl) (fun _ _ => by kernel_rfl) ⟨fun _ _ => by kernel_rfl, fun _ _ => by kernel_rfl, fun _ _ => by kernel_rfl, fun _ _ => by kernel_rfl⟩ (fun _ _ _ => by kernel_rfl) (fun _ _ => by kernel_rfl) (fun _ _ => by kernel_rfl) (fun _ _ => by kernel_rfl) (fun _ _ => by kernel_rfl) (fun _ _ => by kernel_rfl) trivial trivial (by kernel_rfl) ⟨?c27_1, ?c27_6, ?c27_11, trivial⟩ ?k27
     case c27_1 =>
      refine kcast (A := ∀ (φ27 : Nat → Nat) (xs27 : Xs) (J1_27 : IM), I25.Le J1_27 → Fun Try.prog 43 #[.slice a18 (List.length (L ++ putBits 0 1 ++ putBits 3 2)) c18, .int .u64 1, .int .i64 2] J1_27 (fun v J' => ∃ x : UX, v = .slice (x.p 0) (List.length (L ++ putBits 0 1 ++ putBits 3 2 ++ putBits 1 2)) (x.n 0) ∧ (BoS J' (L ++ putBits 0 1 ++ putBits 3 2 ++ putBits 1 2) (.slice (x.p 0) (List.length (L ++ putBits 0 1 ++ putBits 3 2 ++ putBits 1 2)) (x.n 0))))) (by kernel_rfl) ?_
      intro φ27 xs27 J1_27 leJ
      have h18_0 := BoS.mono leJ h18_0
      exact Fun.mono (refput_c (n := 1) (k := 2) h18_0 (by have h7 := hlen; simp [evB, headB, kindE, pb02, pb12, pb22, pb32, pb01, pb11, putBits_len, of_decide_eq_false hc7, of_decide_eq_false hc22, of_decide_eq_true hc26] at h7; (try simp only [List.length_append, putBits_len, List.length_nil]); omega) (by decide) (by decide)) (fun v J' _ ⟨y0, y1, hv, g0⟩ => ⟨{ UX.d with p := fun j => y0, n := fun j => y1 }, hv, g0⟩)
     case c27_6 =>
      refine kcast (A := ∀ (φ27 : Nat → Nat) (xs27 : Xs) (J6_27 : IM), I25.Le J6_27 → (BoS J6_27 (L ++ putBits 0 1 ++ putBits 3 2 ++ putBits 1 2) (.slice ((xs27 1).p 0) (List.length (L ++ putBits 0 1 ++ putBits 3 2 ++ putBits 1 2)) ((xs27 1).n 0))) → Fun Try.prog 44 #[.slice ((xs27 1).p 0) (List.length (L ++ putBits 0 1 ++ putBits 3 2 ++ putBits 1 2)) ((xs27 1).n 0), .int .u64 n] J6_27 (fun v J' => ∃ x : UX, v = .slice (x.p 0) (List.length (L ++ putBits 0 1 ++ putBits 3 2 ++ putBits 1 2 ++ numW 62 2 n)) (x.n 0) ∧ (BoS J' (L ++ putBits 0 1 ++ putBits 3 2 ++ putBits 1 2 ++ numW 62 2 n) (.slice (x.p 0) (List.length (L ++ putBits 0 1 ++ putBits 3 2 ++ putBits 1 2 ++ numW 62 2 n)) (x.n 0))))) (by kernel_rfl) ?_
      intro φ27 xs27 J6_27 leJ
      rintro h27_1_0
      exact Fun.mono (refnum_c (n := n) h27_1_0 (by have h7 := hlen; simp [evB, headB, kindE, pb02, pb12, pb22, pb32, pb01, pb11, putBits_len, of_decide_eq_false hc7, of_decide_eq_false hc22, of_decide_eq_true hc26] at h7; (try simp only [List.length_append, putBits_len, List.length_nil]); omega) (hnb)) (fun v J' _ ⟨y0, y1, hv, g0⟩ => ⟨{ UX.d with p := fun j => y0, n := fun j => y1 }, hv, g0⟩)
     case c27_11 =>
      refine kcast (A := ∀ (φ27 : Nat → Nat) (xs27 : Xs) (J11_27 : IM), I25.Le J11_27 → (BoS J11_27 (L ++ putBits 0 1 ++ putBits 3 2 ++ putBits 1 2) (.slice ((xs27 1).p 0) (List.length (L ++ putBits 0 1 ++ putBits 3 2 ++ putBits 1 2)) ((xs27 1).n 0))) → (BoS J11_27 (L ++ putBits 0 1 ++ putBits 3 2 ++ putBits 1 2 ++ numW 62 2 n) (.slice ((xs27 6).p 0) (List.length (L ++ putBits 0 1 ++ putBits 3 2 ++ putBits 1 2 ++ numW 62 2 n)) ((xs27 6).n 0))) → Fun Try.prog 21 #[.slice ((xs27 6).p 0) (List.length (L ++ putBits 0 1 ++ putBits 3 2 ++ putBits 1 2 ++ numW 62 2 n)) ((xs27 6).n 0), pB kl] J11_27 (fun v J' => ∃ x : UX, v = .slice (x.p 0) (List.length (L ++ putBits 0 1 ++ putBits 3 2 ++ putBits 1 2 ++ numW 62 2 n ++ evB l)) (x.n 0) ∧ (BoS J' (L ++ putBits 0 1 ++ putBits 3 2 ++ putBits 1 2 ++ numW 62 2 n ++ evB l) (.slice (x.p 0) (List.length (L ++ putBits 0 1 ++ putBits 3 2 ++ putBits 1 2 ++ numW 62 2 n ++ evB l)) (x.n 0))))) (by kernel_rfl) ?_
      intro φ27 xs27 J11_27 leJ
      rintro h27_1_0 h27_6_0
      have hl := Ev.RE.mono leJ hl
      exact Fun.mono (ihl hl h27_6_0 (by have h7 := hlen; simp [evB, headB, kindE, pb02, pb12, pb22, pb32, pb01, pb11, putBits_len, of_decide_eq_false hc7, of_decide_eq_false hc22, of_decide_eq_true hc26] at h7; (try simp only [List.length_append, putBits_len, List.length_nil]); omega)) (fun v J' _ ⟨y0, y1, hv, g0⟩ => ⟨{ UX.d with p := fun j => y0, n := fun j => y1 }, hv, g0⟩)
     case k27 =>
      rintro φ27 xs27 I27 w27 le27 s h27_1_0 h27_6_0 h27_11_0
      replace hl := Ev.RE.mono le27 hl
      replace hr := Ev.RE.mono le27 hr
      replace h18_0 := BoS.mono le27 h18_0
      replace hk := le27 _ _ hk
      refine wp_ret ?_
      refine ret_rule (C := []) [] [] (.slice ((xs27 11).p 0) (List.length (L ++ putBits 0 1 ++ putBits 3 2 ++ putBits 1 2 ++ numW 62 2 n ++ evB l)) ((xs27 11).n 0)) [] [] s trivial (by kernel_rfl) ?_
      have e9 : L ++ putBits 0 1 ++ putBits 3 2 ++ putBits 1 2 ++ numW 62 2 n ++ evB l = L ++ evB (Ev.E.node n l r) := by simp [evB, headB, kindE, pb02, pb12, pb22, pb32, pb01, pb11, of_decide_eq_false hc7, of_decide_eq_false hc22, of_decide_eq_true hc26]
      rw [e9] at h27_11_0 ⊢
      exact ⟨_, _, _, rfl, s, ⟨_, _, rfl, h27_11_0⟩⟩
    ·
     rw [hc26]
     refine cond_false_rule (b := false) (by kernel_rfl) rfl ?_
     refine wp_skip ?_
     refine wp_seq ?_
     refine draw_rule (C := [(k, .cells #[.int .u64 n, pB kl, pB kr] 87)]) ⟨(fun φ28 xs28 => [.look 0 [] [], .call 43 #[.slice a18 (List.length (L ++ putBits 0 1 ++ putBits 3 2)) c18, .int .u64 1, .int .i64 1], .look 0 [] [], .look 0 [] [], .look 0 [] [], .look 0 [.c 0] [k], .call 44 #[.slice ((xs28 1).p 0) (List.length (L ++ putBits 0 1 ++ putBits 3 2 ++ putBits 1 1)) ((xs28 1).n 0), .int .u64 n], .look 0 [] [], .look 0 [] [], .look 0 [] [], .look 0 [.c 0] [k], .call 21 #[.slice ((xs28 6).p 0) (List.length (L ++ putBits 0 1 ++ putBits 3 2 ++ putBits 1 1 ++ numW 62 2 n)) ((xs28 6).n 0), pB kl], .look 0 [] [], .look 0 [] [], .look 0 [] [], .look 0 [.c 0] [k], .call 21 #[.slice ((xs28 11).p 0) (List.length (L ++ putBits 0 1 ++ putBits 3 2 ++ putBits 1 1 ++ numW 62 2 n ++ evB l)) ((xs28 11).n 0), pB kr], .look 0 [] []]), (fun φ28 xs28 => [.slice a18 (List.length (L ++ putBits 0 1 ++ putBits 3 2)) c18, .slice ((xs28 1).p 0) (List.length (L ++ putBits 0 1 ++ putBits 3 2 ++ putBits 1 1)) ((xs28 1).n 0), pB k, pB k, pB k, .int .u64 n, .slice ((xs28 6).p 0) (List.length (L ++ putBits 0 1 ++ putBits 3 2 ++ putBits 1 1 ++ numW 62 2 n)) ((xs28 6).n 0), pB k, pB k, .pointer (some ⟨k, 1, none⟩), pB kl, .slice ((xs28 11).p 0) (List.length (L ++ putBits 0 1 ++ putBits 3 2 ++ putBits 1 1 ++ numW 62 2 n ++ evB l)) ((xs28 11).n 0), pB k, pB k, .pointer (some ⟨k, 2, none⟩), pB kr, .slice ((xs28 16).p 0) (List.length (L ++ putBits 0 1 ++ putBits 3 2 ++ putBits 1 1 ++ numW 62 2 n ++ evB l ++ evB r)) ((xs28 16).n 0), .slice ((xs28 16).p 0) (List.length (L ++ putBits 0 1 ++ putBits 3 2 ++ putBits 1 1 ++ numW 62 2 n ++ evB l ++ evB r)) ((xs28 16).n 0)]), (fun φ28 xs28 => [[]]), (fun φ28 xs28 => [[default, default, default, default, default, default, default, default, default, default, default, default, default, default, default, default, default, default]]), [], [1, 3, 1, 1, 1, 1, 3, 1, 1, 1, 1, 3, 1, 1, 1, 1, 3, 1]⟩ (fun j => ([MP.any, ⟨fun x J => BoS J (L ++ putBits 0 1 ++ putBits 3 2 ++ putBits 1 1) (.slice (x.p 0) (List.length (L ++ putBits 0 1 ++ putBits 3 2 ++ putBits 1 1)) (x.n 0)), fun le h => BoS.mono le h⟩, MP.any, MP.any, MP.any, MP.any, ⟨fun x J => BoS J (L ++ putBits 0 1 ++ putBits 3 2 ++ putBits 1 1 ++ numW 62 2 n) (.slice (x.p 0) (List.length (L ++ putBits 0 1 ++ putBits 3 2 ++ putBits 1 1 ++ numW 62 2 n)) (x.n 0)), fun le h => BoS.mono le h⟩, MP.any, MP.any, MP.any, MP.any, ⟨fun x J => BoS J (L ++ putBits 0 1 ++ putBits 3 2 ++ putBits 1 1 ++ numW 62 2 n ++ evB l) (.slice (x.p 0) (List.length (L ++ putBits 0 1 ++ putBits 3 2 ++ putBits 1 1 ++ numW 62 2 n ++ evB l)) (x.n 0)), fun le h => BoS.mono le h⟩, MP.any, MP.any, MP.any, MP.any, ⟨fun x J => BoS J (L ++ putBits 0 1 ++ putBits 3 2 ++ putBits 1 1 ++ numW 62 2 n ++ evB l ++ evB r) (.slice (x.p 0) (List.length (L ++ putBits 0 1 ++ putBits 3 2 ++ putBits 1 1 ++ numW 62 2 n ++ evB l ++ evB r)) (x.n 0)), fun le h => BoS.mono le h⟩] : List MP).getD j MP.any) [1, 6, 11, 16] [] [] (fun φ28 xs28 => []) (fun φ28 xs28 => [(96, .slice a18 (List.length (L ++ putBits 0 1 ++ putBits 3 2)) c18), (97, .slice ((xs28 1).p 0) (List.length (L ++ putBits 0 1 ++ putBits 3 2 ++ putBits 1 1)) ((xs28 1).n 0)), (98, pB k), (99, pB k), (100, pB k), (101, .int .u64 n), (102, .slice ((xs28 6).p 0) (List.length (L ++ putBits 0 1 ++ putBits 3 2 ++ putBits 1 1 ++ numW 62 2 n)) ((xs28 6).n 0)), (103, pB k), (104, pB k), (105, .pointer (some ⟨k, 1, none⟩)), (106, pB kl), (107, .slice ((xs28 11).p 0) (List.length (L ++ putBits 0 1 ++ putBits 3 2 ++ putBits 1 1 ++ numW 62 2 n ++ evB l)) ((xs28 11).n 0)), (108, pB k), (109, pB k), (110, .pointer (some ⟨k, 2, none⟩)), (111, pB kr), (112, .slice ((xs28 16).p 0) (List.length (L ++ putBits 0 1 ++ putBits 3 2 ++ putBits 1 1 ++ numW 62 2 n ++ evB l ++ evB r)) ((xs28 16).n 0)), (4, .slice ((xs28 16).p 0) (List.length (L ++ putBits 0 1 ++ putBits 3 2 ++ putBits 1 1 ++ numW 62 2 n ++ evB l ++ evB r)) ((xs28 16).n 0))]) (fun φ28 xs28 => []) s ⟨hk, trivial⟩ (by kernel_rfl) (by kernel_rfl) (fun _ _ => by kernel_rfl) (fun _ _ => by kernel_rfl) ⟨fun _ _ => by kernel_rfl, fun _ _ => by kernel_rfl, fun _ _ => by kernel_rfl, fun _ _ => by kernel_rfl⟩ (fun _ _ _ => by kernel_rfl) (fun _ _ => by kernel_rfl) (fun _ _ => by kernel_rfl) (fun _ _ => by kernel_rfl) (fun _ _ => by kernel_rfl) (fun _ _ => by kernel_rfl) trivial trivial (by kernel_rfl) ⟨?c28_1, ?c28_6, ?c28_11, ?c28_16, trivial⟩ ?k28
     case c28_1 =>
      refine kcast (A := ∀ (φ28 : Nat → Nat) (xs28 : Xs) (J1_28 : IM), I25.Le J1_28 → Fun Try.prog 43 #[.slice a18 (List.length (L ++ putBits 0 1 ++ putBits 3 2)) c18, .int .u64 1, .int .i64 1] J1_28 (fun v J' => ∃ x : UX, v = .slice (x.p 0) (List.length (L ++ putBits 0 1 ++ putBits 3 2 ++ putBits 1 1)) (x.n 0) ∧ (BoS J' (L ++ putBits 0 1 ++ putBits 3 2 ++ putBits 1 1) (.slice (x.p 0) (List.length (L ++ putBits 0 1 ++ putBits 3 2 ++ putBits 1 1)) (x.n 0))))) (by kernel_rfl) ?_
      intro φ28 xs28 J1_28 leJ
      have h18_0 := BoS.mono leJ h18_0
      exact Fun.mono (refput_c (n := 1) (k := 1) h18_0 (by have h7 := hlen; simp [evB, headB, kindE, pb02, pb12, pb22, pb32, pb01, pb11, putBits_len, of_decide_eq_false hc7, of_decide_eq_false hc22, of_decide_eq_false hc26] at h7; (try simp only [List.length_append, putBits_len, List.length_nil]); omega) (by decide) (by decide)) (fun v J' _ ⟨y0, y1, hv, g0⟩ => ⟨{ UX.d with p := fun j => y0, n := fun j => y1 }, hv, g0⟩)
     case c28_6 =>
      refine kcast (A := ∀ (φ28 : Nat → Nat) (xs28 : Xs) (J6_28 : IM), I25.Le J6_28 → (BoS J6_28 (L ++ putBits 0 1 ++ putBits 3 2 ++ putBits 1 1) (.slice ((xs28 1).p 0) (List.length (L ++ putBits 0 1 ++ putBits 3 2 ++ putBits 1 1)) ((xs28 1).n 0))) → Fun Try.prog 44 #[.slice ((xs28 1).p 0) (List.length (L ++ putBits 0 1 ++ putBits 3 2 ++ putBits 1 1)) ((xs28 1).n 0), .int .u64 n] J6_28 (fun v J' => ∃ x : UX, v = .slice (x.p 0) (List.length (L ++ putBits 0 1 ++ putBits 3 2 ++ putBits 1 1 ++ numW 62 2 n)) (x.n 0) ∧ (BoS J' (L ++ putBits 0 1 ++ putBits 3 2 ++ putBits 1 1 ++ numW 62 2 n) (.slice (x.p 0) (List.length (L ++ putBits 0 1 ++ putBits 3 2 ++ putBits 1 1 ++ numW 62 2 n)) (x.n 0))))) (by kernel_rfl) ?_
      intro φ28 xs28 J6_28 leJ
      rintro h28_1_0
      exact Fun.mono (refnum_c (n := n) h28_1_0 (by have h7 := hlen; simp [evB, headB, kindE, pb02, pb12, pb22, pb32, pb01, pb11, putBits_len, of_decide_eq_false hc7, of_decide_eq_false hc22, of_decide_eq_false hc26] at h7; (try simp only [List.length_append, putBits_len, List.length_nil]); omega) (hnb)) (fun v J' _ ⟨y0, y1, hv, g0⟩ => ⟨{ UX.d with p := fun j => y0, n := fun j => y1 }, hv, g0⟩)
     case c28_11 =>
      refine kcast (A := ∀ (φ28 : Nat → Nat) (xs28 : Xs) (J11_28 : IM), I25.Le J11_28 → (BoS J11_28 (L ++ putBits 0 1 ++ putBits 3 2 ++ putBits 1 1) (.slice ((xs28 1).p 0) (List.length (L ++ putBits 0 1 ++ putBits 3 2 ++ putBits 1 1)) ((xs28 1).n 0))) → (BoS J11_28 (L ++ putBits 0 1 ++ putBits 3 2 ++ putBits 1 1 ++ numW 62 2 n) (.slice ((xs28 6).p 0) (List.length (L ++ putBits 0 1 ++ putBits 3 2 ++ putBits 1 1 ++ numW 62 2 n)) ((xs28 6).n 0))) → Fun Try.prog 21 #[.slice ((xs28 6).p 0) (List.length (L ++ putBits 0 1 ++ putBits 3 2 ++ putBits 1 1 ++ numW 62 2 n)) ((xs28 6).n 0), pB kl] J11_28 (fun v J' => ∃ x : UX, v = .slice (x.p 0) (List.length (L ++ putBits 0 1 ++ putBits 3 2 ++ putBits 1 1 ++ numW 62 2 n ++ evB l)) (x.n 0) ∧ (BoS J' (L ++ putBits 0 1 ++ putBits 3 2 ++ putBits 1 1 ++ numW 62 2 n ++ evB l) (.slice (x.p 0) (List.length (L ++ putBits 0 1 ++ putBits 3 2 ++ putBits 1 1 ++ numW 62 2 n ++ evB l)) (x.n 0))))) (by kernel_rfl) ?_
      intro φ28 xs28 J11_28 leJ
      rintro h28_1_0 h28_6_0
      have hl := Ev.RE.mono leJ hl
      exact Fun.mono (ihl hl h28_6_0 (by have h7 := hlen; simp [evB, headB, kindE, pb02, pb12, pb22, pb32, pb01, pb11, putBits_len, of_decide_eq_false hc7, of_decide_eq_false hc22, of_decide_eq_false hc26] at h7; (try simp only [List.length_append, putBits_len, List.length_nil]); omega)) (fun v J' _ ⟨y0, y1, hv, g0⟩ => ⟨{ UX.d with p := fun j => y0, n := fun j => y1 }, hv, g0⟩)
     case c28_16 =>
      refine kcast (A := ∀ (φ28 : Nat → Nat) (xs28 : Xs) (J16_28 : IM), I25.Le J16_28 → (BoS J16_28 (L ++ putBits 0 1 ++ putBits 3 2 ++ putBits 1 1) (.slice ((xs28 1).p 0) (List.length (L ++ putBits 0 1 ++ putBits 3 2 ++ putBits 1 1)) ((xs28 1).n 0))) → (BoS J16_28 (L ++ putBits 0 1 ++ putBits 3 2 ++ putBits 1 1 ++ numW 62 2 n) (.slice ((xs28 6).p 0) (List.length (L ++ putBits 0 1 ++ putBits 3 2 ++ putBits 1 1 ++ numW 62 2 n)) ((xs28 6).n 0))) → (BoS J16_28 (L ++ putBits 0 1 ++ putBits 3 2 ++ putBits 1 1 ++ numW 62 2 n ++ evB l) (.slice ((xs28 11).p 0) (List.length (L ++ putBits 0 1 ++ putBits 3 2 ++ putBits 1 1 ++ numW 62 2 n ++ evB l)) ((xs28 11).n 0))) → Fun Try.prog 21 #[.slice ((xs28 11).p 0) (List.length (L ++ putBits 0 1 ++ putBits 3 2 ++ putBits 1 1 ++ numW 62 2 n ++ evB l)) ((xs28 11).n 0), pB kr] J16_28 (fun v J' => ∃ x : UX, v = .slice (x.p 0) (List.length (L ++ putBits 0 1 ++ putBits 3 2 ++ putBits 1 1 ++ numW 62 2 n ++ evB l ++ evB r)) (x.n 0) ∧ (BoS J' (L ++ putBits 0 1 ++ putBits 3 2 ++ putBits 1 1 ++ numW 62 2 n ++ evB l ++ evB r) (.slice (x.p 0) (List.length (L ++ putBits 0 1 ++ putBits 3 2 ++ putBits 1 1 ++ numW 62 2 n ++ evB l ++ evB r)) (x.n 0))))) (by kernel_rfl) ?_
      intro φ28 xs28 J16_28 leJ
      rintro h28_1_0 h28_6_0 h28_11_0
      have hr := Ev.RE.mono leJ hr
      exact Fun.mono (ihr hr h28_11_0 (by have h7 := hlen; simp [evB, headB, kindE, pb02, pb12, pb22, pb32, pb01, pb11, putBits_len, of_decide_eq_false hc7, of_decide_eq_false hc22, of_decide_eq_false hc26] at h7; (try simp only [List.length_append, putBits_len, List.length_nil]); omega)) (fun v J' _ ⟨y0, y1, hv, g0⟩ => ⟨{ UX.d with p := fun j => y0, n := fun j => y1 }, hv, g0⟩)
     case k28 =>
      rintro φ28 xs28 I28 w28 le28 s h28_1_0 h28_6_0 h28_11_0 h28_16_0
      refine wp_ret ?_
      refine ret_rule (C := []) [] [] (.slice ((xs28 16).p 0) (List.length (L ++ putBits 0 1 ++ putBits 3 2 ++ putBits 1 1 ++ numW 62 2 n ++ evB l ++ evB r)) ((xs28 16).n 0)) [] [] s trivial (by kernel_rfl) ?_
      have e9 : L ++ putBits 0 1 ++ putBits 3 2 ++ putBits 1 1 ++ numW 62 2 n ++ evB l ++ evB r = L ++ evB (Ev.E.node n l r) := by simp [evB, headB, kindE, pb02, pb12, pb22, pb32, pb01, pb11, of_decide_eq_false hc7, of_decide_eq_false hc22, of_decide_eq_false hc26]
      rw [e9] at h28_16_0 ⊢
      exact ⟨_, _, _, rfl, s, ⟨_, _, rfl, h28_16_0⟩⟩

theorem refEvent_c : ∀ (e : Ev.E) {I : IM} {k : Nat} {L : List Bool} {a : Option Addr} {m c : Nat}, Ev.RE I e k → e.nf → e.top < 18446744073709551616 → BoS I L (.slice a m c) → L.length + (evB e).length ≤ 700000 → Fun Try.prog 21 #[.slice a m c, .pointer (some ⟨k, 0, none⟩)] I (fun v J => boR (L ++ evB e) v J)
  | .leaf n, _, _, _, _, _, _, h, hn, ht, hL, hl => refEvent_step h hn ht hL hl (fun n l r h => by cases h)
  | .node n l r, _, _, _, _, _, _, h, hn, ht, hL, hl => refEvent_step h hn ht hL hl (fun n' l' r' e => by
      cases e
      exact ⟨fun {J k L a m c} a1 a2 a3 => refEvent_c l a1 hn.1 (half_lt ht).1 a2 a3, fun {J k L a m c} a1 a2 a3 => refEvent_c r a1 hn.2.1 (half_lt ht).2.1 a2 a3⟩)

set_option maxHeartbeats 1000000 in
theorem refStamp_c {I : IM} {t : Ev.T} {e : Ev.E} {ki ke : Nat} (hi : Ev.RT I t ki) (he : Ev.RE I e ke) (ho : okT t) (ho2 : okE e) : Fun Try.prog 16 #[.agg #[.pointer (some ⟨ki, 0, none⟩), .pointer (some ⟨ke, 0, none⟩)]] I (fun v J => boR ([] ++ idB t ++ evB e) v J) := by
 refine enter_rule 9 [(0, .agg #[pB ki, pB ke])] Try.func16 rfl (by kernel_rfl) ?_
 intro w s
 refine seqR ?_
 refine ops_rule (C := []) [] [] 2 [] 1 (fun φ1 => [(2, .slice none 0 0), (1, pB (φ1 0))]) (fun φ1 => [(φ1 0, .cells #[pB ki, pB ke] 36)]) (fun φ1 => []) s trivial (fun φ1 => by kernel_rfl) ?_
 intro φ1 w1 s
 refine ops_done (by kernel_rfl) ?_
 refine wp_seq ?_
 refine draw_rule (C := []) ⟨(fun φ2 xs2 => [.look 0 [] [], .look 0 [.o 0] [(φ1 0)], .call 20 #[.slice none 0 0, pB ki], .look 0 [] [], .look 0 [.o 0] [(φ1 0)], .call 21 #[.slice ((xs2 2).p 0) (List.length ([] ++ idB t)) ((xs2 2).n 0), pB ke], .look 0 [] []]), (fun φ2 xs2 => [pB (φ1 0), pB ki, .slice ((xs2 2).p 0) (List.length ([] ++ idB t)) ((xs2 2).n 0), .pointer (some ⟨(φ1 0), 1, none⟩), pB ke, .slice ((xs2 5).p 0) (List.length ([] ++ idB t ++ evB e)) ((xs2 5).n 0), .slice ((xs2 5).p 0) (List.length ([] ++ idB t ++ evB e)) ((xs2 5).n 0)]), (fun φ2 xs2 => [[(φ1 0, .cells #[pB ki, pB ke] 36)]]), (fun φ2 xs2 => [[default, default, default, default, default, default, default]]), [], [1, 1, 3, 1, 1, 3, 1]⟩ (fun j => ([MP.any, MP.any, ⟨fun x J => BoS J ([] ++ idB t) (.slice (x.p 0) (List.length ([] ++ idB t)) (x.n 0)), fun le h => BoS.mono le h⟩, MP.any, MP.any, ⟨fun x J => BoS J ([] ++ idB t ++ evB e) (.slice (x.p 0) (List.length ([] ++ idB t ++ evB e)) (x.n 0)), fun le h => BoS.mono le h⟩] : List MP).getD j MP.any) [2, 5] [] [] (fun φ2 xs2 => []) (fun φ2 xs2 => [(3, pB (φ1 0)), (4, pB ki), (5, .slice ((xs2 2).p 0) (List.length ([] ++ idB t)) ((xs2 2).n 0)), (6, .pointer (some ⟨(φ1 0), 1, none⟩)), (7, pB ke), (8, .slice ((xs2 5).p 0) (List.length ([] ++ idB t ++ evB e)) ((xs2 5).n 0)), (2, .slice ((xs2 5).p 0) (List.length ([] ++ idB t ++ evB e)) ((xs2 5).n 0))]) (fun φ2 xs2 => [(φ1 0, .cells #[pB ki, pB ke] 36)]) s trivial (by kernel_rfl) (by kernel_rfl) (fun _ _ => by kernel_rfl) (fun _ _ => by kernel_rfl) ⟨fun _ _ => by kernel_rfl, fun _ _ => by kernel_rfl, fun _ _ => by kernel_rfl, fun _ _ => by kernel_rfl⟩ (fun _ _ _ => by kernel_rfl) (fun _ _ => by kernel_rfl) (fun _ _ => by kernel_rfl) (fun _ _ => by kernel_rfl) (fun _ _ => by kernel_rfl) (fun _ _ => by kernel_rfl) trivial trivial (by kernel_rfl) ⟨?c2_2, ?c2_5, trivial⟩ ?k2
 case c2_2 =>
  refine kcast (A := ∀ (φ2 : Nat → Nat) (xs2 : Xs) (J2_2 : IM), I.Le J2_2 → Fun Try.prog 20 #[.slice none 0 0, pB ki] J2_2 (fun v J' => ∃ x : UX, v = .slice (x.p 0) (List.length ([] ++ idB t)) (x.n 0) ∧ (BoS J' ([] ++ idB t) (.slice (x.p 0) (List.length ([] ++ idB t)) (x.n 0))))) (by kernel_rfl) ?_
  intro φ2 xs2 J2_2 leJ
  have hi := Ev.RT.mono leJ hi
  exact Fun.mono (refID_c t hi (bos_nil _) (by have l1 := okT.len ho; have l2 := okE.len ho2; (try simp only [List.length_append, putBits_len, List.length_nil]); omega)) (fun v J' _ ⟨y0, y1, hv, g0⟩ => ⟨{ UX.d with p := fun j => y0, n := fun j => y1 }, hv, g0⟩)
 case c2_5 =>
  refine kcast (A := ∀ (φ2 : Nat → Nat) (xs2 : Xs) (J5_2 : IM), I.Le J5_2 → (BoS J5_2 ([] ++ idB t) (.slice ((xs2 2).p 0) (List.length ([] ++ idB t)) ((xs2 2).n 0))) → Fun Try.prog 21 #[.slice ((xs2 2).p 0) (List.length ([] ++ idB t)) ((xs2 2).n 0), pB ke] J5_2 (fun v J' => ∃ x : UX, v = .slice (x.p 0) (List.length ([] ++ idB t ++ evB e)) (x.n 0) ∧ (BoS J' ([] ++ idB t ++ evB e) (.slice (x.p 0) (List.length ([] ++ idB t ++ evB e)) (x.n 0))))) (by kernel_rfl) ?_
  intro φ2 xs2 J5_2 leJ
  rintro h2_2_0
  have he := Ev.RE.mono leJ he
  exact Fun.mono (refEvent_c e he ho2.1 (okE.t ho2) h2_2_0 (by have l1 := okT.len ho; have l2 := okE.len ho2; (try simp only [List.length_append, putBits_len, List.length_nil]); omega)) (fun v J' _ ⟨y0, y1, hv, g0⟩ => ⟨{ UX.d with p := fun j => y0, n := fun j => y1 }, hv, g0⟩)
 case k2 =>
  rintro φ2 xs2 I2 w2 le2 s h2_2_0 h2_5_0
  refine wp_ret ?_
  refine ret_rule (C := []) [(φ1 0, .cells #[pB ki, pB ke] 36)] [] (.slice ((xs2 5).p 0) (List.length ([] ++ idB t ++ evB e)) ((xs2 5).n 0)) [] [] s trivial (by kernel_rfl) ?_
  exact ⟨_, _, _, rfl, s, ⟨_, _, rfl, h2_5_0⟩⟩

end Go.Proofs.Ytgmigcmhnmmdkaa
/- Each stamp has the bits of the document. -/
set_option linter.all false
set_option maxRecDepth 100000
namespace Go.Proofs.Ytgmigcmhnmmdkaa
open Go.RowKit Go.Sep
attribute [local irreducible] Go.wpList Go.Code.wp

theorem okT.w {t : Ev.T} (h : okT t) : t.nf ∧ t.depth ≤ 16 := ⟨h.1, by have := h.2; omega⟩
theorem stBack_c {I : IM} {t : Ev.T} {e : Ev.E} {a : Option Addr} {n c : Nat} (hl : BSl I (pk (idB t ++ evB e)) (.slice a n c)) (ht : okT t) (he : okE e) : Fun Try.prog 9 #[.slice a n c] I (fun v J => ∃ bi pi be pe, v = .tuple #[.agg #[.bool bi, .pointer pi, .int .u64 ((be : Nat) : Int), .pointer pe], .int .i64 0] ∧ Ev.TRep J t bi pi ∧ Ev.ERep J e be pe) := by
  have h := readStamp_c hl (by have l1 := okT.len ht; have l2 := okE.len he; rw [pk_len, List.length_append]; omega)
  rw [rsG_back ht.w he.w] at h; exact h
theorem idBack_c {I : IM} {t : Ev.T} {a : Option Addr} {n c : Nat} (hl : BSl I (pk (idB t)) (.slice a n c)) (ht : okT t) : Fun Try.prog 10 #[.slice a n c] I (fun v J => ∃ bi pi, v = .tuple #[.agg #[.bool bi, .pointer pi], .int .i64 0] ∧ Ev.TRep J t bi pi) := by
  have h := readID_c hl (by have l1 := okT.len ht; rw [pk_len]; omega)
  rw [rdG_back (fun X => idG_back t 16 X ht.w.1 ht.w.2 (by decide))] at h; exact h
theorem evBack_c {I : IM} {e : Ev.E} {a : Option Addr} {n c : Nat} (hl : BSl I (pk (evB e)) (.slice a n c)) (he : okE e) : Fun Try.prog 12 #[.slice a n c] I (fun v J => ∃ bi pi, v = .tuple #[.agg #[.int .u64 ((bi : Nat) : Int), .pointer pi], .int .i64 0] ∧ Ev.ERep J e bi pi) := by
  have h := readEvent_c hl (by have l1 := okE.len he; rw [pk_len]; omega)
  rw [rdG_back (fun X => evG_back e 16 X he.w.1 he.w.2.2 he.w.2.1 (by decide))] at h; exact h
theorem stSelf_c {I : IM} {t : Ev.T} {e : Ev.E} {bi bi2 : Bool} {pi pi2 : Option Addr} {be be2 : Nat} {pe pe2 : Option Addr} (ht : Ev.TRep I t bi pi) (ht2 : Ev.TRep I t bi2 pi2) (he : Ev.ERep I e be pe) (he2 : Ev.ERep I e be2 pe2) (ho : okE e) : Fun Try.prog 17 #[.agg #[.bool bi, .pointer pi, .int .u64 ((be : Nat) : Int), .pointer pe], .agg #[.bool bi2, .pointer pi2, .int .u64 ((be2 : Nat) : Int), .pointer pe2]] I (fun v J => v = .bool true) := by
  have := stampSame_c ht ht2 he he2 ho ho
  rw [decide_eq_true ⟨rfl, rfl⟩] at this; exact this

set_option maxHeartbeats 4000000 in
theorem codeWrites_c {I : IM} {p1 : List UInt8} {a1 : Option Addr} {n1 c1 : Nat} (h10 : BSl I p1 (.slice a1 n1 c1)) {p2 : List UInt8} {a2 : Option Addr} {n2 c2 : Nat} (h20 : BSl I p2 (.slice a2 n2 c2)) : Fun Try.prog 3 #[.slice a1 n1 c1, .slice a2 n2 c2] I (fun v J => v = .bool true) := by
 obtain ⟨rfl, -⟩ := h10.cap
 obtain ⟨rfl, -⟩ := h20.cap
 refine enter_rule 97 [(0, .slice a1 p1.length c1), (1, .slice a2 p2.length c2)] Try.func3 rfl (by kernel_rfl) ?_
 intro w s
 refine seqR ?_
 refine ops_rule (C := []) [] [] 1 [] 0 (fun φ1 => [(4, .bool false)]) (fun φ1 => []) (fun φ1 => []) s trivial (fun φ1 => by kernel_rfl) ?_
 intro φ1 w1 s
 refine ops_done (by kernel_rfl) ?_
 refine wp_seq ?_
 refine seqR ?_
 refine call_rule (some 14) s (awake7_c) (by kernel_rfl) ?_
 intro v2 I2 w2 le2 h2 s
 replace h10 := BSl.mono le2 h10
 replace h20 := BSl.mono le2 h20
 obtain rfl := h2
 refine ops_rule (C := []) [] [] 1 [] 0 (fun φ3 => [(15, .bool false)]) (fun φ3 => []) (fun φ3 => []) s trivial (fun φ3 => by kernel_rfl) ?_
 intro φ3 w3 s
 refine ops_done (by kernel_rfl) ?_
 refine cond_false_rule (b := false) (by kernel_rfl) rfl ?_
 refine wp_skip ?_
 refine seqR ?_
 refine ops_rule (C := []) [] [] 2 [] 0 (fun φ4 => [(18, .slice a2 p2.length c2), (17, .slice a1 p1.length c1)]) (fun φ4 => []) (fun φ4 => []) s trivial (fun φ4 => by kernel_rfl) ?_
 intro φ4 w4 s
 refine call_rule (some 19) s (made7_c h10 h20) (by kernel_rfl) ?_
 intro v5 I5 w5 le5 h5 s
 obtain ⟨ib5, ip5, eb5, ep5, ki5, ke5, i5, e5, rfl, h5_0, h5_1, h5_2, h5_3, h5_4, h5_5⟩ := h5
 refine ops_rule (C := []) [] [] 7 [.o 0, .o 0, .o 0, .o 0, .o 1, .o 1] 2 (fun φ6 => [(6, pB (φ6 1)), (5, pB (φ6 0)), (21, .agg #[pB ki5, pB ke5]), (20, .agg #[.bool ib5, .pointer ip5, .int .u64 eb5, .pointer ep5]), (16, .tuple #[.agg #[.bool ib5, .pointer ip5, .int .u64 eb5, .pointer ep5], .agg #[pB ki5, pB ke5]])]) (fun φ6 => [(φ6 0, .cells #[.bool ib5, .pointer ip5, .int .u64 eb5, .pointer ep5] 32), (φ6 1, .cells #[pB ki5, pB ke5] 36)]) (fun φ6 => [φ6 0, φ6 0, φ6 0, φ6 0, φ6 1, φ6 1]) s trivial (fun φ6 => by kernel_rfl) ?_
 intro φ6 w6 s
 refine ops_done (by kernel_rfl) ?_
 refine seqR ?_
 refine ops_rule (C := []) _ [] 1 [.o 0, .o 0, .o 0, .o 0] 0 (fun φ7 => [(22, .agg #[.bool ib5, .pointer ip5, .int .u64 eb5, .pointer ep5])]) (fun φ7 => [(φ6 0, .cells #[.bool ib5, .pointer ip5, .int .u64 eb5, .pointer ep5] 32), (φ6 1, .cells #[pB ki5, pB ke5] 36)]) (fun φ7 => [φ6 0, φ6 0, φ6 0, φ6 0]) s trivial (fun φ7 => by kernel_rfl) ?_
 intro φ7 w7 s
 refine call_rule (some 23) s (codeStamp_c h5_2 h5_3 (okE.t h5_1) (by have l1 := okT.len h5_0; have l2 := okE.len h5_1; omega)) (by kernel_rfl) ?_
 intro v8 I8 w8 le8 h8 s
 replace h5_2 := Ev.TRep.mono le8 h5_2
 replace h5_3 := Ev.ERep.mono le8 h5_3
 replace h5_4 := Ev.RT.mono le8 h5_4
 replace h5_5 := Ev.RE.mono le8 h5_5
 obtain ⟨a8, c8, rfl, h8_0⟩ := h8
 refine ops_rule (C := []) _ [] 1 [] 0 (fun φ9 => [(7, .slice a8 (List.length (pk (idB i5 ++ evB e5))) c8)]) (fun φ9 => [(φ6 0, .cells #[.bool ib5, .pointer ip5, .int .u64 eb5, .pointer ep5] 32), (φ6 1, .cells #[pB ki5, pB ke5] 36)]) (fun φ9 => []) s trivial (fun φ9 => by kernel_rfl) ?_
 intro φ9 w9 s
 refine ops_done (by kernel_rfl) ?_
 refine seqR ?_
 refine ops_rule (C := []) _ [] 1 [] 0 (fun φ10 => [(25, .slice a8 (List.length (pk (idB i5 ++ evB e5))) c8)]) (fun φ10 => [(φ6 0, .cells #[.bool ib5, .pointer ip5, .int .u64 eb5, .pointer ep5] 32), (φ6 1, .cells #[pB ki5, pB ke5] 36)]) (fun φ10 => []) s trivial (fun φ10 => by kernel_rfl) ?_
 intro φ10 w10 s
 refine call_rule (some 26) s (stBack_c h8_0 h5_0 h5_1) (by kernel_rfl) ?_
 intro v11 I11 w11 le11 h11 s
 replace h5_2 := Ev.TRep.mono le11 h5_2
 replace h5_3 := Ev.ERep.mono le11 h5_3
 replace h5_4 := Ev.RT.mono le11 h5_4
 replace h5_5 := Ev.RE.mono le11 h5_5
 replace h8_0 := BSl.mono le11 h8_0
 obtain ⟨bi11, pi11, be11, pe11, rfl, h11_0, h11_1⟩ := h11
 refine ops_rule (C := []) _ [] 6 [.o 2, .o 2, .o 2, .o 2] 1 (fun φ12 => [(9, .int .i64 0), (8, pB (φ12 0)), (28, .int .i64 0), (27, .agg #[.bool bi11, .pointer pi11, .int .u64 be11, .pointer pe11]), (24, .tuple #[.agg #[.bool bi11, .pointer pi11, .int .u64 be11, .pointer pe11], .int .i64 0])]) (fun φ12 => [(φ6 0, .cells #[.bool ib5, .pointer ip5, .int .u64 eb5, .pointer ep5] 32), (φ6 1, .cells #[pB ki5, pB ke5] 36), (φ12 0, .cells #[.bool bi11, .pointer pi11, .int .u64 be11, .pointer pe11] 32)]) (fun φ12 => [φ12 0, φ12 0, φ12 0, φ12 0]) s trivial (fun φ12 => by kernel_rfl) ?_
 intro φ12 w12 s
 refine ops_done (by kernel_rfl) ?_
 refine seqR ?_
 refine ops_rule (C := []) _ [] 2 [.o 0, .o 0] 0 (fun φ13 => [(31, .agg #[.bool ib5, .pointer ip5]), (30, pB (φ6 0))]) (fun φ13 => [(φ6 0, .cells #[.bool ib5, .pointer ip5, .int .u64 eb5, .pointer ep5] 32), (φ6 1, .cells #[pB ki5, pB ke5] 36), (φ12 0, .cells #[.bool bi11, .pointer pi11, .int .u64 be11, .pointer pe11] 32)]) (fun φ13 => [φ6 0, φ6 0]) s trivial (fun φ13 => by kernel_rfl) ?_
 intro φ13 w13 s
 refine call_rule (some 32) s (codeID_c h5_2 (by have l1 := okT.len h5_0; omega)) (by kernel_rfl) ?_
 intro v14 I14 w14 le14 h14 s
 replace h5_2 := Ev.TRep.mono le14 h5_2
 replace h5_3 := Ev.ERep.mono le14 h5_3
 replace h5_4 := Ev.RT.mono le14 h5_4
 replace h5_5 := Ev.RE.mono le14 h5_5
 replace h8_0 := BSl.mono le14 h8_0
 replace h11_0 := Ev.TRep.mono le14 h11_0
 replace h11_1 := Ev.ERep.mono le14 h11_1
 obtain ⟨a14, c14, rfl, h14_0⟩ := h14
 refine call_rule (some 33) s (idBack_c h14_0 h5_0) (by kernel_rfl) ?_
 intro v15 I15 w15 le15 h15 s
 replace h5_2 := Ev.TRep.mono le15 h5_2
 replace h5_3 := Ev.ERep.mono le15 h5_3
 replace h5_4 := Ev.RT.mono le15 h5_4
 replace h5_5 := Ev.RE.mono le15 h5_5
 replace h8_0 := BSl.mono le15 h8_0
 replace h11_0 := Ev.TRep.mono le15 h11_0
 replace h11_1 := Ev.ERep.mono le15 h11_1
 obtain ⟨bi15, pi15, rfl, h15_0⟩ := h15
 refine ops_rule (C := []) _ [] 6 [.o 3, .o 3] 1 (fun φ16 => [(11, .int .i64 0), (10, pB (φ16 0)), (35, .int .i64 0), (34, .agg #[.bool bi15, .pointer pi15]), (29, .tuple #[.agg #[.bool bi15, .pointer pi15], .int .i64 0])]) (fun φ16 => [(φ6 0, .cells #[.bool ib5, .pointer ip5, .int .u64 eb5, .pointer ep5] 32), (φ6 1, .cells #[pB ki5, pB ke5] 36), (φ12 0, .cells #[.bool bi11, .pointer pi11, .int .u64 be11, .pointer pe11] 32), (φ16 0, .cells #[.bool bi15, .pointer pi15] 26)]) (fun φ16 => [φ16 0, φ16 0]) s trivial (fun φ16 => by kernel_rfl) ?_
 intro φ16 w16 s
 refine ops_done (by kernel_rfl) ?_
 refine seqR ?_
 refine ops_rule (C := []) _ [] 2 [.o 0, .o 0] 0 (fun φ17 => [(38, .agg #[.int .u64 eb5, .pointer ep5]), (37, .pointer (some ⟨(φ6 0), 2, none⟩))]) (fun φ17 => [(φ6 0, .cells #[.bool ib5, .pointer ip5, .int .u64 eb5, .pointer ep5] 32), (φ6 1, .cells #[pB ki5, pB ke5] 36), (φ12 0, .cells #[.bool bi11, .pointer pi11, .int .u64 be11, .pointer pe11] 32), (φ16 0, .cells #[.bool bi15, .pointer pi15] 26)]) (fun φ17 => [φ6 0, φ6 0]) s trivial (fun φ17 => by kernel_rfl) ?_
 intro φ17 w17 s
 refine call_rule (some 39) s (codeEvent_c h5_3 (okE.t h5_1) (by have l2 := okE.len h5_1; omega)) (by kernel_rfl) ?_
 intro v18 I18 w18 le18 h18 s
 replace h5_2 := Ev.TRep.mono le18 h5_2
 replace h5_3 := Ev.ERep.mono le18 h5_3
 replace h5_4 := Ev.RT.mono le18 h5_4
 replace h5_5 := Ev.RE.mono le18 h5_5
 replace h8_0 := BSl.mono le18 h8_0
 replace h11_0 := Ev.TRep.mono le18 h11_0
 replace h11_1 := Ev.ERep.mono le18 h11_1
 replace h15_0 := Ev.TRep.mono le18 h15_0
 obtain ⟨a18, c18, rfl, h18_0⟩ := h18
 refine call_rule (some 40) s (evBack_c h18_0 h5_1) (by kernel_rfl) ?_
 intro v19 I19 w19 le19 h19 s
 replace h5_2 := Ev.TRep.mono le19 h5_2
 replace h5_3 := Ev.ERep.mono le19 h5_3
 replace h5_4 := Ev.RT.mono le19 h5_4
 replace h5_5 := Ev.RE.mono le19 h5_5
 replace h8_0 := BSl.mono le19 h8_0
 replace h11_0 := Ev.TRep.mono le19 h11_0
 replace h11_1 := Ev.ERep.mono le19 h11_1
 replace h15_0 := Ev.TRep.mono le19 h15_0
 obtain ⟨be19, pe19, rfl, h19_0⟩ := h19
 refine ops_rule (C := []) _ [] 6 [.o 4, .o 4] 1 (fun φ20 => [(13, .int .i64 0), (12, pB (φ20 0)), (42, .int .i64 0), (41, .agg #[.int .u64 be19, .pointer pe19]), (36, .tuple #[.agg #[.int .u64 be19, .pointer pe19], .int .i64 0])]) (fun φ20 => [(φ6 0, .cells #[.bool ib5, .pointer ip5, .int .u64 eb5, .pointer ep5] 32), (φ6 1, .cells #[pB ki5, pB ke5] 36), (φ12 0, .cells #[.bool bi11, .pointer pi11, .int .u64 be11, .pointer pe11] 32), (φ16 0, .cells #[.bool bi15, .pointer pi15] 26), (φ20 0, .cells #[.int .u64 be19, .pointer pe19] 30)]) (fun φ20 => [φ20 0, φ20 0]) s trivial (fun φ20 => by kernel_rfl) ?_
 intro φ20 w20 s
 refine ops_done (by kernel_rfl) ?_
 refine wp_seq ?_
 refine draw_rule (C := []) ⟨(fun φ21 xs21 => [.look 0 [] [], .look 0 [.o 1, .o 1] [φ6 1, φ6 1], .call 16 #[.agg #[pB ki5, pB ke5]], .call 15 #[.slice ((xs21 2).p 0) (List.length ([] ++ idB i5 ++ evB e5)) ((xs21 2).n 0)], .call 14 #[.slice a8 (List.length (pk (idB i5 ++ evB e5))) c8, .slice ((xs21 3).p 0) (List.length (pk ([] ++ idB i5 ++ evB e5))) ((xs21 3).n 0)], .look 0 [] [], .look 0 [] [], .look 0 [] [], .look 0 [] [], .look 0 [] [], .look 0 [.o 0, .o 0, .o 0, .o 0] [φ6 0, φ6 0, φ6 0, φ6 0], .look 0 [.o 2, .o 2, .o 2, .o 2] [φ12 0, φ12 0, φ12 0, φ12 0], .call 17 #[.agg #[.bool ib5, .pointer ip5, .int .u64 eb5, .pointer ep5], .agg #[.bool bi11, .pointer pi11, .int .u64 be11, .pointer pe11]], .look 0 [] [], .look 0 [] [], .look 0 [] [], .look 0 [] [], .look 0 [] [], .look 0 [] [], .look 0 [.o 3, .o 3] [φ16 0, φ16 0], .look 0 [] [], .look 0 [.o 0, .o 0] [φ6 0, φ6 0], .call 18 #[.agg #[.bool bi15, .pointer pi15], .agg #[.bool ib5, .pointer ip5]], .look 0 [] [], .look 0 [] [], .look 0 [] [], .look 0 [] [], .look 0 [] [], .look 0 [] [], .look 0 [.o 4, .o 4] [φ20 0, φ20 0], .look 0 [] [], .look 0 [.o 0, .o 0] [φ6 0, φ6 0], .call 19 #[.agg #[.int .u64 be19, .pointer pe19], .agg #[.int .u64 eb5, .pointer ep5]], .look 0 [] [], .look 0 [] [], .look 0 [] [], .look 0 [.o 0, .o 0] [φ6 0, φ6 0], .call 11 #[.agg #[.bool ib5, .pointer ip5]], .look 0 [] [], .look 0 [.o 1] [(φ6 1)], .call 20 #[.slice none 0 0, pB ki5], .call 15 #[.slice ((xs21 40).p 0) (List.length ([] ++ idB i5)) ((xs21 40).n 0)], .call 14 #[.slice ((xs21 37).p 0) (List.length (pk (idB i5))) ((xs21 37).n 0), .slice ((xs21 41).p 0) (List.length (pk ([] ++ idB i5))) ((xs21 41).n 0)], .look 0 [] [], .look 0 [] [], .look 0 [] [], .look 0 [.o 0, .o 0] [φ6 0, φ6 0], .call 13 #[.agg #[.int .u64 eb5, .pointer ep5]], .look 0 [] [], .look 0 [.o 1] [(φ6 1)], .call 21 #[.slice none 0 0, pB ke5], .call 15 #[.slice ((xs21 50).p 0) (List.length ([] ++ evB e5)) ((xs21 50).n 0)], .call 14 #[.slice ((xs21 47).p 0) (List.length (pk (evB e5))) ((xs21 47).n 0), .slice ((xs21 51).p 0) (List.length (pk ([] ++ evB e5))) ((xs21 51).n 0)], .look 0 [] [], .look 0 [] []]), (fun φ21 xs21 => [.slice a8 (List.length (pk (idB i5 ++ evB e5))) c8, .agg #[pB ki5, pB ke5], .slice ((xs21 2).p 0) (List.length ([] ++ idB i5 ++ evB e5)) ((xs21 2).n 0), .slice ((xs21 3).p 0) (List.length (pk ([] ++ idB i5 ++ evB e5))) ((xs21 3).n 0), .bool true, .bool true, .int .i64 0, .bool true, .bool true, .bool true, .agg #[.bool ib5, .pointer ip5, .int .u64 eb5, .pointer ep5], .agg #[.bool bi11, .pointer pi11, .int .u64 be11, .pointer pe11], .bool true, .bool true, .bool true, .int .i64 0, .bool true, .bool true, .bool true, .agg #[.bool bi15, .pointer pi15], pB (φ6 0), .agg #[.bool ib5, .pointer ip5], .bool true, .bool true, .bool true, .int .i64 0, .bool true, .bool true, .bool true, .agg #[.int .u64 be19, .pointer pe19], .pointer (some ⟨(φ6 0), 2, none⟩), .agg #[.int .u64 eb5, .pointer ep5], .bool true, .bool true, .bool true, pB (φ6 0), .agg #[.bool ib5, .pointer ip5], .slice ((xs21 37).p 0) (List.length (pk (idB i5))) ((xs21 37).n 0), pB (φ6 1), pB ki5, .slice ((xs21 40).p 0) (List.length ([] ++ idB i5)) ((xs21 40).n 0), .slice ((xs21 41).p 0) (List.length (pk ([] ++ idB i5))) ((xs21 41).n 0), .bool true, .bool true, .bool true, .pointer (some ⟨(φ6 0), 2, none⟩), .agg #[.int .u64 eb5, .pointer ep5], .slice ((xs21 47).p 0) (List.length (pk (evB e5))) ((xs21 47).n 0), .pointer (some ⟨(φ6 1), 1, none⟩), pB ke5, .slice ((xs21 50).p 0) (List.length ([] ++ evB e5)) ((xs21 50).n 0), .slice ((xs21 51).p 0) (List.length (pk ([] ++ evB e5))) ((xs21 51).n 0), .bool true, .bool true, .bool true]), (fun φ21 xs21 => [[(φ6 0, .cells #[.bool ib5, .pointer ip5, .int .u64 eb5, .pointer ep5] 32), (φ6 1, .cells #[pB ki5, pB ke5] 36), (φ12 0, .cells #[.bool bi11, .pointer pi11, .int .u64 be11, .pointer pe11] 32), (φ16 0, .cells #[.bool bi15, .pointer pi15] 26), (φ20 0, .cells #[.int .u64 be19, .pointer pe19] 30)]]), (fun φ21 xs21 => [[default, default, default, default, default, default, default, default, default, default, default, default, default, default, default, default, default, default, default, default, default, default, default, default, default, default, default, default, default, default, default, default, default, default, default, default, default, default, default, default, default, default, default, default, default, default, default, default, default, default, default, default, default, default, default]]), [], [1, 1, 3, 3, 3, 1, 1, 1, 1, 1, 1, 1, 3, 1, 1, 1, 1, 1, 1, 1, 1, 1, 3, 1, 1, 1, 1, 1, 1, 1, 1, 1, 3, 1, 1, 1, 1, 3, 1, 1, 3, 3, 3, 1, 1, 1, 1, 3, 1, 1, 3, 3, 3, 1, 1]⟩ (fun j => ([MP.any, MP.any, ⟨fun x J => BoS J ([] ++ idB i5 ++ evB e5) (.slice (x.p 0) (List.length ([] ++ idB i5 ++ evB e5)) (x.n 0)), fun le h => BoS.mono le h⟩, ⟨fun x J => BSl J (pk ([] ++ idB i5 ++ evB e5)) (.slice (x.p 0) (List.length (pk ([] ++ idB i5 ++ evB e5))) (x.n 0)), fun le h => BSl.mono le h⟩, MP.any, MP.any, MP.any, MP.any, MP.any, MP.any, MP.any, MP.any, MP.any, MP.any, MP.any, MP.any, MP.any, MP.any, MP.any, MP.any, MP.any, MP.any, MP.any, MP.any, MP.any, MP.any, MP.any, MP.any, MP.any, MP.any, MP.any, MP.any, MP.any, MP.any, MP.any, MP.any, MP.any, ⟨fun x J => BSl J (pk (idB i5)) (.slice (x.p 0) (List.length (pk (idB i5))) (x.n 0)), fun le h => BSl.mono le h⟩, MP.any, MP.any, ⟨fun x J => BoS J ([] ++ idB i5) (.slice (x.p 0) (List.length ([] ++ idB i5)) (x.n 0)), fun le h => BoS.mono le h⟩, ⟨fun x J => BSl J (pk ([] ++ idB i5)) (.slice (x.p 0) (List.length (pk ([] ++ idB i5))) (x.n 0)), fun le h => BSl.mono le h⟩, MP.any, MP.any, MP.any, MP.any, MP.any, ⟨fun x J => BSl J (pk (evB e5)) (.slice (x.p 0) (List.length (pk (evB e5))) (x.n 0)), fun le h => BSl.mono le h⟩, MP.any, MP.any, ⟨fun x J => BoS J ([] ++ evB e5) (.slice (x.p 0) (List.length ([] ++ evB e5)) (x.n 0)), fun le h => BoS.mono le h⟩, ⟨fun x J => BSl J (pk ([] ++ evB e5)) (.slice (x.p 0) (List.length (pk ([] ++ evB e5))) (x.n 0)), fun le h => BSl.mono le h⟩] : List MP).getD j MP.any) [2, 3, 4, 12, 22, 32, 37, 40, 41, 42, 47, 50, 51, 52] [] [] (fun φ21 xs21 => []) (fun φ21 xs21 => [(43, .slice a8 (List.length (pk (idB i5 ++ evB e5))) c8), (44, .agg #[pB ki5, pB ke5]), (45, .slice ((xs21 2).p 0) (List.length ([] ++ idB i5 ++ evB e5)) ((xs21 2).n 0)), (46, .slice ((xs21 3).p 0) (List.length (pk ([] ++ idB i5 ++ evB e5))) ((xs21 3).n 0)), (47, .bool true), (48, .bool true), (49, .int .i64 0), (50, .bool true), (51, .bool true), (52, .bool true), (53, .agg #[.bool ib5, .pointer ip5, .int .u64 eb5, .pointer ep5]), (54, .agg #[.bool bi11, .pointer pi11, .int .u64 be11, .pointer pe11]), (55, .bool true), (56, .bool true), (57, .bool true), (58, .int .i64 0), (59, .bool true), (60, .bool true), (61, .bool true), (62, .agg #[.bool bi15, .pointer pi15]), (63, pB (φ6 0)), (64, .agg #[.bool ib5, .pointer ip5]), (65, .bool true), (66, .bool true), (67, .bool true), (68, .int .i64 0), (69, .bool true), (70, .bool true), (71, .bool true), (72, .agg #[.int .u64 be19, .pointer pe19]), (73, .pointer (some ⟨(φ6 0), 2, none⟩)), (74, .agg #[.int .u64 eb5, .pointer ep5]), (75, .bool true), (76, .bool true), (77, .bool true), (78, pB (φ6 0)), (79, .agg #[.bool ib5, .pointer ip5]), (80, .slice ((xs21 37).p 0) (List.length (pk (idB i5))) ((xs21 37).n 0)), (81, pB (φ6 1)), (82, pB ki5), (83, .slice ((xs21 40).p 0) (List.length ([] ++ idB i5)) ((xs21 40).n 0)), (84, .slice ((xs21 41).p 0) (List.length (pk ([] ++ idB i5))) ((xs21 41).n 0)), (85, .bool true), (86, .bool true), (87, .bool true), (88, .pointer (some ⟨(φ6 0), 2, none⟩)), (89, .agg #[.int .u64 eb5, .pointer ep5]), (90, .slice ((xs21 47).p 0) (List.length (pk (evB e5))) ((xs21 47).n 0)), (91, .pointer (some ⟨(φ6 1), 1, none⟩)), (92, pB ke5), (93, .slice ((xs21 50).p 0) (List.length ([] ++ evB e5)) ((xs21 50).n 0)), (94, .slice ((xs21 51).p 0) (List.length (pk ([] ++ evB e5))) ((xs21 51).n 0)), (95, .bool true), (96, .bool true), (4, .bool true)]) (fun φ21 xs21 => [(φ6 0, .cells #[.bool ib5, .pointer ip5, .int .u64 eb5, .pointer ep5] 32), (φ6 1, .cells #[pB ki5, pB ke5] 36), (φ12 0, .cells #[.bool bi11, .pointer pi11, .int .u64 be11, .pointer pe11] 32), (φ16 0, .cells #[.bool bi15, .pointer pi15] 26), (φ20 0, .cells #[.int .u64 be19, .pointer pe19] 30)]) s trivial (by kernel_rfl) (by kernel_rfl) (fun _ _ => by kernel_rfl) (fun _ _ => by kernel_rfl) ⟨fun _ _ => by kernel_rfl, fun _ _ => by kernel_rfl, fun _ _ => by kernel_rfl, fun _ _ => by kernel_rfl⟩ (fun _ _ _ => by kernel_rfl) (fun _ _ => by kernel_rfl) (fun _ _ => by kernel_rfl) (fun _ _ => by kernel_rfl) (fun _ _ => by kernel_rfl) (fun _ _ => by kernel_rfl) trivial trivial (by kernel_rfl) ⟨?c21_2, ?c21_3, ?c21_4, ?c21_12, ?c21_22, ?c21_32, ?c21_37, ?c21_40, ?c21_41, ?c21_42, ?c21_47, ?c21_50, ?c21_51, ?c21_52, trivial⟩ ?k21
 case c21_2 =>
  refine kcast (A := ∀ (φ21 : Nat → Nat) (xs21 : Xs) (J2_21 : IM), I19.Le J2_21 → Fun Try.prog 16 #[.agg #[pB ki5, pB ke5]] J2_21 (fun v J' => ∃ x : UX, v = .slice (x.p 0) (List.length ([] ++ idB i5 ++ evB e5)) (x.n 0) ∧ (BoS J' ([] ++ idB i5 ++ evB e5) (.slice (x.p 0) (List.length ([] ++ idB i5 ++ evB e5)) (x.n 0))))) (by kernel_rfl) ?_
  intro φ21 xs21 J2_21 leJ
  have h5_4 := Ev.RT.mono leJ h5_4
  have h5_5 := Ev.RE.mono leJ h5_5
  exact Fun.mono (refStamp_c h5_4 h5_5 h5_0 h5_1) (fun v J' _ ⟨y0, y1, hv, g0⟩ => ⟨{ UX.d with p := fun j => y0, n := fun j => y1 }, hv, g0⟩)
 case c21_3 =>
  refine kcast (A := ∀ (φ21 : Nat → Nat) (xs21 : Xs) (J3_21 : IM), I19.Le J3_21 → (BoS J3_21 ([] ++ idB i5 ++ evB e5) (.slice ((xs21 2).p 0) (List.length ([] ++ idB i5 ++ evB e5)) ((xs21 2).n 0))) → Fun Try.prog 15 #[.slice ((xs21 2).p 0) (List.length ([] ++ idB i5 ++ evB e5)) ((xs21 2).n 0)] J3_21 (fun v J' => ∃ x : UX, v = .slice (x.p 0) (List.length (pk ([] ++ idB i5 ++ evB e5))) (x.n 0) ∧ (BSl J' (pk ([] ++ idB i5 ++ evB e5)) (.slice (x.p 0) (List.length (pk ([] ++ idB i5 ++ evB e5))) (x.n 0))))) (by kernel_rfl) ?_
  intro φ21 xs21 J3_21 leJ
  rintro h21_2_0
  exact Fun.mono (refBytes_c h21_2_0 (by have l0 := okT.len h5_0; have l1 := okE.len h5_1; (try simp only [List.length_append, putBits_len, List.length_nil]); omega)) (fun v J' _ ⟨y0, y1, hv, g0⟩ => ⟨{ UX.d with p := fun j => y0, n := fun j => y1 }, hv, g0⟩)
 case c21_4 =>
  refine kcast (A := ∀ (φ21 : Nat → Nat) (xs21 : Xs) (J4_21 : IM), I19.Le J4_21 → (BoS J4_21 ([] ++ idB i5 ++ evB e5) (.slice ((xs21 2).p 0) (List.length ([] ++ idB i5 ++ evB e5)) ((xs21 2).n 0))) → (BSl J4_21 (pk ([] ++ idB i5 ++ evB e5)) (.slice ((xs21 3).p 0) (List.length (pk ([] ++ idB i5 ++ evB e5))) ((xs21 3).n 0))) → Fun Try.prog 14 #[.slice a8 (List.length (pk (idB i5 ++ evB e5))) c8, .slice ((xs21 3).p 0) (List.length (pk ([] ++ idB i5 ++ evB e5))) ((xs21 3).n 0)] J4_21 (fun v J' => ∃ x : UX, v = .bool true ∧ (True))) (by kernel_rfl) ?_
  intro φ21 xs21 J4_21 leJ
  rintro h21_2_0 h21_3_0
  have h8_0 := BSl.mono leJ h8_0
  exact Fun.mono (equalT_c h8_0 h21_3_0 (by simp)) (fun v J' _ h => ⟨UX.d, h, trivial⟩)
 case c21_12 =>
  refine kcast (A := ∀ (φ21 : Nat → Nat) (xs21 : Xs) (J12_21 : IM), I19.Le J12_21 → (BoS J12_21 ([] ++ idB i5 ++ evB e5) (.slice ((xs21 2).p 0) (List.length ([] ++ idB i5 ++ evB e5)) ((xs21 2).n 0))) → (BSl J12_21 (pk ([] ++ idB i5 ++ evB e5)) (.slice ((xs21 3).p 0) (List.length (pk ([] ++ idB i5 ++ evB e5))) ((xs21 3).n 0))) → (True) → Fun Try.prog 17 #[.agg #[.bool ib5, .pointer ip5, .int .u64 eb5, .pointer ep5], .agg #[.bool bi11, .pointer pi11, .int .u64 be11, .pointer pe11]] J12_21 (fun v J' => ∃ x : UX, v = .bool true ∧ (True))) (by kernel_rfl) ?_
  intro φ21 xs21 J12_21 leJ
  rintro h21_2_0 h21_3_0 _
  have h5_2 := Ev.TRep.mono leJ h5_2
  have h5_3 := Ev.ERep.mono leJ h5_3
  have h11_0 := Ev.TRep.mono leJ h11_0
  have h11_1 := Ev.ERep.mono leJ h11_1
  exact Fun.mono (stSelf_c h5_2 h11_0 h5_3 h11_1 h5_1) (fun v J' _ h => ⟨UX.d, h, trivial⟩)
 case c21_22 =>
  refine kcast (A := ∀ (φ21 : Nat → Nat) (xs21 : Xs) (J22_21 : IM), I19.Le J22_21 → (BoS J22_21 ([] ++ idB i5 ++ evB e5) (.slice ((xs21 2).p 0) (List.length ([] ++ idB i5 ++ evB e5)) ((xs21 2).n 0))) → (BSl J22_21 (pk ([] ++ idB i5 ++ evB e5)) (.slice ((xs21 3).p 0) (List.length (pk ([] ++ idB i5 ++ evB e5))) ((xs21 3).n 0))) → (True) → (True) → Fun Try.prog 18 #[.agg #[.bool bi15, .pointer pi15], .agg #[.bool ib5, .pointer ip5]] J22_21 (fun v J' => ∃ x : UX, v = .bool true ∧ (True))) (by kernel_rfl) ?_
  intro φ21 xs21 J22_21 leJ
  rintro h21_2_0 h21_3_0 _ _
  have h5_2 := Ev.TRep.mono leJ h5_2
  have h15_0 := Ev.TRep.mono leJ h15_0
  exact Fun.mono (idSelf_c h15_0 h5_2) (fun v J' _ h => ⟨UX.d, h, trivial⟩)
 case c21_32 =>
  refine kcast (A := ∀ (φ21 : Nat → Nat) (xs21 : Xs) (J32_21 : IM), I19.Le J32_21 → (BoS J32_21 ([] ++ idB i5 ++ evB e5) (.slice ((xs21 2).p 0) (List.length ([] ++ idB i5 ++ evB e5)) ((xs21 2).n 0))) → (BSl J32_21 (pk ([] ++ idB i5 ++ evB e5)) (.slice ((xs21 3).p 0) (List.length (pk ([] ++ idB i5 ++ evB e5))) ((xs21 3).n 0))) → (True) → (True) → (True) → Fun Try.prog 19 #[.agg #[.int .u64 be19, .pointer pe19], .agg #[.int .u64 eb5, .pointer ep5]] J32_21 (fun v J' => ∃ x : UX, v = .bool true ∧ (True))) (by kernel_rfl) ?_
  intro φ21 xs21 J32_21 leJ
  rintro h21_2_0 h21_3_0 _ _ _
  have h5_3 := Ev.ERep.mono leJ h5_3
  have h19_0 := Ev.ERep.mono leJ h19_0
  exact Fun.mono (evSelf_c h19_0 h5_3 h5_1) (fun v J' _ h => ⟨UX.d, h, trivial⟩)
 case c21_37 =>
  refine kcast (A := ∀ (φ21 : Nat → Nat) (xs21 : Xs) (J37_21 : IM), I19.Le J37_21 → (BoS J37_21 ([] ++ idB i5 ++ evB e5) (.slice ((xs21 2).p 0) (List.length ([] ++ idB i5 ++ evB e5)) ((xs21 2).n 0))) → (BSl J37_21 (pk ([] ++ idB i5 ++ evB e5)) (.slice ((xs21 3).p 0) (List.length (pk ([] ++ idB i5 ++ evB e5))) ((xs21 3).n 0))) → (True) → (True) → (True) → (True) → Fun Try.prog 11 #[.agg #[.bool ib5, .pointer ip5]] J37_21 (fun v J' => ∃ x : UX, v = .slice (x.p 0) (List.length (pk (idB i5))) (x.n 0) ∧ (BSl J' (pk (idB i5)) (.slice (x.p 0) (List.length (pk (idB i5))) (x.n 0))))) (by kernel_rfl) ?_
  intro φ21 xs21 J37_21 leJ
  rintro h21_2_0 h21_3_0 _ _ _ _
  have h5_2 := Ev.TRep.mono leJ h5_2
  exact Fun.mono (codeID_c h5_2 (by have l1 := okT.len h5_0; omega)) (fun v J' _ ⟨y0, y1, hv, g0⟩ => ⟨{ UX.d with p := fun j => y0, n := fun j => y1 }, hv, g0⟩)
 case c21_40 =>
  refine kcast (A := ∀ (φ21 : Nat → Nat) (xs21 : Xs) (J40_21 : IM), I19.Le J40_21 → (BoS J40_21 ([] ++ idB i5 ++ evB e5) (.slice ((xs21 2).p 0) (List.length ([] ++ idB i5 ++ evB e5)) ((xs21 2).n 0))) → (BSl J40_21 (pk ([] ++ idB i5 ++ evB e5)) (.slice ((xs21 3).p 0) (List.length (pk ([] ++ idB i5 ++ evB e5))) ((xs21 3).n 0))) → (True) → (True) → (True) → (True) → (BSl J40_21 (pk (idB i5)) (.slice ((xs21 37).p 0) (List.length (pk (idB i5))) ((xs21 37).n 0))) → Fun Try.prog 20 #[.slice none 0 0, pB ki5] J40_21 (fun v J' => ∃ x : UX, v = .slice (x.p 0) (List.length ([] ++ idB i5)) (x.n 0) ∧ (BoS J' ([] ++ idB i5) (.slice (x.p 0) (List.length ([] ++ idB i5)) (x.n 0))))) (by kernel_rfl) ?_
  intro φ21 xs21 J40_21 leJ
  rintro h21_2_0 h21_3_0 _ _ _ _ h21_37_0
  have h5_4 := Ev.RT.mono leJ h5_4
  exact Fun.mono (refID_c i5 h5_4 (bos_nil _) (by have l0 := okT.len h5_0; have l1 := okE.len h5_1; (try simp only [List.length_append, putBits_len, List.length_nil]); omega)) (fun v J' _ ⟨y0, y1, hv, g0⟩ => ⟨{ UX.d with p := fun j => y0, n := fun j => y1 }, hv, g0⟩)
 case c21_41 =>
  refine kcast (A := ∀ (φ21 : Nat → Nat) (xs21 : Xs) (J41_21 : IM), I19.Le J41_21 → (BoS J41_21 ([] ++ idB i5 ++ evB e5) (.slice ((xs21 2).p 0) (List.length ([] ++ idB i5 ++ evB e5)) ((xs21 2).n 0))) → (BSl J41_21 (pk ([] ++ idB i5 ++ evB e5)) (.slice ((xs21 3).p 0) (List.length (pk ([] ++ idB i5 ++ evB e5))) ((xs21 3).n 0))) → (True) → (True) → (True) → (True) → (BSl J41_21 (pk (idB i5)) (.slice ((xs21 37).p 0) (List.length (pk (idB i5))) ((xs21 37).n 0))) → (BoS J41_21 ([] ++ idB i5) (.slice ((xs21 40).p 0) (List.length ([] ++ idB i5)) ((xs21 40).n 0))) → Fun Try.prog 15 #[.slice ((xs21 40).p 0) (List.length ([] ++ idB i5)) ((xs21 40).n 0)] J41_21 (fun v J' => ∃ x : UX, v = .slice (x.p 0) (List.length (pk ([] ++ idB i5))) (x.n 0) ∧ (BSl J' (pk ([] ++ idB i5)) (.slice (x.p 0) (List.length (pk ([] ++ idB i5))) (x.n 0))))) (by kernel_rfl) ?_
  intro φ21 xs21 J41_21 leJ
  rintro h21_2_0 h21_3_0 _ _ _ _ h21_37_0 h21_40_0
  exact Fun.mono (refBytes_c h21_40_0 (by have l0 := okT.len h5_0; have l1 := okE.len h5_1; (try simp only [List.length_append, putBits_len, List.length_nil]); omega)) (fun v J' _ ⟨y0, y1, hv, g0⟩ => ⟨{ UX.d with p := fun j => y0, n := fun j => y1 }, hv, g0⟩)
 case c21_42 =>
  refine kcast (A := ∀ (φ21 : Nat → Nat) (xs21 : Xs) (J42_21 : IM), I19.Le J42_21 → (BoS J42_21 ([] ++ idB i5 ++ evB e5) (.slice ((xs21 2).p 0) (List.length ([] ++ idB i5 ++ evB e5)) ((xs21 2).n 0))) → (BSl J42_21 (pk ([] ++ idB i5 ++ evB e5)) (.slice ((xs21 3).p 0) (List.length (pk ([] ++ idB i5 ++ evB e5))) ((xs21 3).n 0))) → (True) → (True) → (True) → (True) → (BSl J42_21 (pk (idB i5)) (.slice ((xs21 37).p 0) (List.length (pk (idB i5))) ((xs21 37).n 0))) → (BoS J42_21 ([] ++ idB i5) (.slice ((xs21 40).p 0) (List.length ([] ++ idB i5)) ((xs21 40).n 0))) → (BSl J42_21 (pk ([] ++ idB i5)) (.slice ((xs21 41).p 0) (List.length (pk ([] ++ idB i5))) ((xs21 41).n 0))) → Fun Try.prog 14 #[.slice ((xs21 37).p 0) (List.length (pk (idB i5))) ((xs21 37).n 0), .slice ((xs21 41).p 0) (List.length (pk ([] ++ idB i5))) ((xs21 41).n 0)] J42_21 (fun v J' => ∃ x : UX, v = .bool true ∧ (True))) (by kernel_rfl) ?_
  intro φ21 xs21 J42_21 leJ
  rintro h21_2_0 h21_3_0 _ _ _ _ h21_37_0 h21_40_0 h21_41_0
  exact Fun.mono (equalT_c h21_37_0 h21_41_0 (by simp)) (fun v J' _ h => ⟨UX.d, h, trivial⟩)
 case c21_47 =>
  refine kcast (A := ∀ (φ21 : Nat → Nat) (xs21 : Xs) (J47_21 : IM), I19.Le J47_21 → (BoS J47_21 ([] ++ idB i5 ++ evB e5) (.slice ((xs21 2).p 0) (List.length ([] ++ idB i5 ++ evB e5)) ((xs21 2).n 0))) → (BSl J47_21 (pk ([] ++ idB i5 ++ evB e5)) (.slice ((xs21 3).p 0) (List.length (pk ([] ++ idB i5 ++ evB e5))) ((xs21 3).n 0))) → (True) → (True) → (True) → (True) → (BSl J47_21 (pk (idB i5)) (.slice ((xs21 37).p 0) (List.length (pk (idB i5))) ((xs21 37).n 0))) → (BoS J47_21 ([] ++ idB i5) (.slice ((xs21 40).p 0) (List.length ([] ++ idB i5)) ((xs21 40).n 0))) → (BSl J47_21 (pk ([] ++ idB i5)) (.slice ((xs21 41).p 0) (List.length (pk ([] ++ idB i5))) ((xs21 41).n 0))) → (True) → Fun Try.prog 13 #[.agg #[.int .u64 eb5, .pointer ep5]] J47_21 (fun v J' => ∃ x : UX, v = .slice (x.p 0) (List.length (pk (evB e5))) (x.n 0) ∧ (BSl J' (pk (evB e5)) (.slice (x.p 0) (List.length (pk (evB e5))) (x.n 0))))) (by kernel_rfl) ?_
  intro φ21 xs21 J47_21 leJ
  rintro h21_2_0 h21_3_0 _ _ _ _ h21_37_0 h21_40_0 h21_41_0 _
  have h5_3 := Ev.ERep.mono leJ h5_3
  exact Fun.mono (codeEvent_c h5_3 (okE.t h5_1) (by have l2 := okE.len h5_1; omega)) (fun v J' _ ⟨y0, y1, hv, g0⟩ => ⟨{ UX.d with p := fun j => y0, n := fun j => y1 }, hv, g0⟩)
 case c21_50 =>
  refine kcast (A := ∀ (φ21 : Nat → Nat) (xs21 : Xs) (J50_21 : IM), I19.Le J50_21 → (BoS J50_21 ([] ++ idB i5 ++ evB e5) (.slice ((xs21 2).p 0) (List.length ([] ++ idB i5 ++ evB e5)) ((xs21 2).n 0))) → (BSl J50_21 (pk ([] ++ idB i5 ++ evB e5)) (.slice ((xs21 3).p 0) (List.length (pk ([] ++ idB i5 ++ evB e5))) ((xs21 3).n 0))) → (True) → (True) → (True) → (True) → (BSl J50_21 (pk (idB i5)) (.slice ((xs21 37).p 0) (List.length (pk (idB i5))) ((xs21 37).n 0))) → (BoS J50_21 ([] ++ idB i5) (.slice ((xs21 40).p 0) (List.length ([] ++ idB i5)) ((xs21 40).n 0))) → (BSl J50_21 (pk ([] ++ idB i5)) (.slice ((xs21 41).p 0) (List.length (pk ([] ++ idB i5))) ((xs21 41).n 0))) → (True) → (BSl J50_21 (pk (evB e5)) (.slice ((xs21 47).p 0) (List.length (pk (evB e5))) ((xs21 47).n 0))) → Fun Try.prog 21 #[.slice none 0 0, pB ke5] J50_21 (fun v J' => ∃ x : UX, v = .slice (x.p 0) (List.length ([] ++ evB e5)) (x.n 0) ∧ (BoS J' ([] ++ evB e5) (.slice (x.p 0) (List.length ([] ++ evB e5)) (x.n 0))))) (by kernel_rfl) ?_
  intro φ21 xs21 J50_21 leJ
  rintro h21_2_0 h21_3_0 _ _ _ _ h21_37_0 h21_40_0 h21_41_0 _ h21_47_0
  have h5_5 := Ev.RE.mono leJ h5_5
  exact Fun.mono (refEvent_c e5 h5_5 h5_1.1 (okE.t h5_1) (bos_nil _) (by have l0 := okT.len h5_0; have l1 := okE.len h5_1; (try simp only [List.length_append, putBits_len, List.length_nil]); omega)) (fun v J' _ ⟨y0, y1, hv, g0⟩ => ⟨{ UX.d with p := fun j => y0, n := fun j => y1 }, hv, g0⟩)
 case c21_51 =>
  refine kcast (A := ∀ (φ21 : Nat → Nat) (xs21 : Xs) (J51_21 : IM), I19.Le J51_21 → (BoS J51_21 ([] ++ idB i5 ++ evB e5) (.slice ((xs21 2).p 0) (List.length ([] ++ idB i5 ++ evB e5)) ((xs21 2).n 0))) → (BSl J51_21 (pk ([] ++ idB i5 ++ evB e5)) (.slice ((xs21 3).p 0) (List.length (pk ([] ++ idB i5 ++ evB e5))) ((xs21 3).n 0))) → (True) → (True) → (True) → (True) → (BSl J51_21 (pk (idB i5)) (.slice ((xs21 37).p 0) (List.length (pk (idB i5))) ((xs21 37).n 0))) → (BoS J51_21 ([] ++ idB i5) (.slice ((xs21 40).p 0) (List.length ([] ++ idB i5)) ((xs21 40).n 0))) → (BSl J51_21 (pk ([] ++ idB i5)) (.slice ((xs21 41).p 0) (List.length (pk ([] ++ idB i5))) ((xs21 41).n 0))) → (True) → (BSl J51_21 (pk (evB e5)) (.slice ((xs21 47).p 0) (List.length (pk (evB e5))) ((xs21 47).n 0))) → (BoS J51_21 ([] ++ evB e5) (.slice ((xs21 50).p 0) (List.length ([] ++ evB e5)) ((xs21 50).n 0))) → Fun Try.prog 15 #[.slice ((xs21 50).p 0) (List.length ([] ++ evB e5)) ((xs21 50).n 0)] J51_21 (fun v J' => ∃ x : UX, v = .slice (x.p 0) (List.length (pk ([] ++ evB e5))) (x.n 0) ∧ (BSl J' (pk ([] ++ evB e5)) (.slice (x.p 0) (List.length (pk ([] ++ evB e5))) (x.n 0))))) (by kernel_rfl) ?_
  intro φ21 xs21 J51_21 leJ
  rintro h21_2_0 h21_3_0 _ _ _ _ h21_37_0 h21_40_0 h21_41_0 _ h21_47_0 h21_50_0
  exact Fun.mono (refBytes_c h21_50_0 (by have l0 := okT.len h5_0; have l1 := okE.len h5_1; (try simp only [List.length_append, putBits_len, List.length_nil]); omega)) (fun v J' _ ⟨y0, y1, hv, g0⟩ => ⟨{ UX.d with p := fun j => y0, n := fun j => y1 }, hv, g0⟩)
 case c21_52 =>
  refine kcast (A := ∀ (φ21 : Nat → Nat) (xs21 : Xs) (J52_21 : IM), I19.Le J52_21 → (BoS J52_21 ([] ++ idB i5 ++ evB e5) (.slice ((xs21 2).p 0) (List.length ([] ++ idB i5 ++ evB e5)) ((xs21 2).n 0))) → (BSl J52_21 (pk ([] ++ idB i5 ++ evB e5)) (.slice ((xs21 3).p 0) (List.length (pk ([] ++ idB i5 ++ evB e5))) ((xs21 3).n 0))) → (True) → (True) → (True) → (True) → (BSl J52_21 (pk (idB i5)) (.slice ((xs21 37).p 0) (List.length (pk (idB i5))) ((xs21 37).n 0))) → (BoS J52_21 ([] ++ idB i5) (.slice ((xs21 40).p 0) (List.length ([] ++ idB i5)) ((xs21 40).n 0))) → (BSl J52_21 (pk ([] ++ idB i5)) (.slice ((xs21 41).p 0) (List.length (pk ([] ++ idB i5))) ((xs21 41).n 0))) → (True) → (BSl J52_21 (pk (evB e5)) (.slice ((xs21 47).p 0) (List.length (pk (evB e5))) ((xs21 47).n 0))) → (BoS J52_21 ([] ++ evB e5) (.slice ((xs21 50).p 0) (List.length ([] ++ evB e5)) ((xs21 50).n 0))) → (BSl J52_21 (pk ([] ++ evB e5)) (.slice ((xs21 51).p 0) (List.length (pk ([] ++ evB e5))) ((xs21 51).n 0))) → Fun Try.prog 14 #[.slice ((xs21 47).p 0) (List.length (pk (evB e5))) ((xs21 47).n 0), .slice ((xs21 51).p 0) (List.length (pk ([] ++ evB e5))) ((xs21 51).n 0)] J52_21 (fun v J' => ∃ x : UX, v = .bool true ∧ (True))) (by kernel_rfl) ?_
  intro φ21 xs21 J52_21 leJ
  rintro h21_2_0 h21_3_0 _ _ _ _ h21_37_0 h21_40_0 h21_41_0 _ h21_47_0 h21_50_0 h21_51_0
  exact Fun.mono (equalT_c h21_47_0 h21_51_0 (by simp)) (fun v J' _ h => ⟨UX.d, h, trivial⟩)
 case k21 =>
  rintro φ21 xs21 I21 w21 le21 s h21_2_0 h21_3_0 _ _ _ _ h21_37_0 h21_40_0 h21_41_0 _ h21_47_0 h21_50_0 h21_51_0 _
  refine wp_ret ?_
  refine ret_rule (C := []) [(φ6 0, .cells #[.bool ib5, .pointer ip5, .int .u64 eb5, .pointer ep5] 32), (φ6 1, .cells #[pB ki5, pB ke5] 36), (φ12 0, .cells #[.bool bi11, .pointer pi11, .int .u64 be11, .pointer pe11] 32), (φ16 0, .cells #[.bool bi15, .pointer pi15] 26), (φ20 0, .cells #[.int .u64 be19, .pointer pe19] 30)] [] (.bool true) [] [] s trivial (by kernel_rfl) ?_
  exact ⟨_, _, _, rfl, s, rfl⟩

end Go.Proofs.Ytgmigcmhnmmdkaa
