/- own, made of layer 2; joined in any order. -/
import Derived.Test.YtgdickihjaomjaaDoorElP29
set_option linter.all false
set_option maxRecDepth 100000
namespace Go.Proofs.YtgdickihjaomjaaDoor
open Go.RowKit Go.Sep
attribute [local irreducible] Go.wpList Go.Code.wp
theorem joinOE_c {I : IM} {C D : E} {bc bd : Nat} {pc pd : Option Addr} (hC : ERep I C bc pc) (hD : ERep I D bd pd) (oC : C.ok) (oD : D.ok) : Fun Tryd.prog 28 #[evv bc pc, evv bd pd] I (fun v J => ∃ b p, v = evv b p ∧ ERep J (joinF 64 C D) b p) := by
  obtain ⟨c1, c2, c3⟩ := oC
  obtain ⟨d1, d2, d3⟩ := oD
  exact joinF_c 64 (by omega) (by omega) (by omega) (by omega) (by omega) hC hD
theorem leqOE_c {I : IM} {C D : E} {bc bd : Nat} {pc pd : Option Addr} (hC : ERep I C bc pc) (hD : ERep I D bd pd) (oC : C.ok) (oD : D.ok) : Fun Tryd.prog 29 #[evv bc pc, evv bd pd] I (fun v J => v = .bool (leqF 64 C D)) := by
  obtain ⟨c1, c2, c3⟩ := oC
  obtain ⟨d1, d2, d3⟩ := oD
  exact leqF_c 64 (by omega) (by omega) (by omega) hC hD
theorem leq_at {C D : E} (oC : C.ok) (oD : D.ok) : leqF 64 C D = true ↔ ∀ k, k < 2 ^ 16 → hAt 16 C k ≤ hAt 16 D k := by
  obtain ⟨c1, c2, c3⟩ := oC
  obtain ⟨d1, d2, d3⟩ := oD
  exact leq_iff 64 16 C D c1 d1 (by omega) (by omega) (by omega) (by omega)
theorem leqTE_c {I : IM} {C D : E} {bc bd : Nat} {pc pd : Option Addr} (hC : ERep I C bc pc) (hD : ERep I D bd pd) (oC : C.ok) (oD : D.ok) (h : ∀ k, k < 2 ^ 16 → hAt 16 C k ≤ hAt 16 D k) : Fun Tryd.prog 29 #[evv bc pc, evv bd pd] I (fun v J => v = .bool true) :=
  (leqOE_c hC hD oC oD).mono fun v J _ hv => by rw [hv, (leq_at oC oD).2 h]

set_option maxHeartbeats 2000000 in
theorem ownE_step {I : IM} {e : E} {k : Nat} (h : RE I e k) (hnf : e.nf) (ht : e.top ≤ 1048576) (hd : e.depth ≤ 16) (ih : ∀ n l r, e = .node n l r → (∀ {J : IM} {k : Nat}, RE J l k → Fun Tryd.prog 69 #[.pointer (some ⟨k, 0, none⟩)] J (fun v J => ∃ b p, v = evv b p ∧ ERep J l b p)) ∧ (∀ {J : IM} {k : Nat}, RE J r k → Fun Tryd.prog 69 #[.pointer (some ⟨k, 0, none⟩)] J (fun v J => ∃ b p, v = evv b p ∧ ERep J r b p))) : Fun Tryd.prog 69 #[.pointer (some ⟨k, 0, none⟩)] I (fun v J => ∃ b p, v = evv b p ∧ ERep J e b p) := by
  cases e with
  | leaf n =>
    have h0 : RE _ (E.leaf n) k := h
    refine enter_rule 40 [(0, .pointer (some ⟨k, 0, none⟩))] Tryd.func69 rfl (by kernel_rfl) ?_
    intro w s
    refine wp_seq ?_
    refine region_rule ?_
    refine ops_rule (C := []) [] [] 1 [] 1 (fun φ1 => [(2, .pointer (some ⟨(φ1 0), 0, none⟩))]) (fun φ1 => [((φ1 0), .cells #[.int .u64 0, .pointer none] 27)]) (fun φ1 => []) s trivial (fun φ1 => by kernel_rfl) ?_
    intro φ1 w1 s
    refine ops_done (by kernel_rfl) ?_
    refine wp_seq ?_
    refine wp_seq ?_
    refine region_rule ?_
    refine ops_rule (C := [(k, .cells #[.int .u64 ((n : Nat) : Int), .pointer none, .pointer none] 112)]) [((φ1 0), .cells #[.int .u64 0, .pointer none] 27)] [] 5 [.c 0] 0 (fun φ2 => [(11, .bool true), (10, .pointer none), (9, .pointer (some ⟨k, 1, none⟩)), (8, .pointer (some ⟨k, 0, none⟩)), (7, .pointer (some ⟨k, 0, none⟩))]) (fun φ2 => [((φ1 0), .cells #[.int .u64 0, .pointer none] 27)]) (fun φ2 => [k]) s ⟨h, trivial⟩ (fun φ2 => by kernel_rfl) ?_
    intro φ2 w2 s
    refine ops_done (by kernel_rfl) ?_
    refine cond_true_rule (b := true) (by kernel_rfl) rfl ?_
    refine wp_seq ?_
    refine region_rule ?_
    refine ops_rule (C := [(k, .cells #[.int .u64 ((n : Nat) : Int), .pointer none, .pointer none] 112)]) [((φ1 0), .cells #[.int .u64 0, .pointer none] 27)] [] 4 [.c 0] 0 (fun φ3 => [(16, .int .u64 ((n : Nat) : Int)), (15, .pointer (some ⟨k, 0, none⟩)), (14, .pointer (some ⟨k, 0, none⟩)), (13, .pointer (some ⟨k, 0, none⟩))]) (fun φ3 => [((φ1 0), .cells #[.int .u64 0, .pointer none] 27)]) (fun φ3 => [k]) s ⟨h, trivial⟩ (fun φ3 => by kernel_rfl) ?_
    intro φ3 w3 s
    refine call_rule (some 17) s (leafOk_c (n := n) (by exact ht)) (by kernel_rfl) ?_
    intro v4 I4 w4 le4 h4 s
    replace h0 := RE.mono le4 h0
    replace h := le4 _ _ h
    obtain rfl := h4
    refine ops_rule (C := []) [((φ1 0), .cells #[.int .u64 0, .pointer none] 27)] [] 6 [.o 1, .o 1] 1 (fun φ5 => [(4, .int .i64 0), (3, .pointer (some ⟨(φ5 0), 0, none⟩)), (19, .int .i64 0), (18, .agg #[.int .u64 ((n : Nat) : Int), .pointer none]), (12, .tuple #[.agg #[.int .u64 ((n : Nat) : Int), .pointer none], .int .i64 0])]) (fun φ5 => [((φ1 0), .cells #[.int .u64 0, .pointer none] 27), ((φ5 0), .cells #[.int .u64 ((n : Nat) : Int), .pointer none] 27)]) (fun φ5 => [(φ5 0), (φ5 0)]) s trivial (fun φ5 => by kernel_rfl) ?_
    intro φ5 w5 s
    refine ops_done (by kernel_rfl) ?_
    refine wp_seq ?_
    refine region_rule ?_
    refine ops_rule (C := []) [((φ1 0), .cells #[.int .u64 0, .pointer none] 27), ((φ5 0), .cells #[.int .u64 ((n : Nat) : Int), .pointer none] 27)] [] 2 [.o 1, .o 1, .o 0, .o 0] 0 (fun φ6 => [(20, .agg #[.int .u64 ((n : Nat) : Int), .pointer none])]) (fun φ6 => [((φ1 0), .cells #[.int .u64 ((n : Nat) : Int), .pointer none] 27), ((φ5 0), .cells #[.int .u64 ((n : Nat) : Int), .pointer none] 27)]) (fun φ6 => [(φ5 0), (φ5 0), (φ1 0), (φ1 0)]) s trivial (fun φ6 => by kernel_rfl) ?_
    intro φ6 w6 s
    refine ops_done (by kernel_rfl) ?_
    refine wp_ret ?_
    refine ret_rule (C := []) [((φ1 0), .cells #[.int .u64 ((n : Nat) : Int), .pointer none] 27), ((φ5 0), .cells #[.int .u64 ((n : Nat) : Int), .pointer none] 27)] [] (.agg #[.int .u64 ((n : Nat) : Int), .pointer none]) [.o 0, .o 0] [(φ1 0), (φ1 0)] s trivial (by kernel_rfl) ?_
    exact ⟨_, _, _, rfl, s, ⟨_, _, rfl, rfl, rfl⟩⟩
  | node n l r =>
    have h0 : RE _ (E.node n l r) k := h
    obtain ⟨kl, kr, hk, hl, hr⟩ := h
    obtain ⟨ihl, ihr⟩ := ih n l r rfl
    clear ih
    refine enter_rule 40 [(0, .pointer (some ⟨k, 0, none⟩))] Tryd.func69 rfl (by kernel_rfl) ?_
    intro w s
    refine wp_seq ?_
    refine region_rule ?_
    refine ops_rule (C := []) [] [] 1 [] 1 (fun φ1 => [(2, .pointer (some ⟨(φ1 0), 0, none⟩))]) (fun φ1 => [((φ1 0), .cells #[.int .u64 0, .pointer none] 27)]) (fun φ1 => []) s trivial (fun φ1 => by kernel_rfl) ?_
    intro φ1 w1 s
    refine ops_done (by kernel_rfl) ?_
    refine wp_seq ?_
    refine wp_seq ?_
    refine region_rule ?_
    refine ops_rule (C := [(k, .cells #[.int .u64 ((n : Nat) : Int), .pointer (some ⟨kl, 0, none⟩), .pointer (some ⟨kr, 0, none⟩)] 112)]) [((φ1 0), .cells #[.int .u64 0, .pointer none] 27)] [] 5 [.c 0] 0 (fun φ2 => [(11, .bool false), (10, .pointer (some ⟨kl, 0, none⟩)), (9, .pointer (some ⟨k, 1, none⟩)), (8, .pointer (some ⟨k, 0, none⟩)), (7, .pointer (some ⟨k, 0, none⟩))]) (fun φ2 => [((φ1 0), .cells #[.int .u64 0, .pointer none] 27)]) (fun φ2 => [k]) s ⟨hk, trivial⟩ (fun φ2 => by kernel_rfl) ?_
    intro φ2 w2 s
    refine ops_done (by kernel_rfl) ?_
    refine cond_false_rule (b := false) (by kernel_rfl) rfl ?_
    refine wp_skip ?_
    refine wp_seq ?_
    refine draw_rule (C := [(k, .cells #[.int .u64 ((n : Nat) : Int), .pointer (some ⟨kl, 0, none⟩), .pointer (some ⟨kr, 0, none⟩)] 112)]) ⟨(fun φ3 xs3 => [.look 0 [] [], .look 0 [] [], .look 0 [] [], .look 0 [.c 0] [k], .look 0 [] [], .look 0 [] [], .look 0 [] [], .look 0 [.c 0] [k], .call 69 #[.pointer (some ⟨kl, 0, none⟩)], .look 0 [] [], .look 0 [] [], .look 0 [] [], .look 0 [.c 0] [k], .call 69 #[.pointer (some ⟨kr, 0, none⟩)], .call 18 #[.int .u64 ((n : Nat) : Int), .agg #[.int .u64 (((xs3 8).n 0 : Nat) : Int), .pointer ((xs3 8).p 0)], .agg #[.int .u64 (((xs3 13).n 0 : Nat) : Int), .pointer ((xs3 13).p 0)]], .look 0 [] [], .look 0 [] [], .look 0 [] [], .new, .store 0 [.o 1, .o 1] [(φ3 18), (φ3 18)], .look 1 [] []]), (fun φ3 xs3 => [.pointer (some ⟨k, 0, none⟩), .pointer (some ⟨k, 0, none⟩), .pointer (some ⟨k, 0, none⟩), .int .u64 ((n : Nat) : Int), .pointer (some ⟨k, 0, none⟩), .pointer (some ⟨k, 0, none⟩), .pointer (some ⟨k, 1, none⟩), .pointer (some ⟨kl, 0, none⟩), .agg #[.int .u64 (((xs3 8).n 0 : Nat) : Int), .pointer ((xs3 8).p 0)], .pointer (some ⟨k, 0, none⟩), .pointer (some ⟨k, 0, none⟩), .pointer (some ⟨k, 2, none⟩), .pointer (some ⟨kr, 0, none⟩), .agg #[.int .u64 (((xs3 13).n 0 : Nat) : Int), .pointer ((xs3 13).p 0)], .tuple #[.agg #[.int .u64 (((xs3 14).n 0 : Nat) : Int), .pointer ((xs3 14).p 0)], .int .i64 0], .tuple #[.agg #[.int .u64 (((xs3 14).n 0 : Nat) : Int), .pointer ((xs3 14).p 0)], .int .i64 0], .agg #[.int .u64 (((xs3 14).n 0 : Nat) : Int), .pointer ((xs3 14).p 0)], .int .i64 0, .pointer (some ⟨(φ3 18), 0, none⟩), undef, .int .i64 0]), (fun φ3 xs3 => [[((φ1 0), .cells #[.int .u64 0, .pointer none] 27)], [((φ1 0), .cells #[.int .u64 0, .pointer none] 27)]]), (fun φ3 xs3 => [[default, default, default, default, default, default, default, default, default, default, default, default, default, default, default, default, default, default, .cells #[.int .u64 0, .pointer none] 27, default, default], [default, default, default, default, default, default, default, default, default, default, default, default, default, default, default, default, default, default, .cells #[.int .u64 (((xs3 14).n 0 : Nat) : Int), .pointer ((xs3 14).p 0)] 27, default, default]]), [19], [1, 1, 1, 1, 1, 1, 1, 1, 3, 1, 1, 1, 1, 3, 3, 1, 1, 1, 2, 4, 1]⟩ (fun j => ([MP.any, MP.any, MP.any, MP.any, MP.any, MP.any, MP.any, MP.any, ⟨fun x J => ERep J l (x.n 0) (x.p 0), fun le h => ERep.mono le h⟩, MP.any, MP.any, MP.any, MP.any, ⟨fun x J => ERep J r (x.n 0) (x.p 0), fun le h => ERep.mono le h⟩, ⟨fun x J => ERep J (E.node n l r) (x.n 0) (x.p 0), fun le h => ERep.mono le h⟩, MP.any, MP.any, MP.any, MP.any, MP.any, MP.any] : List MP).getD j MP.any) [8, 13, 14] [] [] (fun φ3 xs3 => [[none, none, none, none, none, none, none, none, none, none, none, none, none, none, none, none, none, none, none, none, none]]) (fun φ3 xs3 => [(22, .pointer (some ⟨k, 0, none⟩)), (23, .pointer (some ⟨k, 0, none⟩)), (24, .pointer (some ⟨k, 0, none⟩)), (25, .int .u64 ((n : Nat) : Int)), (26, .pointer (some ⟨k, 0, none⟩)), (27, .pointer (some ⟨k, 0, none⟩)), (28, .pointer (some ⟨k, 1, none⟩)), (29, .pointer (some ⟨kl, 0, none⟩)), (30, .agg #[.int .u64 (((xs3 8).n 0 : Nat) : Int), .pointer ((xs3 8).p 0)]), (31, .pointer (some ⟨k, 0, none⟩)), (32, .pointer (some ⟨k, 0, none⟩)), (33, .pointer (some ⟨k, 2, none⟩)), (34, .pointer (some ⟨kr, 0, none⟩)), (35, .agg #[.int .u64 (((xs3 13).n 0 : Nat) : Int), .pointer ((xs3 13).p 0)]), (36, .tuple #[.agg #[.int .u64 (((xs3 14).n 0 : Nat) : Int), .pointer ((xs3 14).p 0)], .int .i64 0]), (21, .tuple #[.agg #[.int .u64 (((xs3 14).n 0 : Nat) : Int), .pointer ((xs3 14).p 0)], .int .i64 0]), (37, .agg #[.int .u64 (((xs3 14).n 0 : Nat) : Int), .pointer ((xs3 14).p 0)]), (38, .int .i64 0), (5, .pointer (some ⟨(φ3 18), 0, none⟩)), (6, .int .i64 0)]) (fun φ3 xs3 => [((φ1 0), .cells #[.int .u64 0, .pointer none] 27), ((φ3 18), .cells #[.int .u64 (((xs3 14).n 0 : Nat) : Int), .pointer ((xs3 14).p 0)] 27)]) s ⟨hk, trivial⟩ (by kernel_rfl) (by kernel_rfl) (fun _ _ => by kernel_rfl) (fun _ _ => by kernel_rfl) ⟨fun _ _ => by kernel_rfl, fun _ _ => by kernel_rfl, fun _ _ => by kernel_rfl, fun _ _ => by kernel_rfl⟩ (fun _ _ _ => by kernel_rfl) (fun _ _ => by kernel_rfl) (fun _ _ => by kernel_rfl) (fun _ _ => by kernel_rfl) (fun _ _ => by kernel_rfl) (fun _ _ => by kernel_rfl) trivial trivial (by kernel_rfl) ⟨?c3_8, ?c3_13, ?c3_14, trivial⟩ ?k3
    case c3_8 =>
      refine kcast (A := ∀ (φ3 : Nat → Nat) (xs3 : Xs) (J8_3 : IM), I.Le J8_3 → Fun Tryd.prog 69 #[.pointer (some ⟨kl, 0, none⟩)] J8_3 (fun v J' => ∃ x : UX, v = .agg #[.int .u64 ((x.n 0 : Nat) : Int), .pointer (x.p 0)] ∧ (ERep J' l (x.n 0) (x.p 0)))) (by kernel_rfl) ?_
      intro φ3 xs3 J8_3 leJ
      have hl := RE.mono leJ hl
      exact Fun.mono (ihl hl) (fun v J' _ ⟨y0, y1, hv, g0⟩ => ⟨{ UX.d with n := fun j => y0, p := fun j => y1 }, hv, g0⟩)
    case c3_13 =>
      refine kcast (A := ∀ (φ3 : Nat → Nat) (xs3 : Xs) (J13_3 : IM), I.Le J13_3 → (ERep J13_3 l ((xs3 8).n 0) ((xs3 8).p 0)) → Fun Tryd.prog 69 #[.pointer (some ⟨kr, 0, none⟩)] J13_3 (fun v J' => ∃ x : UX, v = .agg #[.int .u64 ((x.n 0 : Nat) : Int), .pointer (x.p 0)] ∧ (ERep J' r (x.n 0) (x.p 0)))) (by kernel_rfl) ?_
      intro φ3 xs3 J13_3 leJ
      rintro h3_8_0
      have hr := RE.mono leJ hr
      exact Fun.mono (ihr hr) (fun v J' _ ⟨y0, y1, hv, g0⟩ => ⟨{ UX.d with n := fun j => y0, p := fun j => y1 }, hv, g0⟩)
    case c3_14 =>
      refine kcast (A := ∀ (φ3 : Nat → Nat) (xs3 : Xs) (J14_3 : IM), I.Le J14_3 → (ERep J14_3 l ((xs3 8).n 0) ((xs3 8).p 0)) → (ERep J14_3 r ((xs3 13).n 0) ((xs3 13).p 0)) → Fun Tryd.prog 18 #[.int .u64 ((n : Nat) : Int), .agg #[.int .u64 (((xs3 8).n 0 : Nat) : Int), .pointer ((xs3 8).p 0)], .agg #[.int .u64 (((xs3 13).n 0 : Nat) : Int), .pointer ((xs3 13).p 0)]] J14_3 (fun v J' => ∃ x : UX, v = .tuple #[.agg #[.int .u64 ((x.n 0 : Nat) : Int), .pointer (x.p 0)], .int .i64 0] ∧ (ERep J' (E.node n l r) (x.n 0) (x.p 0)))) (by kernel_rfl) ?_
      intro φ3 xs3 J14_3 leJ
      rintro h3_8_0 h3_13_0
      exact Fun.mono (nodeOk9_c (n := n) hnf.2.2 ht hd h3_8_0 h3_13_0) (fun v J' _ ⟨y0, y1, hv, g0⟩ => ⟨{ UX.d with n := fun j => y0, p := fun j => y1 }, hv, g0⟩)
    case k3 =>
      rintro φ3 xs3 I3 w3 le3 s h3_8_0 h3_13_0 h3_14_0
      replace hl := RE.mono le3 hl
      replace hr := RE.mono le3 hr
      replace h0 := RE.mono le3 h0
      replace hk := le3 _ _ hk
      refine wp_seq ?_
      refine region_rule ?_
      refine ops_rule (C := []) [((φ1 0), .cells #[.int .u64 0, .pointer none] 27), ((φ3 18), .cells #[.int .u64 (((xs3 14).n 0 : Nat) : Int), .pointer ((xs3 14).p 0)] 27)] [] 2 [.o 1, .o 1, .o 0, .o 0] 0 (fun φ4 => [(39, .agg #[.int .u64 (((xs3 14).n 0 : Nat) : Int), .pointer ((xs3 14).p 0)])]) (fun φ4 => [((φ1 0), .cells #[.int .u64 (((xs3 14).n 0 : Nat) : Int), .pointer ((xs3 14).p 0)] 27), ((φ3 18), .cells #[.int .u64 (((xs3 14).n 0 : Nat) : Int), .pointer ((xs3 14).p 0)] 27)]) (fun φ4 => [(φ3 18), (φ3 18), (φ1 0), (φ1 0)]) s trivial (fun φ4 => by kernel_rfl) ?_
      intro φ4 w4 s
      refine ops_done (by kernel_rfl) ?_
      refine wp_ret ?_
      refine ret_rule (C := []) [((φ1 0), .cells #[.int .u64 (((xs3 14).n 0 : Nat) : Int), .pointer ((xs3 14).p 0)] 27), ((φ3 18), .cells #[.int .u64 (((xs3 14).n 0 : Nat) : Int), .pointer ((xs3 14).p 0)] 27)] [] (.agg #[.int .u64 (((xs3 14).n 0 : Nat) : Int), .pointer ((xs3 14).p 0)]) [.o 0, .o 0] [(φ1 0), (φ1 0)] s trivial (by kernel_rfl) ?_
      exact ⟨_, _, _, rfl, s, ⟨_, _, rfl, h3_14_0⟩⟩

theorem ownE_c : ∀ (e : E) {I : IM} {k : Nat}, e.nf → e.top ≤ 1048576 → e.depth ≤ 16 → RE I e k → Fun Tryd.prog 69 #[.pointer (some ⟨k, 0, none⟩)] I (fun v J => ∃ b p, v = evv b p ∧ ERep J e b p)
  | .leaf n, _, _, hn, ht, hd, h => ownE_step h hn ht hd (fun n l r h => by cases h)
  | .node n l r, _, _, hn, ht, hd, h => ownE_step h hn ht hd (fun n' l' r' e => by
      cases e
      have ht1 : n + max l.top r.top ≤ 1048576 := ht
      have hd1 : 1 + max l.depth r.depth ≤ 16 := hd
      exact ⟨fun {J} {k} a => ownE_c l hn.1 (by omega) (by omega) a, fun {J} {k} a => ownE_c r hn.2.1 (by omega) (by omega) a⟩)

set_option maxHeartbeats 2000000 in
theorem madeE_c {I : IM} {p : List UInt8} {vp : Value} (hp : BSl I p vp) : Fun Tryd.prog 17 #[vp] I (fun v J => ∃ b q k e, v = .tuple #[evv b q, .pointer (some ⟨k, 0, none⟩)] ∧ (e.nf ∧ e.depth ≤ 6 ∧ e.top ≤ 7 + 3 * 6) ∧ ERep J e b q ∧ RE J e k) := by
  have hp' := hp
  obtain ⟨pa, pc, rfl, hpc, -⟩ := hp
  have hp60 := bsl_take hp'
  clear hp'
  refine enter_rule 18 [(0, .slice pa p.length pc)] Tryd.func17 rfl (by kernel_rfl) ?_
  intro w s
  refine wp_seq ?_
  refine region_rule ?_
  refine ops_rule (C := []) [] [] 2 [] 1 (fun φ1 => [(3, .pointer none), (2, .pointer (some ⟨(φ1 0), 0, none⟩))]) (fun φ1 => [((φ1 0), .cells #[.int .u64 0, .pointer none] 27)]) (fun φ1 => []) s trivial (fun φ1 => by kernel_rfl) ?_
  intro φ1 w1 s
  refine ops_done (by kernel_rfl) ?_
  refine wp_seq ?_
  refine region_rule ?_
  refine ops_rule (C := []) [((φ1 0), .cells #[.int .u64 0, .pointer none] 27)] [] 4 [] 0 (fun φ2 => [(10, .int .i64 (if ((60 : Nat) : Int) < ((p.length : Nat) : Int) then ((60 : Nat) : Int) else ((p.length : Nat) : Int))), (9, .int .i64 ((p.length : Nat) : Int)), (8, .slice pa p.length pc), (7, .slice pa p.length pc)]) (fun φ2 => [((φ1 0), .cells #[.int .u64 0, .pointer none] 27)]) (fun φ2 => []) s trivial (fun φ2 => by kernel_rfl) ?_
  intro φ2 w2 s
  rw [nat_min (a := p.length) (b := 60)]
  refine sem_rule (Instr.sliceAt 22 (.slice pa p.length pc) none (some (.int .i64 ((min p.length 60 : Nat) : Int))) none) (some 11) (.slice pa (min p.length 60) pc) (by kernel_rfl) (run_to (by have := hpc; omega)) ?_
  refine call_rule (some 12) s (makeE_c 6 (by omega) hp60) (by kernel_rfl) ?_
  intro v3 I3 w3 le3 h3 s
  replace hp60 := BSl.mono le3 hp60
  obtain ⟨k3, v3, t3, l3, rfl, h3_0, h3_1, h3_2⟩ := h3
  refine ops_rule (C := []) [((φ1 0), .cells #[.int .u64 0, .pointer none] 27)] [] 5 [] 0 (fun φ4 => [(5, v3), (4, .pointer (some ⟨k3, 0, none⟩)), (14, v3), (13, .pointer (some ⟨k3, 0, none⟩)), (6, .tuple #[.pointer (some ⟨k3, 0, none⟩), v3])]) (fun φ4 => [((φ1 0), .cells #[.int .u64 0, .pointer none] 27)]) (fun φ4 => []) s trivial (fun φ4 => by kernel_rfl) ?_
  intro φ4 w4 s
  refine ops_done (by kernel_rfl) ?_
  refine wp_seq ?_
  refine region_rule ?_
  refine ops_rule (C := []) [((φ1 0), .cells #[.int .u64 0, .pointer none] 27)] [] 1 [] 0 (fun φ5 => [(15, .pointer (some ⟨k3, 0, none⟩))]) (fun φ5 => [((φ1 0), .cells #[.int .u64 0, .pointer none] 27)]) (fun φ5 => []) s trivial (fun φ5 => by kernel_rfl) ?_
  intro φ5 w5 s
  refine call_rule (some 16) s (ownE_c t3 h3_0.1 (by have := h3_0.2.2; omega) (by have := h3_0.2.1; omega) h3_1) (by kernel_rfl) ?_
  intro v6 I6 w6 le6 h6 s
  replace hp60 := BSl.mono le6 hp60
  replace h3_1 := RE.mono le6 h3_1
  replace h3_2 := BSl.mono le6 h3_2
  obtain ⟨b6, p6, rfl, h6_0⟩ := h6
  refine ops_rule (C := []) [((φ1 0), .cells #[.int .u64 0, .pointer none] 27)] [] 3 [.o 0, .o 0] 0 (fun φ7 => [(3, .pointer (some ⟨k3, 0, none⟩)), (17, .pointer (some ⟨k3, 0, none⟩))]) (fun φ7 => [((φ1 0), .cells #[.int .u64 ((b6 : Nat) : Int), .pointer p6] 27)]) (fun φ7 => [(φ1 0), (φ1 0)]) s trivial (fun φ7 => by kernel_rfl) ?_
  intro φ7 w7 s
  refine ops_done (by kernel_rfl) ?_
  refine wp_ret ?_
  refine ret_rule (C := []) [((φ1 0), .cells #[.int .u64 ((b6 : Nat) : Int), .pointer p6] 27)] [] (.tuple #[.agg #[.int .u64 ((b6 : Nat) : Int), .pointer p6], .pointer (some ⟨k3, 0, none⟩)]) [.o 0, .o 0] [(φ1 0), (φ1 0)] s trivial (by kernel_rfl) ?_
  exact ⟨_, _, _, rfl, s, ⟨_, _, _, t3, rfl, h3_0, h6_0, h3_1⟩⟩

end Go.Proofs.YtgdickihjaomjaaDoor
