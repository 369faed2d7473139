/- own, made of layer 2; joined in any order. -/
import Derived.Test.YtgdickihjaomjaaDoorEjP29
set_option linter.all false
set_option maxRecDepth 100000
namespace Go.Proofs.YtgdickihjaomjaaDoor
open Go.RowKit Go.Sep
attribute [local irreducible] Go.wpList Go.Code.wp
theorem joinOE_c {I : IM} {C D : E} {bc bd : Nat} {pc pd : Option Addr} (hC : ERep I C bc pc) (hD : ERep I D bd pd) (oC : C.ok) (oD : D.ok) : Fun Tryd.prog 28 #[evv bc pc, evv bd pd] I (fun v J => ∃ b p, v = evv b p ∧ ERep J (joinF 64 C D) b p) := by
  obtain ⟨c1, c2, c3⟩ := oC
  obtain ⟨d1, d2, d3⟩ := oD
  exact joinF_c 64 (by omega) (by omega) (by omega) (by omega) (by omega) hC hD
theorem sameOE_c {I : IM} {C D : E} {bc bd : Nat} {pc pd : Option Addr} (hC : ERep I C bc pc) (hD : ERep I D bd pd) (oC : C.ok) (oD : D.ok) (h : ∀ k, hAt 16 C k = hAt 16 D k) : Fun Tryd.prog 30 #[evv bc pc, evv bd pd] I (fun v J => v = .bool true) := by
  obtain ⟨c1, c2, c3⟩ := oC
  obtain ⟨d1, d2, d3⟩ := oD
  refine (same_c hC hD (by omega) (by omega) (by omega) (by omega)).mono fun v J _ hv => ?_
  obtain ⟨h1, h2⟩ := same_of_at c1 d1 (by omega) (by omega) h
  rw [hv, h1, h2]; rfl
theorem leqOE_c {I : IM} {C D : E} {bc bd : Nat} {pc pd : Option Addr} (hC : ERep I C bc pc) (hD : ERep I D bd pd) (oC : C.ok) (oD : D.ok) : Fun Tryd.prog 29 #[evv bc pc, evv bd pd] I (fun v J => v = .bool (leqF 64 C D)) := by
  obtain ⟨c1, c2, c3⟩ := oC
  obtain ⟨d1, d2, d3⟩ := oD
  exact leqF_c 64 (by omega) (by omega) (by omega) hC hD
theorem leq_at {C D : E} (oC : C.ok) (oD : D.ok) : leqF 64 C D = true ↔ ∀ k, k < 2 ^ 16 → hAt 16 C k ≤ hAt 16 D k := by
  obtain ⟨c1, c2, c3⟩ := oC
  obtain ⟨d1, d2, d3⟩ := oD
  exact leq_iff 64 16 C D c1 d1 (by omega) (by omega) (by omega) (by omega)
theorem leqTE_c {I : IM} {C D : E} {bc bd : Nat} {pc pd : Option Addr} (hC : ERep I C bc pc) (hD : ERep I D bd pd) (oC : C.ok) (oD : D.ok) (h : ∀ k, k < 2 ^ 16 → hAt 16 C k ≤ hAt 16 D k) : Fun Tryd.prog 29 #[evv bc pc, evv bd pd] I (fun v J => v = .bool true) :=
  (leqOE_c hC hD oC oD).mono fun v J _ hv => by rw [hv, (leq_at oC oD).2 h]

set_option maxHeartbeats 2000000 in
theorem ownE_step {I : IM} {e : E} {k : Nat} (h : RE I e k) (hnf : e.nf) (ht : e.top ≤ 1048576) (hd : e.depth ≤ 16) (ih : ∀ n l r, e = .node n l r → (∀ {J : IM} {k : Nat}, RE J l k → Fun Tryd.prog 69 #[.pointer (some ⟨k, 0, none⟩)] J (fun v J => ∃ b p, v = evv b p ∧ ERep J l b p)) ∧ (∀ {J : IM} {k : Nat}, RE J r k → Fun Tryd.prog 69 #[.pointer (some ⟨k, 0, none⟩)] J (fun v J => ∃ b p, v = evv b p ∧ ERep J r b p))) : Fun Tryd.prog 69 #[.pointer (some ⟨k, 0, none⟩)] I (fun v J => ∃ b p, v = evv b p ∧ ERep J e b p) := by
  cases e with
  | leaf n =>
    have h0 : RE _ (E.leaf n) k := h
    refine enter_rule 40 [(0, .pointer (some ⟨k, 0, none⟩))] Tryd.func69 rfl (by kernel_rfl) ?_
    intro w s
    refine wp_seq ?_
    refine region_rule ?_
    refine ops_rule (C := []) [] [] 1 [] 1 (fun φ1 => [(2, .pointer (some ⟨(φ1 0), 0, none⟩))]) (fun φ1 => [((φ1 0), .cells #[.int .u64 0, .pointer none] 27)]) (fun φ1 => []) s trivial (fun φ1 => by kernel_rfl) ?_
    intro φ1 w1 s
    refine ops_done (by kernel_rfl) ?_
    refine wp_seq ?_
    refine wp_seq ?_
    refine region_rule ?_
    refine ops_rule (C := [(k, .cells #[.int .u64 ((n : Nat) : Int), .pointer none, .pointer none] 112)]) [((φ1 0), .cells #[.int .u64 0, .pointer none] 27)] [] 5 [.c 0] 0 (fun φ2 => [(11, .bool true), (10, .pointer none), (9, .pointer (some ⟨k, 1, none⟩)), (8, .pointer (some ⟨k, 0, none⟩)), (7, .pointer (some ⟨k, 0, none⟩))]) (fun φ2 => [((φ1 0), .cells #[.int .u64 0, .pointer none] 27)]) (fun φ2 => [k]) s ⟨h, trivial⟩ (fun φ2 => by kernel_rfl) ?_
    intro φ2 w2 s
    refine ops_done (by kernel_rfl) ?_
    refine cond_true_rule (b := true) (by kernel_rfl) rfl ?_
    refine wp_seq ?_
    refine region_rule ?_
    refine ops_rule (C := [(k, .cells #[.int .u64 ((n : Nat) : Int), .pointer none, .pointer none] 112)]) [((φ1 0), .cells #[.int .u64 0, .pointer none] 27)] [] 4 [.c 0] 0 (fun φ3 => [(16, .int .u64 ((n : Nat) : Int)), (15, .pointer (some ⟨k, 0, none⟩)), (14, .pointer (some ⟨k, 0, none⟩)), (13, .pointer (some ⟨k, 0, none⟩))]) (fun φ3 => [((φ1 0), .cells #[.int .u64 0, .pointer none] 27)]) (fun φ3 => [k]) s ⟨h, trivial⟩ (fun φ3 => by kernel_rfl) ?_
    intro φ3 w3 s
    refine call_rule (some 17) s (leafOk_c (n := n) (by exact ht)) (by kernel_rfl) ?_
    intro v4 I4 w4 le4 h4 s
    replace h0 := RE.mono le4 h0
    replace h := le4 _ _ h
    obtain rfl := h4
    refine ops_rule (C := []) [((φ1 0), .cells #[.int .u64 0, .pointer none] 27)] [] 6 [.o 1, .o 1] 1 (fun φ5 => [(4, .int .i64 0), (3, .pointer (some ⟨(φ5 0), 0, none⟩)), (19, .int .i64 0), (18, .agg #[.int .u64 ((n : Nat) : Int), .pointer none]), (12, .tuple #[.agg #[.int .u64 ((n : Nat) : Int), .pointer none], .int .i64 0])]) (fun φ5 => [((φ1 0), .cells #[.int .u64 0, .pointer none] 27), ((φ5 0), .cells #[.int .u64 ((n : Nat) : Int), .pointer none] 27)]) (fun φ5 => [(φ5 0), (φ5 0)]) s trivial (fun φ5 => by kernel_rfl) ?_
    intro φ5 w5 s
    refine ops_done (by kernel_rfl) ?_
    refine wp_seq ?_
    refine region_rule ?_
    refine ops_rule (C := []) [((φ1 0), .cells #[.int .u64 0, .pointer none] 27), ((φ5 0), .cells #[.int .u64 ((n : Nat) : Int), .pointer none] 27)] [] 2 [.o 1, .o 1, .o 0, .o 0] 0 (fun φ6 => [(20, .agg #[.int .u64 ((n : Nat) : Int), .pointer none])]) (fun φ6 => [((φ1 0), .cells #[.int .u64 ((n : Nat) : Int), .pointer none] 27), ((φ5 0), .cells #[.int .u64 ((n : Nat) : Int), .pointer none] 27)]) (fun φ6 => [(φ5 0), (φ5 0), (φ1 0), (φ1 0)]) s trivial (fun φ6 => by kernel_rfl) ?_
    intro φ6 w6 s
    refine ops_done (by kernel_rfl) ?_
    refine wp_ret ?_
    refine ret_rule (C := []) [((φ1 0), .cells #[.int .u64 ((n : Nat) : Int), .pointer none] 27), ((φ5 0), .cells #[.int .u64 ((n : Nat) : Int), .pointer none] 27)] [] (.agg #[.int .u64 ((n : Nat) : Int), .pointer none]) [.o 0, .o 0] [(φ1 0), (φ1 0)] s trivial (by kernel_rfl) ?_
    exact ⟨_, _, _, rfl, s, ⟨_, _, rfl, rfl, rfl⟩⟩
  | node n l r =>
    have h0 : RE _ (E.node n l r) k := h
    obtain ⟨kl, kr, hk, hl, hr⟩ := h
    obtain ⟨ihl, ihr⟩ := ih n l r rfl
    clear ih
    refine enter_rule 40 [(0, .pointer (some ⟨k, 0, none⟩))] Tryd.func69 rfl (by kernel_rfl) ?_
    intro w s
    refine wp_seq ?_
    refine region_rule ?_
    refine ops_rule (C := []) [] [] 1 [] 1 (fun φ1 => [(2, .pointer (some ⟨(φ1 0), 0, none⟩))]) (fun φ1 => [((φ1 0), .cells #[.int .u64 0, .pointer none] 27)]) (fun φ1 => []) s trivial (fun φ1 => by kernel_rfl) ?_
    intro φ1 w1 s
    refine ops_done (by kernel_rfl) ?_
    refine wp_seq ?_
    refine wp_seq ?_
    refine region_rule ?_
    refine ops_rule (C := [(k, .cells #[.int .u64 ((n : Nat) : Int), .pointer (some ⟨kl, 0, none⟩), .pointer (some ⟨kr, 0, none⟩)] 112)]) [((φ1 0), .cells #[.int .u64 0, .pointer none] 27)] [] 5 [.c 0] 0 (fun φ2 => [(11, .bool false), (10, .pointer (some ⟨kl, 0, none⟩)), (9, .pointer (some ⟨k, 1, none⟩)), (8, .pointer (some ⟨k, 0, none⟩)), (7, .pointer (some ⟨k, 0, none⟩))]) (fun φ2 => [((φ1 0), .cells #[.int .u64 0, .pointer none] 27)]) (fun φ2 => [k]) s ⟨hk, trivial⟩ (fun φ2 => by kernel_rfl) ?_
    intro φ2 w2 s
    refine ops_done (by kernel_rfl) ?_
    refine cond_false_rule (b := false) (by kernel_rfl) rfl ?_
    refine wp_skip ?_
    refine wp_seq ?_
    refine draw_rule (C := [(k, .cells #[.int .u64 ((n : Nat) : Int), .pointer (some ⟨kl, 0, none⟩), .pointer (some ⟨kr, 0, none⟩)] 112)]) ⟨(fun φ3 xs3 => [.look 0 [] [], .look 0 [] [], .look 0 [] [], .look 0 [.c 0] [k], .look 0 [] [], .look 0 [] [], .look 0 [] [], .look 0 [.c 0] [k], .call 69 #[.pointer (some ⟨kl, 0, none⟩)], .look 0 [] [], .look 0 [] [], .look 0 [] [], .look 0 [.c 0] [k], .call 69 #[.pointer (some ⟨kr, 0, none⟩)], .call 18 #[.int .u64 ((n : Nat) : Int), .agg #[.int .u64 (((xs3 8).n 0 : Nat) : Int), .pointer ((xs3 8).p 0)], .agg #[.int .u64 (((xs3 13).n 0 : Nat) : Int), .pointer ((xs3 13).p 0)]], .look 0 [] [], .look 0 [] [], .look 0 [] [], .new, .store 0 [.o 1, .o 1] [(φ3 18), (φ3 18)], .look 1 [] []]), (fun φ3 xs3 => [.pointer (some ⟨k, 0, none⟩), .pointer (some ⟨k, 0, none⟩), .pointer (some ⟨k, 0, none⟩), .int .u64 ((n : Nat) : Int), .pointer (some ⟨k, 0, none⟩), .pointer (some ⟨k, 0, none⟩), .pointer (some ⟨k, 1, none⟩), .pointer (some ⟨kl, 0, none⟩), .agg #[.int .u64 (((xs3 8).n 0 : Nat) : Int), .pointer ((xs3 8).p 0)], .pointer (some ⟨k, 0, none⟩), .pointer (some ⟨k, 0, none⟩), .pointer (some ⟨k, 2, none⟩), .pointer (some ⟨kr, 0, none⟩), .agg #[.int .u64 (((xs3 13).n 0 : Nat) : Int), .pointer ((xs3 13).p 0)], .tuple #[.agg #[.int .u64 (((xs3 14).n 0 : Nat) : Int), .pointer ((xs3 14).p 0)], .int .i64 0], .tuple #[.agg #[.int .u64 (((xs3 14).n 0 : Nat) : Int), .pointer ((xs3 14).p 0)], .int .i64 0], .agg #[.int .u64 (((xs3 14).n 0 : Nat) : Int), .pointer ((xs3 14).p 0)], .int .i64 0, .pointer (some ⟨(φ3 18), 0, none⟩), undef, .int .i64 0]), (fun φ3 xs3 => [[((φ1 0), .cells #[.int .u64 0, .pointer none] 27)], [((φ1 0), .cells #[.int .u64 0, .pointer none] 27)]]), (fun φ3 xs3 => [[default, default, default, default, default, default, default, default, default, default, default, default, default, default, default, default, default, default, .cells #[.int .u64 0, .pointer none] 27, default, default], [default, default, default, default, default, default, default, default, default, default, default, default, default, default, default, default, default, default, .cells #[.int .u64 (((xs3 14).n 0 : Nat) : Int), .pointer ((xs3 14).p 0)] 27, default, default]]), [19], [1, 1, 1, 1, 1, 1, 1, 1, 3, 1, 1, 1, 1, 3, 3, 1, 1, 1, 2, 4, 1]⟩ (fun j => ([MP.any, MP.any, MP.any, MP.any, MP.any, MP.any, MP.any, MP.any, ⟨fun x J => ERep J l (x.n 0) (x.p 0), fun le h => ERep.mono le h⟩, MP.any, MP.any, MP.any, MP.any, ⟨fun x J => ERep J r (x.n 0) (x.p 0), fun le h => ERep.mono le h⟩, ⟨fun x J => ERep J (E.node n l r) (x.n 0) (x.p 0), fun le h => ERep.mono le h⟩, MP.any, MP.any, MP.any, MP.any, MP.any, MP.any] : List MP).getD j MP.any) [8, 13, 14] [] [] (fun φ3 xs3 => [[none, none, none, none, none, none, none, none, none, none, none, none, none, none, none, none, none, none, none, none, none]]) (fun φ3 xs3 => [(22, .pointer (some ⟨k, 0, none⟩)), (23, .pointer (some ⟨k, 0, none⟩)), (24, .pointer (some ⟨k, 0, none⟩)), (25, .int .u64 ((n : Nat) : Int)), (26, .pointer (some ⟨k, 0, none⟩)), (27, .pointer (some ⟨k, 0, none⟩)), (28, .pointer (some ⟨k, 1, none⟩)), (29, .pointer (some ⟨kl, 0, none⟩)), (30, .agg #[.int .u64 (((xs3 8).n 0 : Nat) : Int), .pointer ((xs3 8).p 0)]), (31, .pointer (some ⟨k, 0, none⟩)), (32, .pointer (some ⟨k, 0, none⟩)), (33, .pointer (some ⟨k, 2, none⟩)), (34, .pointer (some ⟨kr, 0, none⟩)), (35, .agg #[.int .u64 (((xs3 13).n 0 : Nat) : Int), .pointer ((xs3 13).p 0)]), (36, .tuple #[.agg #[.int .u64 (((xs3 14).n 0 : Nat) : Int), .pointer ((xs3 14).p 0)], .int .i64 0]), (21, .tuple #[.agg #[.int .u64 (((xs3 14).n 0 : Nat) : Int), .pointer ((xs3 14).p 0)], .int .i64 0]), (37, .agg #[.int .u64 (((xs3 14).n 0 : Nat) : Int), .pointer ((xs3 14).p 0)]), (38, .int .i64 0), (5, .pointer (some ⟨(φ3 18), 0, none⟩)), (6, .int .i64 0)]) (fun φ3 xs3 => [((φ1 0), .cells #[.int .u64 0, .pointer none] 27), ((φ3 18), .cells #[.int .u64 (((xs3 14).n 0 : Nat) : Int), .pointer ((xs3 14).p 0)] 27)]) s ⟨hk, trivial⟩ (by kernel_rfl) (by kernel_rfl) (fun _ _ => by kernel_rfl) (fun _ _ => by kernel_rfl) ⟨fun _ _ => by kernel_rfl, fun _ _ => by kernel_rfl, fun _ _ => by kernel_rfl, fun _ _ => by kernel_rfl⟩ (fun _ _ _ => by kernel_rfl) (fun _ _ => by kernel_rfl) (fun _ _ => by kernel_rfl) (fun _ _ => by kernel_rfl) (fun _ _ => by kernel_rfl) (fun _ _ => by kernel_rfl) trivial trivial (by kernel_rfl) ⟨?c3_8, ?c3_13, ?c3_14, trivial⟩ ?k3
    case c3_8 =>
      refine kcast (A := ∀ (φ3 : Nat → Nat) (xs3 : Xs) (J8_3 : IM), I.Le J8_3 → Fun Tryd.prog 69 #[.pointer (some ⟨kl, 0, none⟩)] J8_3 (fun v J' => ∃ x : UX, v = .agg #[.int .u64 ((x.n 0 : Nat) : Int), .pointer (x.p 0)] ∧ (ERep J' l (x.n 0) (x.p 0)))) (by kernel_rfl) ?_
      intro φ3 xs3 J8_3 leJ
      have hl := RE.mono leJ hl
      exact Fun.mono (ihl hl) (fun v J' _ ⟨y0, y1, hv, g0⟩ => ⟨{ UX.d with n := fun j => y0, p := fun j => y1 }, hv, g0⟩)
    case c3_13 =>
      refine kcast (A := ∀ (φ3 : Nat → Nat) (xs3 : Xs) (J13_3 : IM), I.Le J13_3 → (ERep J13_3 l ((xs3 8).n 0) ((xs3 8).p 0)) → Fun Tryd.prog 69 #[.pointer (some ⟨kr, 0, none⟩)] J13_3 (fun v J' => ∃ x : UX, v = .agg #[.int .u64 ((x.n 0 : Nat) : Int), .pointer (x.p 0)] ∧ (ERep J' r (x.n 0) (x.p 0)))) (by kernel_rfl) ?_
      intro φ3 xs3 J13_3 leJ
      rintro h3_8_0
      have hr := RE.mono leJ hr
      exact Fun.mono (ihr hr) (fun v J' _ ⟨y0, y1, hv, g0⟩ => ⟨{ UX.d with n := fun j => y0, p := fun j => y1 }, hv, g0⟩)
    case c3_14 =>
      refine kcast (A := ∀ (φ3 : Nat → Nat) (xs3 : Xs) (J14_3 : IM), I.Le J14_3 → (ERep J14_3 l ((xs3 8).n 0) ((xs3 8).p 0)) → (ERep J14_3 r ((xs3 13).n 0) ((xs3 13).p 0)) → Fun Tryd.prog 18 #[.int .u64 ((n : Nat) : Int), .agg #[.int .u64 (((xs3 8).n 0 : Nat) : Int), .pointer ((xs3 8).p 0)], .agg #[.int .u64 (((xs3 13).n 0 : Nat) : Int), .pointer ((xs3 13).p 0)]] J14_3 (fun v J' => ∃ x : UX, v = .tuple #[.agg #[.int .u64 ((x.n 0 : Nat) : Int), .pointer (x.p 0)], .int .i64 0] ∧ (ERep J' (E.node n l r) (x.n 0) (x.p 0)))) (by kernel_rfl) ?_
      intro φ3 xs3 J14_3 leJ
      rintro h3_8_0 h3_13_0
      exact Fun.mono (nodeOk9_c (n := n) hnf.2.2 ht hd h3_8_0 h3_13_0) (fun v J' _ ⟨y0, y1, hv, g0⟩ => ⟨{ UX.d with n := fun j => y0, p := fun j => y1 }, hv, g0⟩)
    case k3 =>
      rintro φ3 xs3 I3 w3 le3 s h3_8_0 h3_13_0 h3_14_0
      replace hl := RE.mono le3 hl
      replace hr := RE.mono le3 hr
      replace h0 := RE.mono le3 h0
      replace hk := le3 _ _ hk
      refine wp_seq ?_
      refine region_rule ?_
      refine ops_rule (C := []) [((φ1 0), .cells #[.int .u64 0, .pointer none] 27), ((φ3 18), .cells #[.int .u64 (((xs3 14).n 0 : Nat) : Int), .pointer ((xs3 14).p 0)] 27)] [] 2 [.o 1, .o 1, .o 0, .o 0] 0 (fun φ4 => [(39, .agg #[.int .u64 (((xs3 14).n 0 : Nat) : Int), .pointer ((xs3 14).p 0)])]) (fun φ4 => [((φ1 0), .cells #[.int .u64 (((xs3 14).n 0 : Nat) : Int), .pointer ((xs3 14).p 0)] 27), ((φ3 18), .cells #[.int .u64 (((xs3 14).n 0 : Nat) : Int), .pointer ((xs3 14).p 0)] 27)]) (fun φ4 => [(φ3 18), (φ3 18), (φ1 0), (φ1 0)]) s trivial (fun φ4 => by kernel_rfl) ?_
      intro φ4 w4 s
      refine ops_done (by kernel_rfl) ?_
      refine wp_ret ?_
      refine ret_rule (C := []) [((φ1 0), .cells #[.int .u64 (((xs3 14).n 0 : Nat) : Int), .pointer ((xs3 14).p 0)] 27), ((φ3 18), .cells #[.int .u64 (((xs3 14).n 0 : Nat) : Int), .pointer ((xs3 14).p 0)] 27)] [] (.agg #[.int .u64 (((xs3 14).n 0 : Nat) : Int), .pointer ((xs3 14).p 0)]) [.o 0, .o 0] [(φ1 0), (φ1 0)] s trivial (by kernel_rfl) ?_
      exact ⟨_, _, _, rfl, s, ⟨_, _, rfl, h3_14_0⟩⟩

theorem ownE_c : ∀ (e : E) {I : IM} {k : Nat}, e.nf → e.top ≤ 1048576 → e.depth ≤ 16 → RE I e k → Fun Tryd.prog 69 #[.pointer (some ⟨k, 0, none⟩)] I (fun v J => ∃ b p, v = evv b p ∧ ERep J e b p)
  | .leaf n, _, _, hn, ht, hd, h => ownE_step h hn ht hd (fun n l r h => by cases h)
  | .node n l r, _, _, hn, ht, hd, h => ownE_step h hn ht hd (fun n' l' r' e => by
      cases e
      have ht1 : n + max l.top r.top ≤ 1048576 := ht
      have hd1 : 1 + max l.depth r.depth ≤ 16 := hd
      exact ⟨fun {J} {k} a => ownE_c l hn.1 (by omega) (by omega) a, fun {J} {k} a => ownE_c r hn.2.1 (by omega) (by omega) a⟩)

set_option maxHeartbeats 2000000 in
theorem madeE_c {I : IM} {p : List UInt8} {vp : Value} (hp : BSl I p vp) : Fun Tryd.prog 17 #[vp] I (fun v J => ∃ b q k e, v = .tuple #[evv b q, .pointer (some ⟨k, 0, none⟩)] ∧ (e.nf ∧ e.depth ≤ 6 ∧ e.top ≤ 7 + 3 * 6) ∧ ERep J e b q ∧ RE J e k) := by
  have hp' := hp
  obtain ⟨pa, pc, rfl, hpc, -⟩ := hp
  have hp60 := bsl_take hp'
  clear hp'
  refine enter_rule 18 [(0, .slice pa p.length pc)] Tryd.func17 rfl (by kernel_rfl) ?_
  intro w s
  refine wp_seq ?_
  refine region_rule ?_
  refine ops_rule (C := []) [] [] 2 [] 1 (fun φ1 => [(3, .pointer none), (2, .pointer (some ⟨(φ1 0), 0, none⟩))]) (fun φ1 => [((φ1 0), .cells #[.int .u64 0, .pointer none] 27)]) (fun φ1 => []) s trivial (fun φ1 => by kernel_rfl) ?_
  intro φ1 w1 s
  refine ops_done (by kernel_rfl) ?_
  refine wp_seq ?_
  refine region_rule ?_
  refine ops_rule (C := []) [((φ1 0), .cells #[.int .u64 0, .pointer none] 27)] [] 4 [] 0 (fun φ2 => [(10, .int .i64 (if ((60 : Nat) : Int) < ((p.length : Nat) : Int) then ((60 : Nat) : Int) else ((p.length : Nat) : Int))), (9, .int .i64 ((p.length : Nat) : Int)), (8, .slice pa p.length pc), (7, .slice pa p.length pc)]) (fun φ2 => [((φ1 0), .cells #[.int .u64 0, .pointer none] 27)]) (fun φ2 => []) s trivial (fun φ2 => by kernel_rfl) ?_
  intro φ2 w2 s
  rw [nat_min (a := p.length) (b := 60)]
  refine sem_rule (Instr.sliceAt 22 (.slice pa p.length pc) none (some (.int .i64 ((min p.length 60 : Nat) : Int))) none) (some 11) (.slice pa (min p.length 60) pc) (by kernel_rfl) (run_to (by have := hpc; omega)) ?_
  refine call_rule (some 12) s (makeE_c 6 (by omega) hp60) (by kernel_rfl) ?_
  intro v3 I3 w3 le3 h3 s
  replace hp60 := BSl.mono le3 hp60
  obtain ⟨k3, v3, t3, l3, rfl, h3_0, h3_1, h3_2⟩ := h3
  refine ops_rule (C := []) [((φ1 0), .cells #[.int .u64 0, .pointer none] 27)] [] 5 [] 0 (fun φ4 => [(5, v3), (4, .pointer (some ⟨k3, 0, none⟩)), (14, v3), (13, .pointer (some ⟨k3, 0, none⟩)), (6, .tuple #[.pointer (some ⟨k3, 0, none⟩), v3])]) (fun φ4 => [((φ1 0), .cells #[.int .u64 0, .pointer none] 27)]) (fun φ4 => []) s trivial (fun φ4 => by kernel_rfl) ?_
  intro φ4 w4 s
  refine ops_done (by kernel_rfl) ?_
  refine wp_seq ?_
  refine region_rule ?_
  refine ops_rule (C := []) [((φ1 0), .cells #[.int .u64 0, .pointer none] 27)] [] 1 [] 0 (fun φ5 => [(15, .pointer (some ⟨k3, 0, none⟩))]) (fun φ5 => [((φ1 0), .cells #[.int .u64 0, .pointer none] 27)]) (fun φ5 => []) s trivial (fun φ5 => by kernel_rfl) ?_
  intro φ5 w5 s
  refine call_rule (some 16) s (ownE_c t3 h3_0.1 (by have := h3_0.2.2; omega) (by have := h3_0.2.1; omega) h3_1) (by kernel_rfl) ?_
  intro v6 I6 w6 le6 h6 s
  replace hp60 := BSl.mono le6 hp60
  replace h3_1 := RE.mono le6 h3_1
  replace h3_2 := BSl.mono le6 h3_2
  obtain ⟨b6, p6, rfl, h6_0⟩ := h6
  refine ops_rule (C := []) [((φ1 0), .cells #[.int .u64 0, .pointer none] 27)] [] 3 [.o 0, .o 0] 0 (fun φ7 => [(3, .pointer (some ⟨k3, 0, none⟩)), (17, .pointer (some ⟨k3, 0, none⟩))]) (fun φ7 => [((φ1 0), .cells #[.int .u64 ((b6 : Nat) : Int), .pointer p6] 27)]) (fun φ7 => [(φ1 0), (φ1 0)]) s trivial (fun φ7 => by kernel_rfl) ?_
  intro φ7 w7 s
  refine ops_done (by kernel_rfl) ?_
  refine wp_ret ?_
  refine ret_rule (C := []) [((φ1 0), .cells #[.int .u64 ((b6 : Nat) : Int), .pointer p6] 27)] [] (.tuple #[.agg #[.int .u64 ((b6 : Nat) : Int), .pointer p6], .pointer (some ⟨k3, 0, none⟩)]) [.o 0, .o 0] [(φ1 0), (φ1 0)] s trivial (by kernel_rfl) ?_
  exact ⟨_, _, _, rfl, s, ⟨_, _, _, t3, rfl, h3_0, h6_0, h3_1⟩⟩

set_option maxHeartbeats 8000000 in
theorem eventJoins_c {I : IM} (hT : Tab I) {la lb lc : List UInt8} {va vb vc : Value} (hla : BSl I la va) (hlb : BSl I lb vb) (hlc : BSl I lc vc) : Fun Tryd.prog 5 #[va, vb, vc] I (fun v J => v = .bool true) := by
  refine enter_rule 93 [(0, va), (1, vb), (2, vc)] Tryd.func5 rfl (by kernel_rfl) ?_
  intro w s
  refine wp_seq ?_
  refine region_rule ?_
  refine ops_rule (C := []) [] [] 1 [] 0 (fun φ1 => [(6, .bool false)]) (fun φ1 => []) (fun φ1 => []) s trivial (fun φ1 => by kernel_rfl) ?_
  intro φ1 w1 s
  refine ops_done (by kernel_rfl) ?_
  refine wp_seq ?_
  refine wp_seq ?_
  refine region_rule ?_
  refine call_rule (some 15) s (awakeE_c hT) (by kernel_rfl) ?_
  intro v2 I2 w2 le2 h2 s
  replace hT := Tab.mono le2 hT
  replace hla := BSl.mono le2 hla
  replace hlb := BSl.mono le2 hlb
  replace hlc := BSl.mono le2 hlc
  obtain rfl := h2
  refine ops_rule (C := []) [] [] 1 [] 0 (fun φ3 => [(16, .bool false)]) (fun φ3 => []) (fun φ3 => []) s trivial (fun φ3 => by kernel_rfl) ?_
  intro φ3 w3 s
  refine ops_done (by kernel_rfl) ?_
  refine cond_false_rule (b := false) (by kernel_rfl) rfl ?_
  refine wp_skip ?_
  refine wp_seq ?_
  refine region_rule ?_
  refine ops_rule (C := []) [] [] 1 [] 0 (fun φ4 => [(18, va)]) (fun φ4 => []) (fun φ4 => []) s trivial (fun φ4 => by kernel_rfl) ?_
  intro φ4 w4 s
  refine call_rule (some 19) s (madeE_c hla) (by kernel_rfl) ?_
  intro v5 I5 w5 le5 h5 s
  replace hT := Tab.mono le5 hT
  replace hla := BSl.mono le5 hla
  replace hlb := BSl.mono le5 hlb
  replace hlc := BSl.mono le5 hlc
  obtain ⟨b5, q5, k5, e5, rfl, h5_0, h5_1, h5_2⟩ := h5
  refine ops_rule (C := []) [] [] 6 [.o 0, .o 0] 1 (fun φ6 => [(8, .pointer (some ⟨k5, 0, none⟩)), (7, .pointer (some ⟨(φ6 0), 0, none⟩)), (21, .pointer (some ⟨k5, 0, none⟩)), (20, .agg #[.int .u64 ((b5 : Nat) : Int), .pointer q5]), (17, .tuple #[.agg #[.int .u64 ((b5 : Nat) : Int), .pointer q5], .pointer (some ⟨k5, 0, none⟩)])]) (fun φ6 => [((φ6 0), .cells #[.int .u64 ((b5 : Nat) : Int), .pointer q5] 27)]) (fun φ6 => [(φ6 0), (φ6 0)]) s trivial (fun φ6 => by kernel_rfl) ?_
  intro φ6 w6 s
  refine ops_done (by kernel_rfl) ?_
  refine wp_seq ?_
  refine region_rule ?_
  refine ops_rule (C := []) [((φ6 0), .cells #[.int .u64 ((b5 : Nat) : Int), .pointer q5] 27)] [] 1 [] 0 (fun φ7 => [(23, vb)]) (fun φ7 => [((φ6 0), .cells #[.int .u64 ((b5 : Nat) : Int), .pointer q5] 27)]) (fun φ7 => []) s trivial (fun φ7 => by kernel_rfl) ?_
  intro φ7 w7 s
  refine call_rule (some 24) s (madeE_c hlb) (by kernel_rfl) ?_
  intro v8 I8 w8 le8 h8 s
  replace hT := Tab.mono le8 hT
  replace hla := BSl.mono le8 hla
  replace hlb := BSl.mono le8 hlb
  replace hlc := BSl.mono le8 hlc
  replace h5_1 := ERep.mono le8 h5_1
  replace h5_2 := RE.mono le8 h5_2
  obtain ⟨b8, q8, k8, e8, rfl, h8_0, h8_1, h8_2⟩ := h8
  refine ops_rule (C := []) [((φ6 0), .cells #[.int .u64 ((b5 : Nat) : Int), .pointer q5] 27)] [] 6 [.o 1, .o 1] 1 (fun φ9 => [(10, .pointer (some ⟨k8, 0, none⟩)), (9, .pointer (some ⟨(φ9 0), 0, none⟩)), (26, .pointer (some ⟨k8, 0, none⟩)), (25, .agg #[.int .u64 ((b8 : Nat) : Int), .pointer q8]), (22, .tuple #[.agg #[.int .u64 ((b8 : Nat) : Int), .pointer q8], .pointer (some ⟨k8, 0, none⟩)])]) (fun φ9 => [((φ6 0), .cells #[.int .u64 ((b5 : Nat) : Int), .pointer q5] 27), ((φ9 0), .cells #[.int .u64 ((b8 : Nat) : Int), .pointer q8] 27)]) (fun φ9 => [(φ9 0), (φ9 0)]) s trivial (fun φ9 => by kernel_rfl) ?_
  intro φ9 w9 s
  refine ops_done (by kernel_rfl) ?_
  refine wp_seq ?_
  refine region_rule ?_
  refine ops_rule (C := []) [((φ6 0), .cells #[.int .u64 ((b5 : Nat) : Int), .pointer q5] 27), ((φ9 0), .cells #[.int .u64 ((b8 : Nat) : Int), .pointer q8] 27)] [] 1 [] 0 (fun φ10 => [(28, vc)]) (fun φ10 => [((φ6 0), .cells #[.int .u64 ((b5 : Nat) : Int), .pointer q5] 27), ((φ9 0), .cells #[.int .u64 ((b8 : Nat) : Int), .pointer q8] 27)]) (fun φ10 => []) s trivial (fun φ10 => by kernel_rfl) ?_
  intro φ10 w10 s
  refine call_rule (some 29) s (madeE_c hlc) (by kernel_rfl) ?_
  intro v11 I11 w11 le11 h11 s
  replace hT := Tab.mono le11 hT
  replace hla := BSl.mono le11 hla
  replace hlb := BSl.mono le11 hlb
  replace hlc := BSl.mono le11 hlc
  replace h5_1 := ERep.mono le11 h5_1
  replace h5_2 := RE.mono le11 h5_2
  replace h8_1 := ERep.mono le11 h8_1
  replace h8_2 := RE.mono le11 h8_2
  obtain ⟨b11, q11, k11, e11, rfl, h11_0, h11_1, h11_2⟩ := h11
  refine ops_rule (C := []) [((φ6 0), .cells #[.int .u64 ((b5 : Nat) : Int), .pointer q5] 27), ((φ9 0), .cells #[.int .u64 ((b8 : Nat) : Int), .pointer q8] 27)] [] 6 [.o 2, .o 2] 1 (fun φ12 => [(12, .pointer (some ⟨k11, 0, none⟩)), (11, .pointer (some ⟨(φ12 0), 0, none⟩)), (31, .pointer (some ⟨k11, 0, none⟩)), (30, .agg #[.int .u64 ((b11 : Nat) : Int), .pointer q11]), (27, .tuple #[.agg #[.int .u64 ((b11 : Nat) : Int), .pointer q11], .pointer (some ⟨k11, 0, none⟩)])]) (fun φ12 => [((φ6 0), .cells #[.int .u64 ((b5 : Nat) : Int), .pointer q5] 27), ((φ9 0), .cells #[.int .u64 ((b8 : Nat) : Int), .pointer q8] 27), ((φ12 0), .cells #[.int .u64 ((b11 : Nat) : Int), .pointer q11] 27)]) (fun φ12 => [(φ12 0), (φ12 0)]) s trivial (fun φ12 => by kernel_rfl) ?_
  intro φ12 w12 s
  refine ops_done (by kernel_rfl) ?_
  refine wp_seq ?_
  refine region_rule ?_
  refine ops_rule (C := []) [((φ6 0), .cells #[.int .u64 ((b5 : Nat) : Int), .pointer q5] 27), ((φ9 0), .cells #[.int .u64 ((b8 : Nat) : Int), .pointer q8] 27), ((φ12 0), .cells #[.int .u64 ((b11 : Nat) : Int), .pointer q11] 27)] [] 2 [.o 0, .o 0, .o 1, .o 1] 0 (fun φ13 => [(33, .agg #[.int .u64 ((b8 : Nat) : Int), .pointer q8]), (32, .agg #[.int .u64 ((b5 : Nat) : Int), .pointer q5])]) (fun φ13 => [((φ6 0), .cells #[.int .u64 ((b5 : Nat) : Int), .pointer q5] 27), ((φ9 0), .cells #[.int .u64 ((b8 : Nat) : Int), .pointer q8] 27), ((φ12 0), .cells #[.int .u64 ((b11 : Nat) : Int), .pointer q11] 27)]) (fun φ13 => [(φ6 0), (φ6 0), (φ9 0), (φ9 0)]) s trivial (fun φ13 => by kernel_rfl) ?_
  intro φ13 w13 s
  refine call_rule (some 34) s (joinOE_c h5_1 h8_1 (ok_of h5_0) (ok_of h8_0)) (by kernel_rfl) ?_
  intro v14 I14 w14 le14 h14 s
  replace hT := Tab.mono le14 hT
  replace hla := BSl.mono le14 hla
  replace hlb := BSl.mono le14 hlb
  replace hlc := BSl.mono le14 hlc
  replace h5_1 := ERep.mono le14 h5_1
  replace h5_2 := RE.mono le14 h5_2
  replace h8_1 := ERep.mono le14 h8_1
  replace h8_2 := RE.mono le14 h8_2
  replace h11_1 := ERep.mono le14 h11_1
  replace h11_2 := RE.mono le14 h11_2
  obtain ⟨b14, p14, rfl, h14_0⟩ := h14
  refine ops_rule (C := []) [((φ6 0), .cells #[.int .u64 ((b5 : Nat) : Int), .pointer q5] 27), ((φ9 0), .cells #[.int .u64 ((b8 : Nat) : Int), .pointer q8] 27), ((φ12 0), .cells #[.int .u64 ((b11 : Nat) : Int), .pointer q11] 27)] [] 2 [.o 3, .o 3] 1 (fun φ15 => [(13, .pointer (some ⟨(φ15 0), 0, none⟩))]) (fun φ15 => [((φ6 0), .cells #[.int .u64 ((b5 : Nat) : Int), .pointer q5] 27), ((φ9 0), .cells #[.int .u64 ((b8 : Nat) : Int), .pointer q8] 27), ((φ12 0), .cells #[.int .u64 ((b11 : Nat) : Int), .pointer q11] 27), ((φ15 0), .cells #[.int .u64 ((b14 : Nat) : Int), .pointer p14] 27)]) (fun φ15 => [(φ15 0), (φ15 0)]) s trivial (fun φ15 => by kernel_rfl) ?_
  intro φ15 w15 s
  refine ops_done (by kernel_rfl) ?_
  refine wp_seq ?_
  refine region_rule ?_
  refine ops_rule (C := []) [((φ6 0), .cells #[.int .u64 ((b5 : Nat) : Int), .pointer q5] 27), ((φ9 0), .cells #[.int .u64 ((b8 : Nat) : Int), .pointer q8] 27), ((φ12 0), .cells #[.int .u64 ((b11 : Nat) : Int), .pointer q11] 27), ((φ15 0), .cells #[.int .u64 ((b14 : Nat) : Int), .pointer p14] 27)] [] 2 [.o 3, .o 3, .o 2, .o 2] 0 (fun φ16 => [(36, .agg #[.int .u64 ((b11 : Nat) : Int), .pointer q11]), (35, .agg #[.int .u64 ((b14 : Nat) : Int), .pointer p14])]) (fun φ16 => [((φ6 0), .cells #[.int .u64 ((b5 : Nat) : Int), .pointer q5] 27), ((φ9 0), .cells #[.int .u64 ((b8 : Nat) : Int), .pointer q8] 27), ((φ12 0), .cells #[.int .u64 ((b11 : Nat) : Int), .pointer q11] 27), ((φ15 0), .cells #[.int .u64 ((b14 : Nat) : Int), .pointer p14] 27)]) (fun φ16 => [(φ15 0), (φ15 0), (φ12 0), (φ12 0)]) s trivial (fun φ16 => by kernel_rfl) ?_
  intro φ16 w16 s
  refine call_rule (some 37) s (joinOE_c h14_0 h11_1 (ok_join (ok_of h5_0) (ok_of h8_0)).1 (ok_of h11_0)) (by kernel_rfl) ?_
  intro v17 I17 w17 le17 h17 s
  replace hT := Tab.mono le17 hT
  replace hla := BSl.mono le17 hla
  replace hlb := BSl.mono le17 hlb
  replace hlc := BSl.mono le17 hlc
  replace h5_1 := ERep.mono le17 h5_1
  replace h5_2 := RE.mono le17 h5_2
  replace h8_1 := ERep.mono le17 h8_1
  replace h8_2 := RE.mono le17 h8_2
  replace h11_1 := ERep.mono le17 h11_1
  replace h11_2 := RE.mono le17 h11_2
  replace h14_0 := ERep.mono le17 h14_0
  obtain ⟨b17, p17, rfl, h17_0⟩ := h17
  refine ops_rule (C := []) [((φ6 0), .cells #[.int .u64 ((b5 : Nat) : Int), .pointer q5] 27), ((φ9 0), .cells #[.int .u64 ((b8 : Nat) : Int), .pointer q8] 27), ((φ12 0), .cells #[.int .u64 ((b11 : Nat) : Int), .pointer q11] 27), ((φ15 0), .cells #[.int .u64 ((b14 : Nat) : Int), .pointer p14] 27)] [] 2 [.o 4, .o 4] 1 (fun φ18 => [(14, .pointer (some ⟨(φ18 0), 0, none⟩))]) (fun φ18 => [((φ6 0), .cells #[.int .u64 ((b5 : Nat) : Int), .pointer q5] 27), ((φ9 0), .cells #[.int .u64 ((b8 : Nat) : Int), .pointer q8] 27), ((φ12 0), .cells #[.int .u64 ((b11 : Nat) : Int), .pointer q11] 27), ((φ15 0), .cells #[.int .u64 ((b14 : Nat) : Int), .pointer p14] 27), ((φ18 0), .cells #[.int .u64 ((b17 : Nat) : Int), .pointer p17] 27)]) (fun φ18 => [(φ18 0), (φ18 0)]) s trivial (fun φ18 => by kernel_rfl) ?_
  intro φ18 w18 s
  refine ops_done (by kernel_rfl) ?_
  refine wp_seq ?_
  rcases Bool.eq_false_or_eq_true (leqF 64 e5 e11) with hc19 | hc19
  ·
    rcases Bool.eq_false_or_eq_true (leqF 64 e8 e11) with hc20 | hc20
    ·
      rcases Bool.eq_false_or_eq_true (leqF 64 e5 e8) with hc21 | hc21
      ·
        refine draw_rule (C := []) ⟨(fun φ22 xs22 => [.look 0 [.o 3, .o 3] [(φ15 0), (φ15 0)], .look 0 [.o 1, .o 1] [(φ9 0), (φ9 0)], .look 0 [.o 0, .o 0] [(φ6 0), (φ6 0)], .call 28 #[.agg #[.int .u64 ((b8 : Nat) : Int), .pointer q8], .agg #[.int .u64 ((b5 : Nat) : Int), .pointer q5]], .call 30 #[.agg #[.int .u64 ((b14 : Nat) : Int), .pointer p14], .agg #[.int .u64 (((xs22 3).n 0 : Nat) : Int), .pointer ((xs22 3).p 0)]], .look 0 [] [], .look 0 [.o 4, .o 4] [(φ18 0), (φ18 0)], .look 0 [.o 0, .o 0] [(φ6 0), (φ6 0)], .look 0 [.o 1, .o 1] [(φ9 0), (φ9 0)], .look 0 [.o 2, .o 2] [(φ12 0), (φ12 0)], .call 28 #[.agg #[.int .u64 ((b8 : Nat) : Int), .pointer q8], .agg #[.int .u64 ((b11 : Nat) : Int), .pointer q11]], .call 28 #[.agg #[.int .u64 ((b5 : Nat) : Int), .pointer q5], .agg #[.int .u64 (((xs22 10).n 0 : Nat) : Int), .pointer ((xs22 10).p 0)]], .call 30 #[.agg #[.int .u64 ((b17 : Nat) : Int), .pointer p17], .agg #[.int .u64 (((xs22 11).n 0 : Nat) : Int), .pointer ((xs22 11).p 0)]], .look 0 [] [], .look 0 [] [], .look 0 [.o 0, .o 0] [(φ6 0), (φ6 0)], .look 0 [.o 0, .o 0] [(φ6 0), (φ6 0)], .call 28 #[.agg #[.int .u64 ((b5 : Nat) : Int), .pointer q5], .agg #[.int .u64 ((b5 : Nat) : Int), .pointer q5]], .look 0 [.o 0, .o 0] [(φ6 0), (φ6 0)], .call 30 #[.agg #[.int .u64 (((xs22 17).n 0 : Nat) : Int), .pointer ((xs22 17).p 0)], .agg #[.int .u64 ((b5 : Nat) : Int), .pointer q5]], .look 0 [] [], .look 0 [] [], .look 0 [.o 0, .o 0] [(φ6 0), (φ6 0)], .look 0 [.o 2, .o 2] [(φ12 0), (φ12 0)], .call 29 #[.agg #[.int .u64 ((b5 : Nat) : Int), .pointer q5], .agg #[.int .u64 ((b11 : Nat) : Int), .pointer q11]], .look 0 [] [], .look 0 [] [], .look 0 [.o 1, .o 1] [(φ9 0), (φ9 0)], .look 0 [.o 2, .o 2] [(φ12 0), (φ12 0)], .call 29 #[.agg #[.int .u64 ((b8 : Nat) : Int), .pointer q8], .agg #[.int .u64 ((b11 : Nat) : Int), .pointer q11]], .look 0 [] [], .look 0 [] [], .look 0 [] [], .look 0 [.o 3, .o 3] [(φ15 0), (φ15 0)], .look 0 [.o 2, .o 2] [(φ12 0), (φ12 0)], .call 29 #[.agg #[.int .u64 ((b14 : Nat) : Int), .pointer p14], .agg #[.int .u64 ((b11 : Nat) : Int), .pointer q11]], .look 0 [] [], .look 0 [] [], .look 0 [] [], .look 0 [.o 0, .o 0] [(φ6 0), (φ6 0)], .look 0 [.o 1, .o 1] [(φ9 0), (φ9 0)], .call 29 #[.agg #[.int .u64 ((b5 : Nat) : Int), .pointer q5], .agg #[.int .u64 ((b8 : Nat) : Int), .pointer q8]], .look 0 [] [], .look 0 [] [], .look 0 [.o 1, .o 1] [(φ9 0), (φ9 0)], .look 0 [.o 2, .o 2] [(φ12 0), (φ12 0)], .call 29 #[.agg #[.int .u64 ((b8 : Nat) : Int), .pointer q8], .agg #[.int .u64 ((b11 : Nat) : Int), .pointer q11]], .look 0 [] [], .look 0 [] [], .look 0 [] [], .look 0 [.o 0, .o 0] [(φ6 0), (φ6 0)], .look 0 [.o 2, .o 2] [(φ12 0), (φ12 0)], .call 29 #[.agg #[.int .u64 ((b5 : Nat) : Int), .pointer q5], .agg #[.int .u64 ((b11 : Nat) : Int), .pointer q11]], .look 0 [] [], .look 0 [] [], .look 0 [] []]), (fun φ22 xs22 => [.agg #[.int .u64 ((b14 : Nat) : Int), .pointer p14], .agg #[.int .u64 ((b8 : Nat) : Int), .pointer q8], .agg #[.int .u64 ((b5 : Nat) : Int), .pointer q5], .agg #[.int .u64 (((xs22 3).n 0 : Nat) : Int), .pointer ((xs22 3).p 0)], .bool true, .bool true, .agg #[.int .u64 ((b17 : Nat) : Int), .pointer p17], .agg #[.int .u64 ((b5 : Nat) : Int), .pointer q5], .agg #[.int .u64 ((b8 : Nat) : Int), .pointer q8], .agg #[.int .u64 ((b11 : Nat) : Int), .pointer q11], .agg #[.int .u64 (((xs22 10).n 0 : Nat) : Int), .pointer ((xs22 10).p 0)], .agg #[.int .u64 (((xs22 11).n 0 : Nat) : Int), .pointer ((xs22 11).p 0)], .bool true, .bool true, .bool true, .agg #[.int .u64 ((b5 : Nat) : Int), .pointer q5], .agg #[.int .u64 ((b5 : Nat) : Int), .pointer q5], .agg #[.int .u64 (((xs22 17).n 0 : Nat) : Int), .pointer ((xs22 17).p 0)], .agg #[.int .u64 ((b5 : Nat) : Int), .pointer q5], .bool true, .bool true, .bool true, .agg #[.int .u64 ((b5 : Nat) : Int), .pointer q5], .agg #[.int .u64 ((b11 : Nat) : Int), .pointer q11], .bool true, .bool false, .bool false, .agg #[.int .u64 ((b8 : Nat) : Int), .pointer q8], .agg #[.int .u64 ((b11 : Nat) : Int), .pointer q11], .bool true, .bool false, .bool false, .bool false, .agg #[.int .u64 ((b14 : Nat) : Int), .pointer p14], .agg #[.int .u64 ((b11 : Nat) : Int), .pointer q11], .bool true, .bool true, .bool true, .bool true, .agg #[.int .u64 ((b5 : Nat) : Int), .pointer q5], .agg #[.int .u64 ((b8 : Nat) : Int), .pointer q8], .bool true, .bool false, .bool false, .agg #[.int .u64 ((b8 : Nat) : Int), .pointer q8], .agg #[.int .u64 ((b11 : Nat) : Int), .pointer q11], .bool true, .bool false, .bool false, .bool false, .agg #[.int .u64 ((b5 : Nat) : Int), .pointer q5], .agg #[.int .u64 ((b11 : Nat) : Int), .pointer q11], .bool true, .bool true, .bool true, .bool true]), (fun φ22 xs22 => [[((φ6 0), .cells #[.int .u64 ((b5 : Nat) : Int), .pointer q5] 27), ((φ9 0), .cells #[.int .u64 ((b8 : Nat) : Int), .pointer q8] 27), ((φ12 0), .cells #[.int .u64 ((b11 : Nat) : Int), .pointer q11] 27), ((φ15 0), .cells #[.int .u64 ((b14 : Nat) : Int), .pointer p14] 27), ((φ18 0), .cells #[.int .u64 ((b17 : Nat) : Int), .pointer p17] 27)]]), (fun φ22 xs22 => [[default, default, default, default, default, default, default, default, default, default, default, default, default, default, default, default, default, default, default, default, default, default, default, default, default, default, default, default, default, default, default, default, default, default, default, default, default, default, default, default, default, default, default, default, default, default, default, default, default, default, default, default, default, default, default, default]]), [], [1, 1, 1, 3, 3, 1, 1, 1, 1, 1, 3, 3, 3, 1, 1, 1, 1, 3, 1, 3, 1, 1, 1, 1, 3, 1, 1, 1, 1, 3, 1, 1, 1, 1, 1, 3, 1, 1, 1, 1, 1, 3, 1, 1, 1, 1, 3, 1, 1, 1, 1, 1, 3, 1, 1, 1]⟩ (fun j => ([MP.any, MP.any, MP.any, ⟨fun x J => ERep J (joinF 64 e8 e5) (x.n 0) (x.p 0), fun le h => ERep.mono le h⟩, MP.any, MP.any, MP.any, MP.any, MP.any, MP.any, ⟨fun x J => ERep J (joinF 64 e8 e11) (x.n 0) (x.p 0), fun le h => ERep.mono le h⟩, ⟨fun x J => ERep J (joinF 64 e5 (joinF 64 e8 e11)) (x.n 0) (x.p 0), fun le h => ERep.mono le h⟩, MP.any, MP.any, MP.any, MP.any, MP.any, ⟨fun x J => ERep J (joinF 64 e5 e5) (x.n 0) (x.p 0), fun le h => ERep.mono le h⟩, MP.any, MP.any, MP.any, MP.any, MP.any, MP.any, MP.any, MP.any, MP.any, MP.any, MP.any, MP.any, MP.any, MP.any, MP.any, MP.any, MP.any, MP.any, MP.any, MP.any, MP.any, MP.any, MP.any, MP.any, MP.any, MP.any, MP.any, MP.any, MP.any, MP.any, MP.any, MP.any, MP.any, MP.any, MP.any, MP.any, MP.any, MP.any] : List MP).getD j MP.any) [3, 4, 10, 11, 12, 17, 19, 24, 29, 35, 41, 46, 52] [] [] (fun φ22 xs22 => []) (fun φ22 xs22 => [(38, .agg #[.int .u64 ((b14 : Nat) : Int), .pointer p14]), (39, .agg #[.int .u64 ((b8 : Nat) : Int), .pointer q8]), (40, .agg #[.int .u64 ((b5 : Nat) : Int), .pointer q5]), (41, .agg #[.int .u64 (((xs22 3).n 0 : Nat) : Int), .pointer ((xs22 3).p 0)]), (42, .bool true), (43, .bool true), (44, .agg #[.int .u64 ((b17 : Nat) : Int), .pointer p17]), (45, .agg #[.int .u64 ((b5 : Nat) : Int), .pointer q5]), (46, .agg #[.int .u64 ((b8 : Nat) : Int), .pointer q8]), (47, .agg #[.int .u64 ((b11 : Nat) : Int), .pointer q11]), (48, .agg #[.int .u64 (((xs22 10).n 0 : Nat) : Int), .pointer ((xs22 10).p 0)]), (49, .agg #[.int .u64 (((xs22 11).n 0 : Nat) : Int), .pointer ((xs22 11).p 0)]), (50, .bool true), (51, .bool true), (52, .bool true), (53, .agg #[.int .u64 ((b5 : Nat) : Int), .pointer q5]), (54, .agg #[.int .u64 ((b5 : Nat) : Int), .pointer q5]), (55, .agg #[.int .u64 (((xs22 17).n 0 : Nat) : Int), .pointer ((xs22 17).p 0)]), (56, .agg #[.int .u64 ((b5 : Nat) : Int), .pointer q5]), (57, .bool true), (58, .bool true), (59, .bool true), (60, .agg #[.int .u64 ((b5 : Nat) : Int), .pointer q5]), (61, .agg #[.int .u64 ((b11 : Nat) : Int), .pointer q11]), (62, .bool true), (63, .bool false), (64, .bool false), (65, .agg #[.int .u64 ((b8 : Nat) : Int), .pointer q8]), (66, .agg #[.int .u64 ((b11 : Nat) : Int), .pointer q11]), (67, .bool true), (68, .bool false), (69, .bool false), (70, .bool false), (71, .agg #[.int .u64 ((b14 : Nat) : Int), .pointer p14]), (72, .agg #[.int .u64 ((b11 : Nat) : Int), .pointer q11]), (73, .bool true), (74, .bool true), (75, .bool true), (76, .bool true), (77, .agg #[.int .u64 ((b5 : Nat) : Int), .pointer q5]), (78, .agg #[.int .u64 ((b8 : Nat) : Int), .pointer q8]), (79, .bool true), (80, .bool false), (81, .bool false), (82, .agg #[.int .u64 ((b8 : Nat) : Int), .pointer q8]), (83, .agg #[.int .u64 ((b11 : Nat) : Int), .pointer q11]), (84, .bool true), (85, .bool false), (86, .bool false), (87, .bool false), (88, .agg #[.int .u64 ((b5 : Nat) : Int), .pointer q5]), (89, .agg #[.int .u64 ((b11 : Nat) : Int), .pointer q11]), (90, .bool true), (91, .bool true), (92, .bool true), (6, .bool true)]) (fun φ22 xs22 => [((φ6 0), .cells #[.int .u64 ((b5 : Nat) : Int), .pointer q5] 27), ((φ9 0), .cells #[.int .u64 ((b8 : Nat) : Int), .pointer q8] 27), ((φ12 0), .cells #[.int .u64 ((b11 : Nat) : Int), .pointer q11] 27), ((φ15 0), .cells #[.int .u64 ((b14 : Nat) : Int), .pointer p14] 27), ((φ18 0), .cells #[.int .u64 ((b17 : Nat) : Int), .pointer p17] 27)]) s trivial (by kernel_rfl) (by kernel_rfl) (fun _ _ => by kernel_rfl) (fun _ _ => by kernel_rfl) ⟨fun _ _ => by kernel_rfl, fun _ _ => by kernel_rfl, fun _ _ => by kernel_rfl, fun _ _ => by kernel_rfl⟩ (fun _ _ _ => by kernel_rfl) (fun _ _ => by kernel_rfl) (fun _ _ => by kernel_rfl) (fun _ _ => by kernel_rfl) (fun _ _ => by kernel_rfl) (fun _ _ => by kernel_rfl) trivial trivial (by kernel_rfl) ⟨?c22_3, ?c22_4, ?c22_10, ?c22_11, ?c22_12, ?c22_17, ?c22_19, ?c22_24, ?c22_29, ?c22_35, ?c22_41, ?c22_46, ?c22_52, trivial⟩ ?k22
        case c22_3 =>
          refine kcast (A := ∀ (φ22 : Nat → Nat) (xs22 : Xs) (J3_22 : IM), I17.Le J3_22 → Fun Tryd.prog 28 #[.agg #[.int .u64 ((b8 : Nat) : Int), .pointer q8], .agg #[.int .u64 ((b5 : Nat) : Int), .pointer q5]] J3_22 (fun v J' => ∃ x : UX, v = .agg #[.int .u64 ((x.n 0 : Nat) : Int), .pointer (x.p 0)] ∧ (ERep J' (joinF 64 e8 e5) (x.n 0) (x.p 0)))) (by kernel_rfl) ?_
          intro φ22 xs22 J3_22 leJ
          have h5_1 := ERep.mono leJ h5_1
          have h8_1 := ERep.mono leJ h8_1
          exact Fun.mono (joinOE_c h8_1 h5_1 (ok_of h8_0) (ok_of h5_0)) (fun v J' _ ⟨y0, y1, hv, g0⟩ => ⟨{ UX.d with n := fun j => y0, p := fun j => y1 }, hv, g0⟩)
        case c22_4 =>
          refine kcast (A := ∀ (φ22 : Nat → Nat) (xs22 : Xs) (J4_22 : IM), I17.Le J4_22 → (ERep J4_22 (joinF 64 e8 e5) ((xs22 3).n 0) ((xs22 3).p 0)) → Fun Tryd.prog 30 #[.agg #[.int .u64 ((b14 : Nat) : Int), .pointer p14], .agg #[.int .u64 (((xs22 3).n 0 : Nat) : Int), .pointer ((xs22 3).p 0)]] J4_22 (fun v J' => ∃ x : UX, v = .bool true ∧ (True))) (by kernel_rfl) ?_
          intro φ22 xs22 J4_22 leJ
          rintro h22_3_0
          have h14_0 := ERep.mono leJ h14_0
          exact Fun.mono (sameOE_c h14_0 h22_3_0 (ok_join (ok_of h5_0) (ok_of h8_0)).1 (ok_join (ok_of h8_0) (ok_of h5_0)).1 (fun k => by have q0 := (ok_join (ok_of h5_0) (ok_of h8_0)).2 k; have q1 := (ok_join (ok_of h8_0) (ok_of h5_0)).2 k; omega)) (fun v J' _ h => ⟨UX.d, h, trivial⟩)
        case c22_10 =>
          refine kcast (A := ∀ (φ22 : Nat → Nat) (xs22 : Xs) (J10_22 : IM), I17.Le J10_22 → (ERep J10_22 (joinF 64 e8 e5) ((xs22 3).n 0) ((xs22 3).p 0)) → (True) → Fun Tryd.prog 28 #[.agg #[.int .u64 ((b8 : Nat) : Int), .pointer q8], .agg #[.int .u64 ((b11 : Nat) : Int), .pointer q11]] J10_22 (fun v J' => ∃ x : UX, v = .agg #[.int .u64 ((x.n 0 : Nat) : Int), .pointer (x.p 0)] ∧ (ERep J' (joinF 64 e8 e11) (x.n 0) (x.p 0)))) (by kernel_rfl) ?_
          intro φ22 xs22 J10_22 leJ
          rintro h22_3_0 _
          have h8_1 := ERep.mono leJ h8_1
          have h11_1 := ERep.mono leJ h11_1
          exact Fun.mono (joinOE_c h8_1 h11_1 (ok_of h8_0) (ok_of h11_0)) (fun v J' _ ⟨y0, y1, hv, g0⟩ => ⟨{ UX.d with n := fun j => y0, p := fun j => y1 }, hv, g0⟩)
        case c22_11 =>
          refine kcast (A := ∀ (φ22 : Nat → Nat) (xs22 : Xs) (J11_22 : IM), I17.Le J11_22 → (ERep J11_22 (joinF 64 e8 e5) ((xs22 3).n 0) ((xs22 3).p 0)) → (True) → (ERep J11_22 (joinF 64 e8 e11) ((xs22 10).n 0) ((xs22 10).p 0)) → Fun Tryd.prog 28 #[.agg #[.int .u64 ((b5 : Nat) : Int), .pointer q5], .agg #[.int .u64 (((xs22 10).n 0 : Nat) : Int), .pointer ((xs22 10).p 0)]] J11_22 (fun v J' => ∃ x : UX, v = .agg #[.int .u64 ((x.n 0 : Nat) : Int), .pointer (x.p 0)] ∧ (ERep J' (joinF 64 e5 (joinF 64 e8 e11)) (x.n 0) (x.p 0)))) (by kernel_rfl) ?_
          intro φ22 xs22 J11_22 leJ
          rintro h22_3_0 _ h22_10_0
          have h5_1 := ERep.mono leJ h5_1
          exact Fun.mono (joinOE_c h5_1 h22_10_0 (ok_of h5_0) (ok_join (ok_of h8_0) (ok_of h11_0)).1) (fun v J' _ ⟨y0, y1, hv, g0⟩ => ⟨{ UX.d with n := fun j => y0, p := fun j => y1 }, hv, g0⟩)
        case c22_12 =>
          refine kcast (A := ∀ (φ22 : Nat → Nat) (xs22 : Xs) (J12_22 : IM), I17.Le J12_22 → (ERep J12_22 (joinF 64 e8 e5) ((xs22 3).n 0) ((xs22 3).p 0)) → (True) → (ERep J12_22 (joinF 64 e8 e11) ((xs22 10).n 0) ((xs22 10).p 0)) → (ERep J12_22 (joinF 64 e5 (joinF 64 e8 e11)) ((xs22 11).n 0) ((xs22 11).p 0)) → Fun Tryd.prog 30 #[.agg #[.int .u64 ((b17 : Nat) : Int), .pointer p17], .agg #[.int .u64 (((xs22 11).n 0 : Nat) : Int), .pointer ((xs22 11).p 0)]] J12_22 (fun v J' => ∃ x : UX, v = .bool true ∧ (True))) (by kernel_rfl) ?_
          intro φ22 xs22 J12_22 leJ
          rintro h22_3_0 _ h22_10_0 h22_11_0
          have h17_0 := ERep.mono leJ h17_0
          exact Fun.mono (sameOE_c h17_0 h22_11_0 (ok_join (ok_join (ok_of h5_0) (ok_of h8_0)).1 (ok_of h11_0)).1 (ok_join (ok_of h5_0) (ok_join (ok_of h8_0) (ok_of h11_0)).1).1 (fun k => by have q0 := (ok_join (ok_join (ok_of h5_0) (ok_of h8_0)).1 (ok_of h11_0)).2 k; have q1 := (ok_join (ok_of h5_0) (ok_of h8_0)).2 k; have q2 := (ok_join (ok_of h5_0) (ok_join (ok_of h8_0) (ok_of h11_0)).1).2 k; have q3 := (ok_join (ok_of h8_0) (ok_of h11_0)).2 k; omega)) (fun v J' _ h => ⟨UX.d, h, trivial⟩)
        case c22_17 =>
          refine kcast (A := ∀ (φ22 : Nat → Nat) (xs22 : Xs) (J17_22 : IM), I17.Le J17_22 → (ERep J17_22 (joinF 64 e8 e5) ((xs22 3).n 0) ((xs22 3).p 0)) → (True) → (ERep J17_22 (joinF 64 e8 e11) ((xs22 10).n 0) ((xs22 10).p 0)) → (ERep J17_22 (joinF 64 e5 (joinF 64 e8 e11)) ((xs22 11).n 0) ((xs22 11).p 0)) → (True) → Fun Tryd.prog 28 #[.agg #[.int .u64 ((b5 : Nat) : Int), .pointer q5], .agg #[.int .u64 ((b5 : Nat) : Int), .pointer q5]] J17_22 (fun v J' => ∃ x : UX, v = .agg #[.int .u64 ((x.n 0 : Nat) : Int), .pointer (x.p 0)] ∧ (ERep J' (joinF 64 e5 e5) (x.n 0) (x.p 0)))) (by kernel_rfl) ?_
          intro φ22 xs22 J17_22 leJ
          rintro h22_3_0 _ h22_10_0 h22_11_0 _
          have h5_1 := ERep.mono leJ h5_1
          exact Fun.mono (joinOE_c h5_1 h5_1 (ok_of h5_0) (ok_of h5_0)) (fun v J' _ ⟨y0, y1, hv, g0⟩ => ⟨{ UX.d with n := fun j => y0, p := fun j => y1 }, hv, g0⟩)
        case c22_19 =>
          refine kcast (A := ∀ (φ22 : Nat → Nat) (xs22 : Xs) (J19_22 : IM), I17.Le J19_22 → (ERep J19_22 (joinF 64 e8 e5) ((xs22 3).n 0) ((xs22 3).p 0)) → (True) → (ERep J19_22 (joinF 64 e8 e11) ((xs22 10).n 0) ((xs22 10).p 0)) → (ERep J19_22 (joinF 64 e5 (joinF 64 e8 e11)) ((xs22 11).n 0) ((xs22 11).p 0)) → (True) → (ERep J19_22 (joinF 64 e5 e5) ((xs22 17).n 0) ((xs22 17).p 0)) → Fun Tryd.prog 30 #[.agg #[.int .u64 (((xs22 17).n 0 : Nat) : Int), .pointer ((xs22 17).p 0)], .agg #[.int .u64 ((b5 : Nat) : Int), .pointer q5]] J19_22 (fun v J' => ∃ x : UX, v = .bool true ∧ (True))) (by kernel_rfl) ?_
          intro φ22 xs22 J19_22 leJ
          rintro h22_3_0 _ h22_10_0 h22_11_0 _ h22_17_0
          have h5_1 := ERep.mono leJ h5_1
          exact Fun.mono (sameOE_c h22_17_0 h5_1 (ok_join (ok_of h5_0) (ok_of h5_0)).1 (ok_of h5_0) (fun k => by have q0 := (ok_join (ok_of h5_0) (ok_of h5_0)).2 k; omega)) (fun v J' _ h => ⟨UX.d, h, trivial⟩)
        case c22_24 =>
          refine kcast (A := ∀ (φ22 : Nat → Nat) (xs22 : Xs) (J24_22 : IM), I17.Le J24_22 → (ERep J24_22 (joinF 64 e8 e5) ((xs22 3).n 0) ((xs22 3).p 0)) → (True) → (ERep J24_22 (joinF 64 e8 e11) ((xs22 10).n 0) ((xs22 10).p 0)) → (ERep J24_22 (joinF 64 e5 (joinF 64 e8 e11)) ((xs22 11).n 0) ((xs22 11).p 0)) → (True) → (ERep J24_22 (joinF 64 e5 e5) ((xs22 17).n 0) ((xs22 17).p 0)) → (True) → Fun Tryd.prog 29 #[.agg #[.int .u64 ((b5 : Nat) : Int), .pointer q5], .agg #[.int .u64 ((b11 : Nat) : Int), .pointer q11]] J24_22 (fun v J' => ∃ x : UX, v = .bool true ∧ (True))) (by kernel_rfl) ?_
          intro φ22 xs22 J24_22 leJ
          rintro h22_3_0 _ h22_10_0 h22_11_0 _ h22_17_0 _
          have h5_1 := ERep.mono leJ h5_1
          have h11_1 := ERep.mono leJ h11_1
          exact Fun.mono (leqOE_c h5_1 h11_1 (ok_of h5_0) (ok_of h11_0)) (fun v J' _ h => ⟨UX.d, h.trans (congrArg Value.bool hc19), trivial⟩)
        case c22_29 =>
          refine kcast (A := ∀ (φ22 : Nat → Nat) (xs22 : Xs) (J29_22 : IM), I17.Le J29_22 → (ERep J29_22 (joinF 64 e8 e5) ((xs22 3).n 0) ((xs22 3).p 0)) → (True) → (ERep J29_22 (joinF 64 e8 e11) ((xs22 10).n 0) ((xs22 10).p 0)) → (ERep J29_22 (joinF 64 e5 (joinF 64 e8 e11)) ((xs22 11).n 0) ((xs22 11).p 0)) → (True) → (ERep J29_22 (joinF 64 e5 e5) ((xs22 17).n 0) ((xs22 17).p 0)) → (True) → (True) → Fun Tryd.prog 29 #[.agg #[.int .u64 ((b8 : Nat) : Int), .pointer q8], .agg #[.int .u64 ((b11 : Nat) : Int), .pointer q11]] J29_22 (fun v J' => ∃ x : UX, v = .bool true ∧ (True))) (by kernel_rfl) ?_
          intro φ22 xs22 J29_22 leJ
          rintro h22_3_0 _ h22_10_0 h22_11_0 _ h22_17_0 _ _
          have h8_1 := ERep.mono leJ h8_1
          have h11_1 := ERep.mono leJ h11_1
          exact Fun.mono (leqOE_c h8_1 h11_1 (ok_of h8_0) (ok_of h11_0)) (fun v J' _ h => ⟨UX.d, h.trans (congrArg Value.bool hc20), trivial⟩)
        case c22_35 =>
          refine kcast (A := ∀ (φ22 : Nat → Nat) (xs22 : Xs) (J35_22 : IM), I17.Le J35_22 → (ERep J35_22 (joinF 64 e8 e5) ((xs22 3).n 0) ((xs22 3).p 0)) → (True) → (ERep J35_22 (joinF 64 e8 e11) ((xs22 10).n 0) ((xs22 10).p 0)) → (ERep J35_22 (joinF 64 e5 (joinF 64 e8 e11)) ((xs22 11).n 0) ((xs22 11).p 0)) → (True) → (ERep J35_22 (joinF 64 e5 e5) ((xs22 17).n 0) ((xs22 17).p 0)) → (True) → (True) → (True) → Fun Tryd.prog 29 #[.agg #[.int .u64 ((b14 : Nat) : Int), .pointer p14], .agg #[.int .u64 ((b11 : Nat) : Int), .pointer q11]] J35_22 (fun v J' => ∃ x : UX, v = .bool true ∧ (True))) (by kernel_rfl) ?_
          intro φ22 xs22 J35_22 leJ
          rintro h22_3_0 _ h22_10_0 h22_11_0 _ h22_17_0 _ _ _
          have h11_1 := ERep.mono leJ h11_1
          have h14_0 := ERep.mono leJ h14_0
          exact Fun.mono (leqTE_c h14_0 h11_1 (ok_join (ok_of h5_0) (ok_of h8_0)).1 (ok_of h11_0) (fun k hk => by have q0 := (ok_join (ok_of h5_0) (ok_of h8_0)).2 k; have z0 := (leq_at (ok_of h5_0) (ok_of h11_0)).1 hc19 k hk; have z1 := (leq_at (ok_of h8_0) (ok_of h11_0)).1 hc20 k hk; have z2 := (leq_at (ok_of h5_0) (ok_of h8_0)).1 hc21 k hk; omega)) (fun v J' _ h => ⟨UX.d, h, trivial⟩)
        case c22_41 =>
          refine kcast (A := ∀ (φ22 : Nat → Nat) (xs22 : Xs) (J41_22 : IM), I17.Le J41_22 → (ERep J41_22 (joinF 64 e8 e5) ((xs22 3).n 0) ((xs22 3).p 0)) → (True) → (ERep J41_22 (joinF 64 e8 e11) ((xs22 10).n 0) ((xs22 10).p 0)) → (ERep J41_22 (joinF 64 e5 (joinF 64 e8 e11)) ((xs22 11).n 0) ((xs22 11).p 0)) → (True) → (ERep J41_22 (joinF 64 e5 e5) ((xs22 17).n 0) ((xs22 17).p 0)) → (True) → (True) → (True) → (True) → Fun Tryd.prog 29 #[.agg #[.int .u64 ((b5 : Nat) : Int), .pointer q5], .agg #[.int .u64 ((b8 : Nat) : Int), .pointer q8]] J41_22 (fun v J' => ∃ x : UX, v = .bool true ∧ (True))) (by kernel_rfl) ?_
          intro φ22 xs22 J41_22 leJ
          rintro h22_3_0 _ h22_10_0 h22_11_0 _ h22_17_0 _ _ _ _
          have h5_1 := ERep.mono leJ h5_1
          have h8_1 := ERep.mono leJ h8_1
          exact Fun.mono (leqOE_c h5_1 h8_1 (ok_of h5_0) (ok_of h8_0)) (fun v J' _ h => ⟨UX.d, h.trans (congrArg Value.bool hc21), trivial⟩)
        case c22_46 =>
          refine kcast (A := ∀ (φ22 : Nat → Nat) (xs22 : Xs) (J46_22 : IM), I17.Le J46_22 → (ERep J46_22 (joinF 64 e8 e5) ((xs22 3).n 0) ((xs22 3).p 0)) → (True) → (ERep J46_22 (joinF 64 e8 e11) ((xs22 10).n 0) ((xs22 10).p 0)) → (ERep J46_22 (joinF 64 e5 (joinF 64 e8 e11)) ((xs22 11).n 0) ((xs22 11).p 0)) → (True) → (ERep J46_22 (joinF 64 e5 e5) ((xs22 17).n 0) ((xs22 17).p 0)) → (True) → (True) → (True) → (True) → (True) → Fun Tryd.prog 29 #[.agg #[.int .u64 ((b8 : Nat) : Int), .pointer q8], .agg #[.int .u64 ((b11 : Nat) : Int), .pointer q11]] J46_22 (fun v J' => ∃ x : UX, v = .bool true ∧ (True))) (by kernel_rfl) ?_
          intro φ22 xs22 J46_22 leJ
          rintro h22_3_0 _ h22_10_0 h22_11_0 _ h22_17_0 _ _ _ _ _
          have h8_1 := ERep.mono leJ h8_1
          have h11_1 := ERep.mono leJ h11_1
          exact Fun.mono (leqOE_c h8_1 h11_1 (ok_of h8_0) (ok_of h11_0)) (fun v J' _ h => ⟨UX.d, h.trans (congrArg Value.bool hc20), trivial⟩)
        case c22_52 =>
          refine kcast (A := ∀ (φ22 : Nat → Nat) (xs22 : Xs) (J52_22 : IM), I17.Le J52_22 → (ERep J52_22 (joinF 64 e8 e5) ((xs22 3).n 0) ((xs22 3).p 0)) → (True) → (ERep J52_22 (joinF 64 e8 e11) ((xs22 10).n 0) ((xs22 10).p 0)) → (ERep J52_22 (joinF 64 e5 (joinF 64 e8 e11)) ((xs22 11).n 0) ((xs22 11).p 0)) → (True) → (ERep J52_22 (joinF 64 e5 e5) ((xs22 17).n 0) ((xs22 17).p 0)) → (True) → (True) → (True) → (True) → (True) → (True) → Fun Tryd.prog 29 #[.agg #[.int .u64 ((b5 : Nat) : Int), .pointer q5], .agg #[.int .u64 ((b11 : Nat) : Int), .pointer q11]] J52_22 (fun v J' => ∃ x : UX, v = .bool true ∧ (True))) (by kernel_rfl) ?_
          intro φ22 xs22 J52_22 leJ
          rintro h22_3_0 _ h22_10_0 h22_11_0 _ h22_17_0 _ _ _ _ _ _
          have h5_1 := ERep.mono leJ h5_1
          have h11_1 := ERep.mono leJ h11_1
          exact Fun.mono (leqOE_c h5_1 h11_1 (ok_of h5_0) (ok_of h11_0)) (fun v J' _ h => ⟨UX.d, h.trans (congrArg Value.bool hc19), trivial⟩)
        case k22 =>
          rintro φ22 xs22 I22 w22 le22 s h22_3_0 _ h22_10_0 h22_11_0 _ h22_17_0 _ _ _ _ _ _ _
          replace hT := Tab.mono le22 hT
          replace hla := BSl.mono le22 hla
          replace hlb := BSl.mono le22 hlb
          replace hlc := BSl.mono le22 hlc
          replace h5_1 := ERep.mono le22 h5_1
          replace h5_2 := RE.mono le22 h5_2
          replace h8_1 := ERep.mono le22 h8_1
          replace h8_2 := RE.mono le22 h8_2
          replace h11_1 := ERep.mono le22 h11_1
          replace h11_2 := RE.mono le22 h11_2
          replace h14_0 := ERep.mono le22 h14_0
          replace h17_0 := ERep.mono le22 h17_0
          refine wp_ret ?_
          refine ret_rule (C := []) [((φ6 0), .cells #[.int .u64 ((b5 : Nat) : Int), .pointer q5] 27), ((φ9 0), .cells #[.int .u64 ((b8 : Nat) : Int), .pointer q8] 27), ((φ12 0), .cells #[.int .u64 ((b11 : Nat) : Int), .pointer q11] 27), ((φ15 0), .cells #[.int .u64 ((b14 : Nat) : Int), .pointer p14] 27), ((φ18 0), .cells #[.int .u64 ((b17 : Nat) : Int), .pointer p17] 27)] [] (.bool true) [] [] s trivial (by kernel_rfl) ?_
          exact ⟨_, _, _, rfl, s, rfl⟩
      ·
        refine draw_rule (C := []) ⟨(fun φ23 xs23 => [.look 0 [.o 3, .o 3] [(φ15 0), (φ15 0)], .look 0 [.o 1, .o 1] [(φ9 0), (φ9 0)], .look 0 [.o 0, .o 0] [(φ6 0), (φ6 0)], .call 28 #[.agg #[.int .u64 ((b8 : Nat) : Int), .pointer q8], .agg #[.int .u64 ((b5 : Nat) : Int), .pointer q5]], .call 30 #[.agg #[.int .u64 ((b14 : Nat) : Int), .pointer p14], .agg #[.int .u64 (((xs23 3).n 0 : Nat) : Int), .pointer ((xs23 3).p 0)]], .look 0 [] [], .look 0 [.o 4, .o 4] [(φ18 0), (φ18 0)], .look 0 [.o 0, .o 0] [(φ6 0), (φ6 0)], .look 0 [.o 1, .o 1] [(φ9 0), (φ9 0)], .look 0 [.o 2, .o 2] [(φ12 0), (φ12 0)], .call 28 #[.agg #[.int .u64 ((b8 : Nat) : Int), .pointer q8], .agg #[.int .u64 ((b11 : Nat) : Int), .pointer q11]], .call 28 #[.agg #[.int .u64 ((b5 : Nat) : Int), .pointer q5], .agg #[.int .u64 (((xs23 10).n 0 : Nat) : Int), .pointer ((xs23 10).p 0)]], .call 30 #[.agg #[.int .u64 ((b17 : Nat) : Int), .pointer p17], .agg #[.int .u64 (((xs23 11).n 0 : Nat) : Int), .pointer ((xs23 11).p 0)]], .look 0 [] [], .look 0 [] [], .look 0 [.o 0, .o 0] [(φ6 0), (φ6 0)], .look 0 [.o 0, .o 0] [(φ6 0), (φ6 0)], .call 28 #[.agg #[.int .u64 ((b5 : Nat) : Int), .pointer q5], .agg #[.int .u64 ((b5 : Nat) : Int), .pointer q5]], .look 0 [.o 0, .o 0] [(φ6 0), (φ6 0)], .call 30 #[.agg #[.int .u64 (((xs23 17).n 0 : Nat) : Int), .pointer ((xs23 17).p 0)], .agg #[.int .u64 ((b5 : Nat) : Int), .pointer q5]], .look 0 [] [], .look 0 [] [], .look 0 [.o 0, .o 0] [(φ6 0), (φ6 0)], .look 0 [.o 2, .o 2] [(φ12 0), (φ12 0)], .call 29 #[.agg #[.int .u64 ((b5 : Nat) : Int), .pointer q5], .agg #[.int .u64 ((b11 : Nat) : Int), .pointer q11]], .look 0 [] [], .look 0 [] [], .look 0 [.o 1, .o 1] [(φ9 0), (φ9 0)], .look 0 [.o 2, .o 2] [(φ12 0), (φ12 0)], .call 29 #[.agg #[.int .u64 ((b8 : Nat) : Int), .pointer q8], .agg #[.int .u64 ((b11 : Nat) : Int), .pointer q11]], .look 0 [] [], .look 0 [] [], .look 0 [] [], .look 0 [.o 3, .o 3] [(φ15 0), (φ15 0)], .look 0 [.o 2, .o 2] [(φ12 0), (φ12 0)], .call 29 #[.agg #[.int .u64 ((b14 : Nat) : Int), .pointer p14], .agg #[.int .u64 ((b11 : Nat) : Int), .pointer q11]], .look 0 [] [], .look 0 [] [], .look 0 [] [], .look 0 [.o 0, .o 0] [(φ6 0), (φ6 0)], .look 0 [.o 1, .o 1] [(φ9 0), (φ9 0)], .call 29 #[.agg #[.int .u64 ((b5 : Nat) : Int), .pointer q5], .agg #[.int .u64 ((b8 : Nat) : Int), .pointer q8]], .look 0 [] [], .look 0 [] [], .skip, .skip, .skip, .skip, .look 0 [] [], .look 0 [] [], .skip, .skip, .skip, .look 0 [] [], .look 0 [] [], .look 0 [] []]), (fun φ23 xs23 => [.agg #[.int .u64 ((b14 : Nat) : Int), .pointer p14], .agg #[.int .u64 ((b8 : Nat) : Int), .pointer q8], .agg #[.int .u64 ((b5 : Nat) : Int), .pointer q5], .agg #[.int .u64 (((xs23 3).n 0 : Nat) : Int), .pointer ((xs23 3).p 0)], .bool true, .bool true, .agg #[.int .u64 ((b17 : Nat) : Int), .pointer p17], .agg #[.int .u64 ((b5 : Nat) : Int), .pointer q5], .agg #[.int .u64 ((b8 : Nat) : Int), .pointer q8], .agg #[.int .u64 ((b11 : Nat) : Int), .pointer q11], .agg #[.int .u64 (((xs23 10).n 0 : Nat) : Int), .pointer ((xs23 10).p 0)], .agg #[.int .u64 (((xs23 11).n 0 : Nat) : Int), .pointer ((xs23 11).p 0)], .bool true, .bool true, .bool true, .agg #[.int .u64 ((b5 : Nat) : Int), .pointer q5], .agg #[.int .u64 ((b5 : Nat) : Int), .pointer q5], .agg #[.int .u64 (((xs23 17).n 0 : Nat) : Int), .pointer ((xs23 17).p 0)], .agg #[.int .u64 ((b5 : Nat) : Int), .pointer q5], .bool true, .bool true, .bool true, .agg #[.int .u64 ((b5 : Nat) : Int), .pointer q5], .agg #[.int .u64 ((b11 : Nat) : Int), .pointer q11], .bool true, .bool false, .bool false, .agg #[.int .u64 ((b8 : Nat) : Int), .pointer q8], .agg #[.int .u64 ((b11 : Nat) : Int), .pointer q11], .bool true, .bool false, .bool false, .bool false, .agg #[.int .u64 ((b14 : Nat) : Int), .pointer p14], .agg #[.int .u64 ((b11 : Nat) : Int), .pointer q11], .bool true, .bool true, .bool true, .bool true, .agg #[.int .u64 ((b5 : Nat) : Int), .pointer q5], .agg #[.int .u64 ((b8 : Nat) : Int), .pointer q8], .bool false, .bool true, .bool true, undef, undef, undef, undef, .bool true, .bool true, undef, undef, undef, .bool true, .bool true, .bool true]), (fun φ23 xs23 => [[((φ6 0), .cells #[.int .u64 ((b5 : Nat) : Int), .pointer q5] 27), ((φ9 0), .cells #[.int .u64 ((b8 : Nat) : Int), .pointer q8] 27), ((φ12 0), .cells #[.int .u64 ((b11 : Nat) : Int), .pointer q11] 27), ((φ15 0), .cells #[.int .u64 ((b14 : Nat) : Int), .pointer p14] 27), ((φ18 0), .cells #[.int .u64 ((b17 : Nat) : Int), .pointer p17] 27)]]), (fun φ23 xs23 => [[default, default, default, default, default, default, default, default, default, default, default, default, default, default, default, default, default, default, default, default, default, default, default, default, default, default, default, default, default, default, default, default, default, default, default, default, default, default, default, default, default, default, default, default, default, default, default, default, default, default, default, default, default, default, default, default]]), [], [1, 1, 1, 3, 3, 1, 1, 1, 1, 1, 3, 3, 3, 1, 1, 1, 1, 3, 1, 3, 1, 1, 1, 1, 3, 1, 1, 1, 1, 3, 1, 1, 1, 1, 1, 3, 1, 1, 1, 1, 1, 3, 1, 1, 0, 0, 0, 0, 1, 1, 0, 0, 0, 1, 1, 1]⟩ (fun j => ([MP.any, MP.any, MP.any, ⟨fun x J => ERep J (joinF 64 e8 e5) (x.n 0) (x.p 0), fun le h => ERep.mono le h⟩, MP.any, MP.any, MP.any, MP.any, MP.any, MP.any, ⟨fun x J => ERep J (joinF 64 e8 e11) (x.n 0) (x.p 0), fun le h => ERep.mono le h⟩, ⟨fun x J => ERep J (joinF 64 e5 (joinF 64 e8 e11)) (x.n 0) (x.p 0), fun le h => ERep.mono le h⟩, MP.any, MP.any, MP.any, MP.any, MP.any, ⟨fun x J => ERep J (joinF 64 e5 e5) (x.n 0) (x.p 0), fun le h => ERep.mono le h⟩, MP.any, MP.any, MP.any, MP.any, MP.any, MP.any, MP.any, MP.any, MP.any, MP.any, MP.any, MP.any, MP.any, MP.any, MP.any, MP.any, MP.any, MP.any, MP.any, MP.any, MP.any, MP.any, MP.any, MP.any, MP.any, MP.any, MP.any, MP.any, MP.any, MP.any, MP.any, MP.any, MP.any, MP.any, MP.any, MP.any, MP.any, MP.any] : List MP).getD j MP.any) [3, 4, 10, 11, 12, 17, 19, 24, 29, 35, 41] [] [] (fun φ23 xs23 => []) (fun φ23 xs23 => [(38, .agg #[.int .u64 ((b14 : Nat) : Int), .pointer p14]), (39, .agg #[.int .u64 ((b8 : Nat) : Int), .pointer q8]), (40, .agg #[.int .u64 ((b5 : Nat) : Int), .pointer q5]), (41, .agg #[.int .u64 (((xs23 3).n 0 : Nat) : Int), .pointer ((xs23 3).p 0)]), (42, .bool true), (43, .bool true), (44, .agg #[.int .u64 ((b17 : Nat) : Int), .pointer p17]), (45, .agg #[.int .u64 ((b5 : Nat) : Int), .pointer q5]), (46, .agg #[.int .u64 ((b8 : Nat) : Int), .pointer q8]), (47, .agg #[.int .u64 ((b11 : Nat) : Int), .pointer q11]), (48, .agg #[.int .u64 (((xs23 10).n 0 : Nat) : Int), .pointer ((xs23 10).p 0)]), (49, .agg #[.int .u64 (((xs23 11).n 0 : Nat) : Int), .pointer ((xs23 11).p 0)]), (50, .bool true), (51, .bool true), (52, .bool true), (53, .agg #[.int .u64 ((b5 : Nat) : Int), .pointer q5]), (54, .agg #[.int .u64 ((b5 : Nat) : Int), .pointer q5]), (55, .agg #[.int .u64 (((xs23 17).n 0 : Nat) : Int), .pointer ((xs23 17).p 0)]), (56, .agg #[.int .u64 ((b5 : Nat) : Int), .pointer q5]), (57, .bool true), (58, .bool true), (59, .bool true), (60, .agg #[.int .u64 ((b5 : Nat) : Int), .pointer q5]), (61, .agg #[.int .u64 ((b11 : Nat) : Int), .pointer q11]), (62, .bool true), (63, .bool false), (64, .bool false), (65, .agg #[.int .u64 ((b8 : Nat) : Int), .pointer q8]), (66, .agg #[.int .u64 ((b11 : Nat) : Int), .pointer q11]), (67, .bool true), (68, .bool false), (69, .bool false), (70, .bool false), (71, .agg #[.int .u64 ((b14 : Nat) : Int), .pointer p14]), (72, .agg #[.int .u64 ((b11 : Nat) : Int), .pointer q11]), (73, .bool true), (74, .bool true), (75, .bool true), (76, .bool true), (77, .agg #[.int .u64 ((b5 : Nat) : Int), .pointer q5]), (78, .agg #[.int .u64 ((b8 : Nat) : Int), .pointer q8]), (79, .bool false), (80, .bool true), (81, .bool true), (82, undef), (83, undef), (84, undef), (85, undef), (86, .bool true), (87, .bool true), (88, undef), (89, undef), (90, undef), (91, .bool true), (92, .bool true), (6, .bool true)]) (fun φ23 xs23 => [((φ6 0), .cells #[.int .u64 ((b5 : Nat) : Int), .pointer q5] 27), ((φ9 0), .cells #[.int .u64 ((b8 : Nat) : Int), .pointer q8] 27), ((φ12 0), .cells #[.int .u64 ((b11 : Nat) : Int), .pointer q11] 27), ((φ15 0), .cells #[.int .u64 ((b14 : Nat) : Int), .pointer p14] 27), ((φ18 0), .cells #[.int .u64 ((b17 : Nat) : Int), .pointer p17] 27)]) s trivial (by kernel_rfl) (by kernel_rfl) (fun _ _ => by kernel_rfl) (fun _ _ => by kernel_rfl) ⟨fun _ _ => by kernel_rfl, fun _ _ => by kernel_rfl, fun _ _ => by kernel_rfl, fun _ _ => by kernel_rfl⟩ (fun _ _ _ => by kernel_rfl) (fun _ _ => by kernel_rfl) (fun _ _ => by kernel_rfl) (fun _ _ => by kernel_rfl) (fun _ _ => by kernel_rfl) (fun _ _ => by kernel_rfl) trivial trivial (by kernel_rfl) ⟨?c23_3, ?c23_4, ?c23_10, ?c23_11, ?c23_12, ?c23_17, ?c23_19, ?c23_24, ?c23_29, ?c23_35, ?c23_41, trivial⟩ ?k23
        case c23_3 =>
          refine kcast (A := ∀ (φ23 : Nat → Nat) (xs23 : Xs) (J3_23 : IM), I17.Le J3_23 → Fun Tryd.prog 28 #[.agg #[.int .u64 ((b8 : Nat) : Int), .pointer q8], .agg #[.int .u64 ((b5 : Nat) : Int), .pointer q5]] J3_23 (fun v J' => ∃ x : UX, v = .agg #[.int .u64 ((x.n 0 : Nat) : Int), .pointer (x.p 0)] ∧ (ERep J' (joinF 64 e8 e5) (x.n 0) (x.p 0)))) (by kernel_rfl) ?_
          intro φ23 xs23 J3_23 leJ
          have h5_1 := ERep.mono leJ h5_1
          have h8_1 := ERep.mono leJ h8_1
          exact Fun.mono (joinOE_c h8_1 h5_1 (ok_of h8_0) (ok_of h5_0)) (fun v J' _ ⟨y0, y1, hv, g0⟩ => ⟨{ UX.d with n := fun j => y0, p := fun j => y1 }, hv, g0⟩)
        case c23_4 =>
          refine kcast (A := ∀ (φ23 : Nat → Nat) (xs23 : Xs) (J4_23 : IM), I17.Le J4_23 → (ERep J4_23 (joinF 64 e8 e5) ((xs23 3).n 0) ((xs23 3).p 0)) → Fun Tryd.prog 30 #[.agg #[.int .u64 ((b14 : Nat) : Int), .pointer p14], .agg #[.int .u64 (((xs23 3).n 0 : Nat) : Int), .pointer ((xs23 3).p 0)]] J4_23 (fun v J' => ∃ x : UX, v = .bool true ∧ (True))) (by kernel_rfl) ?_
          intro φ23 xs23 J4_23 leJ
          rintro h23_3_0
          have h14_0 := ERep.mono leJ h14_0
          exact Fun.mono (sameOE_c h14_0 h23_3_0 (ok_join (ok_of h5_0) (ok_of h8_0)).1 (ok_join (ok_of h8_0) (ok_of h5_0)).1 (fun k => by have q0 := (ok_join (ok_of h5_0) (ok_of h8_0)).2 k; have q1 := (ok_join (ok_of h8_0) (ok_of h5_0)).2 k; omega)) (fun v J' _ h => ⟨UX.d, h, trivial⟩)
        case c23_10 =>
          refine kcast (A := ∀ (φ23 : Nat → Nat) (xs23 : Xs) (J10_23 : IM), I17.Le J10_23 → (ERep J10_23 (joinF 64 e8 e5) ((xs23 3).n 0) ((xs23 3).p 0)) → (True) → Fun Tryd.prog 28 #[.agg #[.int .u64 ((b8 : Nat) : Int), .pointer q8], .agg #[.int .u64 ((b11 : Nat) : Int), .pointer q11]] J10_23 (fun v J' => ∃ x : UX, v = .agg #[.int .u64 ((x.n 0 : Nat) : Int), .pointer (x.p 0)] ∧ (ERep J' (joinF 64 e8 e11) (x.n 0) (x.p 0)))) (by kernel_rfl) ?_
          intro φ23 xs23 J10_23 leJ
          rintro h23_3_0 _
          have h8_1 := ERep.mono leJ h8_1
          have h11_1 := ERep.mono leJ h11_1
          exact Fun.mono (joinOE_c h8_1 h11_1 (ok_of h8_0) (ok_of h11_0)) (fun v J' _ ⟨y0, y1, hv, g0⟩ => ⟨{ UX.d with n := fun j => y0, p := fun j => y1 }, hv, g0⟩)
        case c23_11 =>
          refine kcast (A := ∀ (φ23 : Nat → Nat) (xs23 : Xs) (J11_23 : IM), I17.Le J11_23 → (ERep J11_23 (joinF 64 e8 e5) ((xs23 3).n 0) ((xs23 3).p 0)) → (True) → (ERep J11_23 (joinF 64 e8 e11) ((xs23 10).n 0) ((xs23 10).p 0)) → Fun Tryd.prog 28 #[.agg #[.int .u64 ((b5 : Nat) : Int), .pointer q5], .agg #[.int .u64 (((xs23 10).n 0 : Nat) : Int), .pointer ((xs23 10).p 0)]] J11_23 (fun v J' => ∃ x : UX, v = .agg #[.int .u64 ((x.n 0 : Nat) : Int), .pointer (x.p 0)] ∧ (ERep J' (joinF 64 e5 (joinF 64 e8 e11)) (x.n 0) (x.p 0)))) (by kernel_rfl) ?_
          intro φ23 xs23 J11_23 leJ
          rintro h23_3_0 _ h23_10_0
          have h5_1 := ERep.mono leJ h5_1
          exact Fun.mono (joinOE_c h5_1 h23_10_0 (ok_of h5_0) (ok_join (ok_of h8_0) (ok_of h11_0)).1) (fun v J' _ ⟨y0, y1, hv, g0⟩ => ⟨{ UX.d with n := fun j => y0, p := fun j => y1 }, hv, g0⟩)
        case c23_12 =>
          refine kcast (A := ∀ (φ23 : Nat → Nat) (xs23 : Xs) (J12_23 : IM), I17.Le J12_23 → (ERep J12_23 (joinF 64 e8 e5) ((xs23 3).n 0) ((xs23 3).p 0)) → (True) → (ERep J12_23 (joinF 64 e8 e11) ((xs23 10).n 0) ((xs23 10).p 0)) → (ERep J12_23 (joinF 64 e5 (joinF 64 e8 e11)) ((xs23 11).n 0) ((xs23 11).p 0)) → Fun Tryd.prog 30 #[.agg #[.int .u64 ((b17 : Nat) : Int), .pointer p17], .agg #[.int .u64 (((xs23 11).n 0 : Nat) : Int), .pointer ((xs23 11).p 0)]] J12_23 (fun v J' => ∃ x : UX, v = .bool true ∧ (True))) (by kernel_rfl) ?_
          intro φ23 xs23 J12_23 leJ
          rintro h23_3_0 _ h23_10_0 h23_11_0
          have h17_0 := ERep.mono leJ h17_0
          exact Fun.mono (sameOE_c h17_0 h23_11_0 (ok_join (ok_join (ok_of h5_0) (ok_of h8_0)).1 (ok_of h11_0)).1 (ok_join (ok_of h5_0) (ok_join (ok_of h8_0) (ok_of h11_0)).1).1 (fun k => by have q0 := (ok_join (ok_join (ok_of h5_0) (ok_of h8_0)).1 (ok_of h11_0)).2 k; have q1 := (ok_join (ok_of h5_0) (ok_of h8_0)).2 k; have q2 := (ok_join (ok_of h5_0) (ok_join (ok_of h8_0) (ok_of h11_0)).1).2 k; have q3 := (ok_join (ok_of h8_0) (ok_of h11_0)).2 k; omega)) (fun v J' _ h => ⟨UX.d, h, trivial⟩)
        case c23_17 =>
          refine kcast (A := ∀ (φ23 : Nat → Nat) (xs23 : Xs) (J17_23 : IM), I17.Le J17_23 → (ERep J17_23 (joinF 64 e8 e5) ((xs23 3).n 0) ((xs23 3).p 0)) → (True) → (ERep J17_23 (joinF 64 e8 e11) ((xs23 10).n 0) ((xs23 10).p 0)) → (ERep J17_23 (joinF 64 e5 (joinF 64 e8 e11)) ((xs23 11).n 0) ((xs23 11).p 0)) → (True) → Fun Tryd.prog 28 #[.agg #[.int .u64 ((b5 : Nat) : Int), .pointer q5], .agg #[.int .u64 ((b5 : Nat) : Int), .pointer q5]] J17_23 (fun v J' => ∃ x : UX, v = .agg #[.int .u64 ((x.n 0 : Nat) : Int), .pointer (x.p 0)] ∧ (ERep J' (joinF 64 e5 e5) (x.n 0) (x.p 0)))) (by kernel_rfl) ?_
          intro φ23 xs23 J17_23 leJ
          rintro h23_3_0 _ h23_10_0 h23_11_0 _
          have h5_1 := ERep.mono leJ h5_1
          exact Fun.mono (joinOE_c h5_1 h5_1 (ok_of h5_0) (ok_of h5_0)) (fun v J' _ ⟨y0, y1, hv, g0⟩ => ⟨{ UX.d with n := fun j => y0, p := fun j => y1 }, hv, g0⟩)
        case c23_19 =>
          refine kcast (A := ∀ (φ23 : Nat → Nat) (xs23 : Xs) (J19_23 : IM), I17.Le J19_23 → (ERep J19_23 (joinF 64 e8 e5) ((xs23 3).n 0) ((xs23 3).p 0)) → (True) → (ERep J19_23 (joinF 64 e8 e11) ((xs23 10).n 0) ((xs23 10).p 0)) → (ERep J19_23 (joinF 64 e5 (joinF 64 e8 e11)) ((xs23 11).n 0) ((xs23 11).p 0)) → (True) → (ERep J19_23 (joinF 64 e5 e5) ((xs23 17).n 0) ((xs23 17).p 0)) → Fun Tryd.prog 30 #[.agg #[.int .u64 (((xs23 17).n 0 : Nat) : Int), .pointer ((xs23 17).p 0)], .agg #[.int .u64 ((b5 : Nat) : Int), .pointer q5]] J19_23 (fun v J' => ∃ x : UX, v = .bool true ∧ (True))) (by kernel_rfl) ?_
          intro φ23 xs23 J19_23 leJ
          rintro h23_3_0 _ h23_10_0 h23_11_0 _ h23_17_0
          have h5_1 := ERep.mono leJ h5_1
          exact Fun.mono (sameOE_c h23_17_0 h5_1 (ok_join (ok_of h5_0) (ok_of h5_0)).1 (ok_of h5_0) (fun k => by have q0 := (ok_join (ok_of h5_0) (ok_of h5_0)).2 k; omega)) (fun v J' _ h => ⟨UX.d, h, trivial⟩)
        case c23_24 =>
          refine kcast (A := ∀ (φ23 : Nat → Nat) (xs23 : Xs) (J24_23 : IM), I17.Le J24_23 → (ERep J24_23 (joinF 64 e8 e5) ((xs23 3).n 0) ((xs23 3).p 0)) → (True) → (ERep J24_23 (joinF 64 e8 e11) ((xs23 10).n 0) ((xs23 10).p 0)) → (ERep J24_23 (joinF 64 e5 (joinF 64 e8 e11)) ((xs23 11).n 0) ((xs23 11).p 0)) → (True) → (ERep J24_23 (joinF 64 e5 e5) ((xs23 17).n 0) ((xs23 17).p 0)) → (True) → Fun Tryd.prog 29 #[.agg #[.int .u64 ((b5 : Nat) : Int), .pointer q5], .agg #[.int .u64 ((b11 : Nat) : Int), .pointer q11]] J24_23 (fun v J' => ∃ x : UX, v = .bool true ∧ (True))) (by kernel_rfl) ?_
          intro φ23 xs23 J24_23 leJ
          rintro h23_3_0 _ h23_10_0 h23_11_0 _ h23_17_0 _
          have h5_1 := ERep.mono leJ h5_1
          have h11_1 := ERep.mono leJ h11_1
          exact Fun.mono (leqOE_c h5_1 h11_1 (ok_of h5_0) (ok_of h11_0)) (fun v J' _ h => ⟨UX.d, h.trans (congrArg Value.bool hc19), trivial⟩)
        case c23_29 =>
          refine kcast (A := ∀ (φ23 : Nat → Nat) (xs23 : Xs) (J29_23 : IM), I17.Le J29_23 → (ERep J29_23 (joinF 64 e8 e5) ((xs23 3).n 0) ((xs23 3).p 0)) → (True) → (ERep J29_23 (joinF 64 e8 e11) ((xs23 10).n 0) ((xs23 10).p 0)) → (ERep J29_23 (joinF 64 e5 (joinF 64 e8 e11)) ((xs23 11).n 0) ((xs23 11).p 0)) → (True) → (ERep J29_23 (joinF 64 e5 e5) ((xs23 17).n 0) ((xs23 17).p 0)) → (True) → (True) → Fun Tryd.prog 29 #[.agg #[.int .u64 ((b8 : Nat) : Int), .pointer q8], .agg #[.int .u64 ((b11 : Nat) : Int), .pointer q11]] J29_23 (fun v J' => ∃ x : UX, v = .bool true ∧ (True))) (by kernel_rfl) ?_
          intro φ23 xs23 J29_23 leJ
          rintro h23_3_0 _ h23_10_0 h23_11_0 _ h23_17_0 _ _
          have h8_1 := ERep.mono leJ h8_1
          have h11_1 := ERep.mono leJ h11_1
          exact Fun.mono (leqOE_c h8_1 h11_1 (ok_of h8_0) (ok_of h11_0)) (fun v J' _ h => ⟨UX.d, h.trans (congrArg Value.bool hc20), trivial⟩)
        case c23_35 =>
          refine kcast (A := ∀ (φ23 : Nat → Nat) (xs23 : Xs) (J35_23 : IM), I17.Le J35_23 → (ERep J35_23 (joinF 64 e8 e5) ((xs23 3).n 0) ((xs23 3).p 0)) → (True) → (ERep J35_23 (joinF 64 e8 e11) ((xs23 10).n 0) ((xs23 10).p 0)) → (ERep J35_23 (joinF 64 e5 (joinF 64 e8 e11)) ((xs23 11).n 0) ((xs23 11).p 0)) → (True) → (ERep J35_23 (joinF 64 e5 e5) ((xs23 17).n 0) ((xs23 17).p 0)) → (True) → (True) → (True) → Fun Tryd.prog 29 #[.agg #[.int .u64 ((b14 : Nat) : Int), .pointer p14], .agg #[.int .u64 ((b11 : Nat) : Int), .pointer q11]] J35_23 (fun v J' => ∃ x : UX, v = .bool true ∧ (True))) (by kernel_rfl) ?_
          intro φ23 xs23 J35_23 leJ
          rintro h23_3_0 _ h23_10_0 h23_11_0 _ h23_17_0 _ _ _
          have h11_1 := ERep.mono leJ h11_1
          have h14_0 := ERep.mono leJ h14_0
          exact Fun.mono (leqTE_c h14_0 h11_1 (ok_join (ok_of h5_0) (ok_of h8_0)).1 (ok_of h11_0) (fun k hk => by have q0 := (ok_join (ok_of h5_0) (ok_of h8_0)).2 k; have z0 := (leq_at (ok_of h5_0) (ok_of h11_0)).1 hc19 k hk; have z1 := (leq_at (ok_of h8_0) (ok_of h11_0)).1 hc20 k hk; omega)) (fun v J' _ h => ⟨UX.d, h, trivial⟩)
        case c23_41 =>
          refine kcast (A := ∀ (φ23 : Nat → Nat) (xs23 : Xs) (J41_23 : IM), I17.Le J41_23 → (ERep J41_23 (joinF 64 e8 e5) ((xs23 3).n 0) ((xs23 3).p 0)) → (True) → (ERep J41_23 (joinF 64 e8 e11) ((xs23 10).n 0) ((xs23 10).p 0)) → (ERep J41_23 (joinF 64 e5 (joinF 64 e8 e11)) ((xs23 11).n 0) ((xs23 11).p 0)) → (True) → (ERep J41_23 (joinF 64 e5 e5) ((xs23 17).n 0) ((xs23 17).p 0)) → (True) → (True) → (True) → (True) → Fun Tryd.prog 29 #[.agg #[.int .u64 ((b5 : Nat) : Int), .pointer q5], .agg #[.int .u64 ((b8 : Nat) : Int), .pointer q8]] J41_23 (fun v J' => ∃ x : UX, v = .bool false ∧ (True))) (by kernel_rfl) ?_
          intro φ23 xs23 J41_23 leJ
          rintro h23_3_0 _ h23_10_0 h23_11_0 _ h23_17_0 _ _ _ _
          have h5_1 := ERep.mono leJ h5_1
          have h8_1 := ERep.mono leJ h8_1
          exact Fun.mono (leqOE_c h5_1 h8_1 (ok_of h5_0) (ok_of h8_0)) (fun v J' _ h => ⟨UX.d, h.trans (congrArg Value.bool hc21), trivial⟩)
        case k23 =>
          rintro φ23 xs23 I23 w23 le23 s h23_3_0 _ h23_10_0 h23_11_0 _ h23_17_0 _ _ _ _ _
          replace hT := Tab.mono le23 hT
          replace hla := BSl.mono le23 hla
          replace hlb := BSl.mono le23 hlb
          replace hlc := BSl.mono le23 hlc
          replace h5_1 := ERep.mono le23 h5_1
          replace h5_2 := RE.mono le23 h5_2
          replace h8_1 := ERep.mono le23 h8_1
          replace h8_2 := RE.mono le23 h8_2
          replace h11_1 := ERep.mono le23 h11_1
          replace h11_2 := RE.mono le23 h11_2
          replace h14_0 := ERep.mono le23 h14_0
          replace h17_0 := ERep.mono le23 h17_0
          refine wp_ret ?_
          refine ret_rule (C := []) [((φ6 0), .cells #[.int .u64 ((b5 : Nat) : Int), .pointer q5] 27), ((φ9 0), .cells #[.int .u64 ((b8 : Nat) : Int), .pointer q8] 27), ((φ12 0), .cells #[.int .u64 ((b11 : Nat) : Int), .pointer q11] 27), ((φ15 0), .cells #[.int .u64 ((b14 : Nat) : Int), .pointer p14] 27), ((φ18 0), .cells #[.int .u64 ((b17 : Nat) : Int), .pointer p17] 27)] [] (.bool true) [] [] s trivial (by kernel_rfl) ?_
          exact ⟨_, _, _, rfl, s, rfl⟩
    ·
      rcases Bool.eq_false_or_eq_true (leqF 64 e5 e8) with hc24 | hc24
      ·
        refine draw_rule (C := []) ⟨(fun φ25 xs25 => [.look 0 [.o 3, .o 3] [(φ15 0), (φ15 0)], .look 0 [.o 1, .o 1] [(φ9 0), (φ9 0)], .look 0 [.o 0, .o 0] [(φ6 0), (φ6 0)], .call 28 #[.agg #[.int .u64 ((b8 : Nat) : Int), .pointer q8], .agg #[.int .u64 ((b5 : Nat) : Int), .pointer q5]], .call 30 #[.agg #[.int .u64 ((b14 : Nat) : Int), .pointer p14], .agg #[.int .u64 (((xs25 3).n 0 : Nat) : Int), .pointer ((xs25 3).p 0)]], .look 0 [] [], .look 0 [.o 4, .o 4] [(φ18 0), (φ18 0)], .look 0 [.o 0, .o 0] [(φ6 0), (φ6 0)], .look 0 [.o 1, .o 1] [(φ9 0), (φ9 0)], .look 0 [.o 2, .o 2] [(φ12 0), (φ12 0)], .call 28 #[.agg #[.int .u64 ((b8 : Nat) : Int), .pointer q8], .agg #[.int .u64 ((b11 : Nat) : Int), .pointer q11]], .call 28 #[.agg #[.int .u64 ((b5 : Nat) : Int), .pointer q5], .agg #[.int .u64 (((xs25 10).n 0 : Nat) : Int), .pointer ((xs25 10).p 0)]], .call 30 #[.agg #[.int .u64 ((b17 : Nat) : Int), .pointer p17], .agg #[.int .u64 (((xs25 11).n 0 : Nat) : Int), .pointer ((xs25 11).p 0)]], .look 0 [] [], .look 0 [] [], .look 0 [.o 0, .o 0] [(φ6 0), (φ6 0)], .look 0 [.o 0, .o 0] [(φ6 0), (φ6 0)], .call 28 #[.agg #[.int .u64 ((b5 : Nat) : Int), .pointer q5], .agg #[.int .u64 ((b5 : Nat) : Int), .pointer q5]], .look 0 [.o 0, .o 0] [(φ6 0), (φ6 0)], .call 30 #[.agg #[.int .u64 (((xs25 17).n 0 : Nat) : Int), .pointer ((xs25 17).p 0)], .agg #[.int .u64 ((b5 : Nat) : Int), .pointer q5]], .look 0 [] [], .look 0 [] [], .look 0 [.o 0, .o 0] [(φ6 0), (φ6 0)], .look 0 [.o 2, .o 2] [(φ12 0), (φ12 0)], .call 29 #[.agg #[.int .u64 ((b5 : Nat) : Int), .pointer q5], .agg #[.int .u64 ((b11 : Nat) : Int), .pointer q11]], .look 0 [] [], .look 0 [] [], .look 0 [.o 1, .o 1] [(φ9 0), (φ9 0)], .look 0 [.o 2, .o 2] [(φ12 0), (φ12 0)], .call 29 #[.agg #[.int .u64 ((b8 : Nat) : Int), .pointer q8], .agg #[.int .u64 ((b11 : Nat) : Int), .pointer q11]], .look 0 [] [], .look 0 [] [], .look 0 [] [], .skip, .skip, .skip, .look 0 [] [], .look 0 [] [], .look 0 [] [], .look 0 [.o 0, .o 0] [(φ6 0), (φ6 0)], .look 0 [.o 1, .o 1] [(φ9 0), (φ9 0)], .call 29 #[.agg #[.int .u64 ((b5 : Nat) : Int), .pointer q5], .agg #[.int .u64 ((b8 : Nat) : Int), .pointer q8]], .look 0 [] [], .look 0 [] [], .look 0 [.o 1, .o 1] [(φ9 0), (φ9 0)], .look 0 [.o 2, .o 2] [(φ12 0), (φ12 0)], .call 29 #[.agg #[.int .u64 ((b8 : Nat) : Int), .pointer q8], .agg #[.int .u64 ((b11 : Nat) : Int), .pointer q11]], .look 0 [] [], .look 0 [] [], .look 0 [] [], .skip, .skip, .skip, .look 0 [] [], .look 0 [] [], .look 0 [] []]), (fun φ25 xs25 => [.agg #[.int .u64 ((b14 : Nat) : Int), .pointer p14], .agg #[.int .u64 ((b8 : Nat) : Int), .pointer q8], .agg #[.int .u64 ((b5 : Nat) : Int), .pointer q5], .agg #[.int .u64 (((xs25 3).n 0 : Nat) : Int), .pointer ((xs25 3).p 0)], .bool true, .bool true, .agg #[.int .u64 ((b17 : Nat) : Int), .pointer p17], .agg #[.int .u64 ((b5 : Nat) : Int), .pointer q5], .agg #[.int .u64 ((b8 : Nat) : Int), .pointer q8], .agg #[.int .u64 ((b11 : Nat) : Int), .pointer q11], .agg #[.int .u64 (((xs25 10).n 0 : Nat) : Int), .pointer ((xs25 10).p 0)], .agg #[.int .u64 (((xs25 11).n 0 : Nat) : Int), .pointer ((xs25 11).p 0)], .bool true, .bool true, .bool true, .agg #[.int .u64 ((b5 : Nat) : Int), .pointer q5], .agg #[.int .u64 ((b5 : Nat) : Int), .pointer q5], .agg #[.int .u64 (((xs25 17).n 0 : Nat) : Int), .pointer ((xs25 17).p 0)], .agg #[.int .u64 ((b5 : Nat) : Int), .pointer q5], .bool true, .bool true, .bool true, .agg #[.int .u64 ((b5 : Nat) : Int), .pointer q5], .agg #[.int .u64 ((b11 : Nat) : Int), .pointer q11], .bool true, .bool false, .bool false, .agg #[.int .u64 ((b8 : Nat) : Int), .pointer q8], .agg #[.int .u64 ((b11 : Nat) : Int), .pointer q11], .bool false, .bool true, .bool true, .bool true, undef, undef, undef, .bool true, .bool true, .bool true, .agg #[.int .u64 ((b5 : Nat) : Int), .pointer q5], .agg #[.int .u64 ((b8 : Nat) : Int), .pointer q8], .bool true, .bool false, .bool false, .agg #[.int .u64 ((b8 : Nat) : Int), .pointer q8], .agg #[.int .u64 ((b11 : Nat) : Int), .pointer q11], .bool false, .bool true, .bool true, .bool true, undef, undef, undef, .bool true, .bool true, .bool true]), (fun φ25 xs25 => [[((φ6 0), .cells #[.int .u64 ((b5 : Nat) : Int), .pointer q5] 27), ((φ9 0), .cells #[.int .u64 ((b8 : Nat) : Int), .pointer q8] 27), ((φ12 0), .cells #[.int .u64 ((b11 : Nat) : Int), .pointer q11] 27), ((φ15 0), .cells #[.int .u64 ((b14 : Nat) : Int), .pointer p14] 27), ((φ18 0), .cells #[.int .u64 ((b17 : Nat) : Int), .pointer p17] 27)]]), (fun φ25 xs25 => [[default, default, default, default, default, default, default, default, default, default, default, default, default, default, default, default, default, default, default, default, default, default, default, default, default, default, default, default, default, default, default, default, default, default, default, default, default, default, default, default, default, default, default, default, default, default, default, default, default, default, default, default, default, default, default, default]]), [], [1, 1, 1, 3, 3, 1, 1, 1, 1, 1, 3, 3, 3, 1, 1, 1, 1, 3, 1, 3, 1, 1, 1, 1, 3, 1, 1, 1, 1, 3, 1, 1, 1, 0, 0, 0, 1, 1, 1, 1, 1, 3, 1, 1, 1, 1, 3, 1, 1, 1, 0, 0, 0, 1, 1, 1]⟩ (fun j => ([MP.any, MP.any, MP.any, ⟨fun x J => ERep J (joinF 64 e8 e5) (x.n 0) (x.p 0), fun le h => ERep.mono le h⟩, MP.any, MP.any, MP.any, MP.any, MP.any, MP.any, ⟨fun x J => ERep J (joinF 64 e8 e11) (x.n 0) (x.p 0), fun le h => ERep.mono le h⟩, ⟨fun x J => ERep J (joinF 64 e5 (joinF 64 e8 e11)) (x.n 0) (x.p 0), fun le h => ERep.mono le h⟩, MP.any, MP.any, MP.any, MP.any, MP.any, ⟨fun x J => ERep J (joinF 64 e5 e5) (x.n 0) (x.p 0), fun le h => ERep.mono le h⟩, MP.any, MP.any, MP.any, MP.any, MP.any, MP.any, MP.any, MP.any, MP.any, MP.any, MP.any, MP.any, MP.any, MP.any, MP.any, MP.any, MP.any, MP.any, MP.any, MP.any, MP.any, MP.any, MP.any, MP.any, MP.any, MP.any, MP.any, MP.any, MP.any, MP.any, MP.any, MP.any, MP.any, MP.any, MP.any, MP.any, MP.any, MP.any] : List MP).getD j MP.any) [3, 4, 10, 11, 12, 17, 19, 24, 29, 41, 46] [] [] (fun φ25 xs25 => []) (fun φ25 xs25 => [(38, .agg #[.int .u64 ((b14 : Nat) : Int), .pointer p14]), (39, .agg #[.int .u64 ((b8 : Nat) : Int), .pointer q8]), (40, .agg #[.int .u64 ((b5 : Nat) : Int), .pointer q5]), (41, .agg #[.int .u64 (((xs25 3).n 0 : Nat) : Int), .pointer ((xs25 3).p 0)]), (42, .bool true), (43, .bool true), (44, .agg #[.int .u64 ((b17 : Nat) : Int), .pointer p17]), (45, .agg #[.int .u64 ((b5 : Nat) : Int), .pointer q5]), (46, .agg #[.int .u64 ((b8 : Nat) : Int), .pointer q8]), (47, .agg #[.int .u64 ((b11 : Nat) : Int), .pointer q11]), (48, .agg #[.int .u64 (((xs25 10).n 0 : Nat) : Int), .pointer ((xs25 10).p 0)]), (49, .agg #[.int .u64 (((xs25 11).n 0 : Nat) : Int), .pointer ((xs25 11).p 0)]), (50, .bool true), (51, .bool true), (52, .bool true), (53, .agg #[.int .u64 ((b5 : Nat) : Int), .pointer q5]), (54, .agg #[.int .u64 ((b5 : Nat) : Int), .pointer q5]), (55, .agg #[.int .u64 (((xs25 17).n 0 : Nat) : Int), .pointer ((xs25 17).p 0)]), (56, .agg #[.int .u64 ((b5 : Nat) : Int), .pointer q5]), (57, .bool true), (58, .bool true), (59, .bool true), (60, .agg #[.int .u64 ((b5 : Nat) : Int), .pointer q5]), (61, .agg #[.int .u64 ((b11 : Nat) : Int), .pointer q11]), (62, .bool true), (63, .bool false), (64, .bool false), (65, .agg #[.int .u64 ((b8 : Nat) : Int), .pointer q8]), (66, .agg #[.int .u64 ((b11 : Nat) : Int), .pointer q11]), (67, .bool false), (68, .bool true), (69, .bool true), (70, .bool true), (71, undef), (72, undef), (73, undef), (74, .bool true), (75, .bool true), (76, .bool true), (77, .agg #[.int .u64 ((b5 : Nat) : Int), .pointer q5]), (78, .agg #[.int .u64 ((b8 : Nat) : Int), .pointer q8]), (79, .bool true), (80, .bool false), (81, .bool false), (82, .agg #[.int .u64 ((b8 : Nat) : Int), .pointer q8]), (83, .agg #[.int .u64 ((b11 : Nat) : Int), .pointer q11]), (84, .bool false), (85, .bool true), (86, .bool true), (87, .bool true), (88, undef), (89, undef), (90, undef), (91, .bool true), (92, .bool true), (6, .bool true)]) (fun φ25 xs25 => [((φ6 0), .cells #[.int .u64 ((b5 : Nat) : Int), .pointer q5] 27), ((φ9 0), .cells #[.int .u64 ((b8 : Nat) : Int), .pointer q8] 27), ((φ12 0), .cells #[.int .u64 ((b11 : Nat) : Int), .pointer q11] 27), ((φ15 0), .cells #[.int .u64 ((b14 : Nat) : Int), .pointer p14] 27), ((φ18 0), .cells #[.int .u64 ((b17 : Nat) : Int), .pointer p17] 27)]) s trivial (by kernel_rfl) (by kernel_rfl) (fun _ _ => by kernel_rfl) (fun _ _ => by kernel_rfl) ⟨fun _ _ => by kernel_rfl, fun _ _ => by kernel_rfl, fun _ _ => by kernel_rfl, fun _ _ => by kernel_rfl⟩ (fun _ _ _ => by kernel_rfl) (fun _ _ => by kernel_rfl) (fun _ _ => by kernel_rfl) (fun _ _ => by kernel_rfl) (fun _ _ => by kernel_rfl) (fun _ _ => by kernel_rfl) trivial trivial (by kernel_rfl) ⟨?c25_3, ?c25_4, ?c25_10, ?c25_11, ?c25_12, ?c25_17, ?c25_19, ?c25_24, ?c25_29, ?c25_41, ?c25_46, trivial⟩ ?k25
        case c25_3 =>
          refine kcast (A := ∀ (φ25 : Nat → Nat) (xs25 : Xs) (J3_25 : IM), I17.Le J3_25 → Fun Tryd.prog 28 #[.agg #[.int .u64 ((b8 : Nat) : Int), .pointer q8], .agg #[.int .u64 ((b5 : Nat) : Int), .pointer q5]] J3_25 (fun v J' => ∃ x : UX, v = .agg #[.int .u64 ((x.n 0 : Nat) : Int), .pointer (x.p 0)] ∧ (ERep J' (joinF 64 e8 e5) (x.n 0) (x.p 0)))) (by kernel_rfl) ?_
          intro φ25 xs25 J3_25 leJ
          have h5_1 := ERep.mono leJ h5_1
          have h8_1 := ERep.mono leJ h8_1
          exact Fun.mono (joinOE_c h8_1 h5_1 (ok_of h8_0) (ok_of h5_0)) (fun v J' _ ⟨y0, y1, hv, g0⟩ => ⟨{ UX.d with n := fun j => y0, p := fun j => y1 }, hv, g0⟩)
        case c25_4 =>
          refine kcast (A := ∀ (φ25 : Nat → Nat) (xs25 : Xs) (J4_25 : IM), I17.Le J4_25 → (ERep J4_25 (joinF 64 e8 e5) ((xs25 3).n 0) ((xs25 3).p 0)) → Fun Tryd.prog 30 #[.agg #[.int .u64 ((b14 : Nat) : Int), .pointer p14], .agg #[.int .u64 (((xs25 3).n 0 : Nat) : Int), .pointer ((xs25 3).p 0)]] J4_25 (fun v J' => ∃ x : UX, v = .bool true ∧ (True))) (by kernel_rfl) ?_
          intro φ25 xs25 J4_25 leJ
          rintro h25_3_0
          have h14_0 := ERep.mono leJ h14_0
          exact Fun.mono (sameOE_c h14_0 h25_3_0 (ok_join (ok_of h5_0) (ok_of h8_0)).1 (ok_join (ok_of h8_0) (ok_of h5_0)).1 (fun k => by have q0 := (ok_join (ok_of h5_0) (ok_of h8_0)).2 k; have q1 := (ok_join (ok_of h8_0) (ok_of h5_0)).2 k; omega)) (fun v J' _ h => ⟨UX.d, h, trivial⟩)
        case c25_10 =>
          refine kcast (A := ∀ (φ25 : Nat → Nat) (xs25 : Xs) (J10_25 : IM), I17.Le J10_25 → (ERep J10_25 (joinF 64 e8 e5) ((xs25 3).n 0) ((xs25 3).p 0)) → (True) → Fun Tryd.prog 28 #[.agg #[.int .u64 ((b8 : Nat) : Int), .pointer q8], .agg #[.int .u64 ((b11 : Nat) : Int), .pointer q11]] J10_25 (fun v J' => ∃ x : UX, v = .agg #[.int .u64 ((x.n 0 : Nat) : Int), .pointer (x.p 0)] ∧ (ERep J' (joinF 64 e8 e11) (x.n 0) (x.p 0)))) (by kernel_rfl) ?_
          intro φ25 xs25 J10_25 leJ
          rintro h25_3_0 _
          have h8_1 := ERep.mono leJ h8_1
          have h11_1 := ERep.mono leJ h11_1
          exact Fun.mono (joinOE_c h8_1 h11_1 (ok_of h8_0) (ok_of h11_0)) (fun v J' _ ⟨y0, y1, hv, g0⟩ => ⟨{ UX.d with n := fun j => y0, p := fun j => y1 }, hv, g0⟩)
        case c25_11 =>
          refine kcast (A := ∀ (φ25 : Nat → Nat) (xs25 : Xs) (J11_25 : IM), I17.Le J11_25 → (ERep J11_25 (joinF 64 e8 e5) ((xs25 3).n 0) ((xs25 3).p 0)) → (True) → (ERep J11_25 (joinF 64 e8 e11) ((xs25 10).n 0) ((xs25 10).p 0)) → Fun Tryd.prog 28 #[.agg #[.int .u64 ((b5 : Nat) : Int), .pointer q5], .agg #[.int .u64 (((xs25 10).n 0 : Nat) : Int), .pointer ((xs25 10).p 0)]] J11_25 (fun v J' => ∃ x : UX, v = .agg #[.int .u64 ((x.n 0 : Nat) : Int), .pointer (x.p 0)] ∧ (ERep J' (joinF 64 e5 (joinF 64 e8 e11)) (x.n 0) (x.p 0)))) (by kernel_rfl) ?_
          intro φ25 xs25 J11_25 leJ
          rintro h25_3_0 _ h25_10_0
          have h5_1 := ERep.mono leJ h5_1
          exact Fun.mono (joinOE_c h5_1 h25_10_0 (ok_of h5_0) (ok_join (ok_of h8_0) (ok_of h11_0)).1) (fun v J' _ ⟨y0, y1, hv, g0⟩ => ⟨{ UX.d with n := fun j => y0, p := fun j => y1 }, hv, g0⟩)
        case c25_12 =>
          refine kcast (A := ∀ (φ25 : Nat → Nat) (xs25 : Xs) (J12_25 : IM), I17.Le J12_25 → (ERep J12_25 (joinF 64 e8 e5) ((xs25 3).n 0) ((xs25 3).p 0)) → (True) → (ERep J12_25 (joinF 64 e8 e11) ((xs25 10).n 0) ((xs25 10).p 0)) → (ERep J12_25 (joinF 64 e5 (joinF 64 e8 e11)) ((xs25 11).n 0) ((xs25 11).p 0)) → Fun Tryd.prog 30 #[.agg #[.int .u64 ((b17 : Nat) : Int), .pointer p17], .agg #[.int .u64 (((xs25 11).n 0 : Nat) : Int), .pointer ((xs25 11).p 0)]] J12_25 (fun v J' => ∃ x : UX, v = .bool true ∧ (True))) (by kernel_rfl) ?_
          intro φ25 xs25 J12_25 leJ
          rintro h25_3_0 _ h25_10_0 h25_11_0
          have h17_0 := ERep.mono leJ h17_0
          exact Fun.mono (sameOE_c h17_0 h25_11_0 (ok_join (ok_join (ok_of h5_0) (ok_of h8_0)).1 (ok_of h11_0)).1 (ok_join (ok_of h5_0) (ok_join (ok_of h8_0) (ok_of h11_0)).1).1 (fun k => by have q0 := (ok_join (ok_join (ok_of h5_0) (ok_of h8_0)).1 (ok_of h11_0)).2 k; have q1 := (ok_join (ok_of h5_0) (ok_of h8_0)).2 k; have q2 := (ok_join (ok_of h5_0) (ok_join (ok_of h8_0) (ok_of h11_0)).1).2 k; have q3 := (ok_join (ok_of h8_0) (ok_of h11_0)).2 k; omega)) (fun v J' _ h => ⟨UX.d, h, trivial⟩)
        case c25_17 =>
          refine kcast (A := ∀ (φ25 : Nat → Nat) (xs25 : Xs) (J17_25 : IM), I17.Le J17_25 → (ERep J17_25 (joinF 64 e8 e5) ((xs25 3).n 0) ((xs25 3).p 0)) → (True) → (ERep J17_25 (joinF 64 e8 e11) ((xs25 10).n 0) ((xs25 10).p 0)) → (ERep J17_25 (joinF 64 e5 (joinF 64 e8 e11)) ((xs25 11).n 0) ((xs25 11).p 0)) → (True) → Fun Tryd.prog 28 #[.agg #[.int .u64 ((b5 : Nat) : Int), .pointer q5], .agg #[.int .u64 ((b5 : Nat) : Int), .pointer q5]] J17_25 (fun v J' => ∃ x : UX, v = .agg #[.int .u64 ((x.n 0 : Nat) : Int), .pointer (x.p 0)] ∧ (ERep J' (joinF 64 e5 e5) (x.n 0) (x.p 0)))) (by kernel_rfl) ?_
          intro φ25 xs25 J17_25 leJ
          rintro h25_3_0 _ h25_10_0 h25_11_0 _
          have h5_1 := ERep.mono leJ h5_1
          exact Fun.mono (joinOE_c h5_1 h5_1 (ok_of h5_0) (ok_of h5_0)) (fun v J' _ ⟨y0, y1, hv, g0⟩ => ⟨{ UX.d with n := fun j => y0, p := fun j => y1 }, hv, g0⟩)
        case c25_19 =>
          refine kcast (A := ∀ (φ25 : Nat → Nat) (xs25 : Xs) (J19_25 : IM), I17.Le J19_25 → (ERep J19_25 (joinF 64 e8 e5) ((xs25 3).n 0) ((xs25 3).p 0)) → (True) → (ERep J19_25 (joinF 64 e8 e11) ((xs25 10).n 0) ((xs25 10).p 0)) → (ERep J19_25 (joinF 64 e5 (joinF 64 e8 e11)) ((xs25 11).n 0) ((xs25 11).p 0)) → (True) → (ERep J19_25 (joinF 64 e5 e5) ((xs25 17).n 0) ((xs25 17).p 0)) → Fun Tryd.prog 30 #[.agg #[.int .u64 (((xs25 17).n 0 : Nat) : Int), .pointer ((xs25 17).p 0)], .agg #[.int .u64 ((b5 : Nat) : Int), .pointer q5]] J19_25 (fun v J' => ∃ x : UX, v = .bool true ∧ (True))) (by kernel_rfl) ?_
          intro φ25 xs25 J19_25 leJ
          rintro h25_3_0 _ h25_10_0 h25_11_0 _ h25_17_0
          have h5_1 := ERep.mono leJ h5_1
          exact Fun.mono (sameOE_c h25_17_0 h5_1 (ok_join (ok_of h5_0) (ok_of h5_0)).1 (ok_of h5_0) (fun k => by have q0 := (ok_join (ok_of h5_0) (ok_of h5_0)).2 k; omega)) (fun v J' _ h => ⟨UX.d, h, trivial⟩)
        case c25_24 =>
          refine kcast (A := ∀ (φ25 : Nat → Nat) (xs25 : Xs) (J24_25 : IM), I17.Le J24_25 → (ERep J24_25 (joinF 64 e8 e5) ((xs25 3).n 0) ((xs25 3).p 0)) → (True) → (ERep J24_25 (joinF 64 e8 e11) ((xs25 10).n 0) ((xs25 10).p 0)) → (ERep J24_25 (joinF 64 e5 (joinF 64 e8 e11)) ((xs25 11).n 0) ((xs25 11).p 0)) → (True) → (ERep J24_25 (joinF 64 e5 e5) ((xs25 17).n 0) ((xs25 17).p 0)) → (True) → Fun Tryd.prog 29 #[.agg #[.int .u64 ((b5 : Nat) : Int), .pointer q5], .agg #[.int .u64 ((b11 : Nat) : Int), .pointer q11]] J24_25 (fun v J' => ∃ x : UX, v = .bool true ∧ (True))) (by kernel_rfl) ?_
          intro φ25 xs25 J24_25 leJ
          rintro h25_3_0 _ h25_10_0 h25_11_0 _ h25_17_0 _
          have h5_1 := ERep.mono leJ h5_1
          have h11_1 := ERep.mono leJ h11_1
          exact Fun.mono (leqOE_c h5_1 h11_1 (ok_of h5_0) (ok_of h11_0)) (fun v J' _ h => ⟨UX.d, h.trans (congrArg Value.bool hc19), trivial⟩)
        case c25_29 =>
          refine kcast (A := ∀ (φ25 : Nat → Nat) (xs25 : Xs) (J29_25 : IM), I17.Le J29_25 → (ERep J29_25 (joinF 64 e8 e5) ((xs25 3).n 0) ((xs25 3).p 0)) → (True) → (ERep J29_25 (joinF 64 e8 e11) ((xs25 10).n 0) ((xs25 10).p 0)) → (ERep J29_25 (joinF 64 e5 (joinF 64 e8 e11)) ((xs25 11).n 0) ((xs25 11).p 0)) → (True) → (ERep J29_25 (joinF 64 e5 e5) ((xs25 17).n 0) ((xs25 17).p 0)) → (True) → (True) → Fun Tryd.prog 29 #[.agg #[.int .u64 ((b8 : Nat) : Int), .pointer q8], .agg #[.int .u64 ((b11 : Nat) : Int), .pointer q11]] J29_25 (fun v J' => ∃ x : UX, v = .bool false ∧ (True))) (by kernel_rfl) ?_
          intro φ25 xs25 J29_25 leJ
          rintro h25_3_0 _ h25_10_0 h25_11_0 _ h25_17_0 _ _
          have h8_1 := ERep.mono leJ h8_1
          have h11_1 := ERep.mono leJ h11_1
          exact Fun.mono (leqOE_c h8_1 h11_1 (ok_of h8_0) (ok_of h11_0)) (fun v J' _ h => ⟨UX.d, h.trans (congrArg Value.bool hc20), trivial⟩)
        case c25_41 =>
          refine kcast (A := ∀ (φ25 : Nat → Nat) (xs25 : Xs) (J41_25 : IM), I17.Le J41_25 → (ERep J41_25 (joinF 64 e8 e5) ((xs25 3).n 0) ((xs25 3).p 0)) → (True) → (ERep J41_25 (joinF 64 e8 e11) ((xs25 10).n 0) ((xs25 10).p 0)) → (ERep J41_25 (joinF 64 e5 (joinF 64 e8 e11)) ((xs25 11).n 0) ((xs25 11).p 0)) → (True) → (ERep J41_25 (joinF 64 e5 e5) ((xs25 17).n 0) ((xs25 17).p 0)) → (True) → (True) → (True) → Fun Tryd.prog 29 #[.agg #[.int .u64 ((b5 : Nat) : Int), .pointer q5], .agg #[.int .u64 ((b8 : Nat) : Int), .pointer q8]] J41_25 (fun v J' => ∃ x : UX, v = .bool true ∧ (True))) (by kernel_rfl) ?_
          intro φ25 xs25 J41_25 leJ
          rintro h25_3_0 _ h25_10_0 h25_11_0 _ h25_17_0 _ _ _
          have h5_1 := ERep.mono leJ h5_1
          have h8_1 := ERep.mono leJ h8_1
          exact Fun.mono (leqOE_c h5_1 h8_1 (ok_of h5_0) (ok_of h8_0)) (fun v J' _ h => ⟨UX.d, h.trans (congrArg Value.bool hc24), trivial⟩)
        case c25_46 =>
          refine kcast (A := ∀ (φ25 : Nat → Nat) (xs25 : Xs) (J46_25 : IM), I17.Le J46_25 → (ERep J46_25 (joinF 64 e8 e5) ((xs25 3).n 0) ((xs25 3).p 0)) → (True) → (ERep J46_25 (joinF 64 e8 e11) ((xs25 10).n 0) ((xs25 10).p 0)) → (ERep J46_25 (joinF 64 e5 (joinF 64 e8 e11)) ((xs25 11).n 0) ((xs25 11).p 0)) → (True) → (ERep J46_25 (joinF 64 e5 e5) ((xs25 17).n 0) ((xs25 17).p 0)) → (True) → (True) → (True) → (True) → Fun Tryd.prog 29 #[.agg #[.int .u64 ((b8 : Nat) : Int), .pointer q8], .agg #[.int .u64 ((b11 : Nat) : Int), .pointer q11]] J46_25 (fun v J' => ∃ x : UX, v = .bool false ∧ (True))) (by kernel_rfl) ?_
          intro φ25 xs25 J46_25 leJ
          rintro h25_3_0 _ h25_10_0 h25_11_0 _ h25_17_0 _ _ _ _
          have h8_1 := ERep.mono leJ h8_1
          have h11_1 := ERep.mono leJ h11_1
          exact Fun.mono (leqOE_c h8_1 h11_1 (ok_of h8_0) (ok_of h11_0)) (fun v J' _ h => ⟨UX.d, h.trans (congrArg Value.bool hc20), trivial⟩)
        case k25 =>
          rintro φ25 xs25 I25 w25 le25 s h25_3_0 _ h25_10_0 h25_11_0 _ h25_17_0 _ _ _ _ _
          replace hT := Tab.mono le25 hT
          replace hla := BSl.mono le25 hla
          replace hlb := BSl.mono le25 hlb
          replace hlc := BSl.mono le25 hlc
          replace h5_1 := ERep.mono le25 h5_1
          replace h5_2 := RE.mono le25 h5_2
          replace h8_1 := ERep.mono le25 h8_1
          replace h8_2 := RE.mono le25 h8_2
          replace h11_1 := ERep.mono le25 h11_1
          replace h11_2 := RE.mono le25 h11_2
          replace h14_0 := ERep.mono le25 h14_0
          replace h17_0 := ERep.mono le25 h17_0
          refine wp_ret ?_
          refine ret_rule (C := []) [((φ6 0), .cells #[.int .u64 ((b5 : Nat) : Int), .pointer q5] 27), ((φ9 0), .cells #[.int .u64 ((b8 : Nat) : Int), .pointer q8] 27), ((φ12 0), .cells #[.int .u64 ((b11 : Nat) : Int), .pointer q11] 27), ((φ15 0), .cells #[.int .u64 ((b14 : Nat) : Int), .pointer p14] 27), ((φ18 0), .cells #[.int .u64 ((b17 : Nat) : Int), .pointer p17] 27)] [] (.bool true) [] [] s trivial (by kernel_rfl) ?_
          exact ⟨_, _, _, rfl, s, rfl⟩
      ·
        refine draw_rule (C := []) ⟨(fun φ26 xs26 => [.look 0 [.o 3, .o 3] [(φ15 0), (φ15 0)], .look 0 [.o 1, .o 1] [(φ9 0), (φ9 0)], .look 0 [.o 0, .o 0] [(φ6 0), (φ6 0)], .call 28 #[.agg #[.int .u64 ((b8 : Nat) : Int), .pointer q8], .agg #[.int .u64 ((b5 : Nat) : Int), .pointer q5]], .call 30 #[.agg #[.int .u64 ((b14 : Nat) : Int), .pointer p14], .agg #[.int .u64 (((xs26 3).n 0 : Nat) : Int), .pointer ((xs26 3).p 0)]], .look 0 [] [], .look 0 [.o 4, .o 4] [(φ18 0), (φ18 0)], .look 0 [.o 0, .o 0] [(φ6 0), (φ6 0)], .look 0 [.o 1, .o 1] [(φ9 0), (φ9 0)], .look 0 [.o 2, .o 2] [(φ12 0), (φ12 0)], .call 28 #[.agg #[.int .u64 ((b8 : Nat) : Int), .pointer q8], .agg #[.int .u64 ((b11 : Nat) : Int), .pointer q11]], .call 28 #[.agg #[.int .u64 ((b5 : Nat) : Int), .pointer q5], .agg #[.int .u64 (((xs26 10).n 0 : Nat) : Int), .pointer ((xs26 10).p 0)]], .call 30 #[.agg #[.int .u64 ((b17 : Nat) : Int), .pointer p17], .agg #[.int .u64 (((xs26 11).n 0 : Nat) : Int), .pointer ((xs26 11).p 0)]], .look 0 [] [], .look 0 [] [], .look 0 [.o 0, .o 0] [(φ6 0), (φ6 0)], .look 0 [.o 0, .o 0] [(φ6 0), (φ6 0)], .call 28 #[.agg #[.int .u64 ((b5 : Nat) : Int), .pointer q5], .agg #[.int .u64 ((b5 : Nat) : Int), .pointer q5]], .look 0 [.o 0, .o 0] [(φ6 0), (φ6 0)], .call 30 #[.agg #[.int .u64 (((xs26 17).n 0 : Nat) : Int), .pointer ((xs26 17).p 0)], .agg #[.int .u64 ((b5 : Nat) : Int), .pointer q5]], .look 0 [] [], .look 0 [] [], .look 0 [.o 0, .o 0] [(φ6 0), (φ6 0)], .look 0 [.o 2, .o 2] [(φ12 0), (φ12 0)], .call 29 #[.agg #[.int .u64 ((b5 : Nat) : Int), .pointer q5], .agg #[.int .u64 ((b11 : Nat) : Int), .pointer q11]], .look 0 [] [], .look 0 [] [], .look 0 [.o 1, .o 1] [(φ9 0), (φ9 0)], .look 0 [.o 2, .o 2] [(φ12 0), (φ12 0)], .call 29 #[.agg #[.int .u64 ((b8 : Nat) : Int), .pointer q8], .agg #[.int .u64 ((b11 : Nat) : Int), .pointer q11]], .look 0 [] [], .look 0 [] [], .look 0 [] [], .skip, .skip, .skip, .look 0 [] [], .look 0 [] [], .look 0 [] [], .look 0 [.o 0, .o 0] [(φ6 0), (φ6 0)], .look 0 [.o 1, .o 1] [(φ9 0), (φ9 0)], .call 29 #[.agg #[.int .u64 ((b5 : Nat) : Int), .pointer q5], .agg #[.int .u64 ((b8 : Nat) : Int), .pointer q8]], .look 0 [] [], .look 0 [] [], .skip, .skip, .skip, .skip, .look 0 [] [], .look 0 [] [], .skip, .skip, .skip, .look 0 [] [], .look 0 [] [], .look 0 [] []]), (fun φ26 xs26 => [.agg #[.int .u64 ((b14 : Nat) : Int), .pointer p14], .agg #[.int .u64 ((b8 : Nat) : Int), .pointer q8], .agg #[.int .u64 ((b5 : Nat) : Int), .pointer q5], .agg #[.int .u64 (((xs26 3).n 0 : Nat) : Int), .pointer ((xs26 3).p 0)], .bool true, .bool true, .agg #[.int .u64 ((b17 : Nat) : Int), .pointer p17], .agg #[.int .u64 ((b5 : Nat) : Int), .pointer q5], .agg #[.int .u64 ((b8 : Nat) : Int), .pointer q8], .agg #[.int .u64 ((b11 : Nat) : Int), .pointer q11], .agg #[.int .u64 (((xs26 10).n 0 : Nat) : Int), .pointer ((xs26 10).p 0)], .agg #[.int .u64 (((xs26 11).n 0 : Nat) : Int), .pointer ((xs26 11).p 0)], .bool true, .bool true, .bool true, .agg #[.int .u64 ((b5 : Nat) : Int), .pointer q5], .agg #[.int .u64 ((b5 : Nat) : Int), .pointer q5], .agg #[.int .u64 (((xs26 17).n 0 : Nat) : Int), .pointer ((xs26 17).p 0)], .agg #[.int .u64 ((b5 : Nat) : Int), .pointer q5], .bool true, .bool true, .bool true, .agg #[.int .u64 ((b5 : Nat) : Int), .pointer q5], .agg #[.int .u64 ((b11 : Nat) : Int), .pointer q11], .bool true, .bool false, .bool false, .agg #[.int .u64 ((b8 : Nat) : Int), .pointer q8], .agg #[.int .u64 ((b11 : Nat) : Int), .pointer q11], .bool false, .bool true, .bool true, .bool true, undef, undef, undef, .bool true, .bool true, .bool true, .agg #[.int .u64 ((b5 : Nat) : Int), .pointer q5], .agg #[.int .u64 ((b8 : Nat) : Int), .pointer q8], .bool false, .bool true, .bool true, undef, undef, undef, undef, .bool true, .bool true, undef, undef, undef, .bool true, .bool true, .bool true]), (fun φ26 xs26 => [[((φ6 0), .cells #[.int .u64 ((b5 : Nat) : Int), .pointer q5] 27), ((φ9 0), .cells #[.int .u64 ((b8 : Nat) : Int), .pointer q8] 27), ((φ12 0), .cells #[.int .u64 ((b11 : Nat) : Int), .pointer q11] 27), ((φ15 0), .cells #[.int .u64 ((b14 : Nat) : Int), .pointer p14] 27), ((φ18 0), .cells #[.int .u64 ((b17 : Nat) : Int), .pointer p17] 27)]]), (fun φ26 xs26 => [[default, default, default, default, default, default, default, default, default, default, default, default, default, default, default, default, default, default, default, default, default, default, default, default, default, default, default, default, default, default, default, default, default, default, default, default, default, default, default, default, default, default, default, default, default, default, default, default, default, default, default, default, default, default, default, default]]), [], [1, 1, 1, 3, 3, 1, 1, 1, 1, 1, 3, 3, 3, 1, 1, 1, 1, 3, 1, 3, 1, 1, 1, 1, 3, 1, 1, 1, 1, 3, 1, 1, 1, 0, 0, 0, 1, 1, 1, 1, 1, 3, 1, 1, 0, 0, 0, 0, 1, 1, 0, 0, 0, 1, 1, 1]⟩ (fun j => ([MP.any, MP.any, MP.any, ⟨fun x J => ERep J (joinF 64 e8 e5) (x.n 0) (x.p 0), fun le h => ERep.mono le h⟩, MP.any, MP.any, MP.any, MP.any, MP.any, MP.any, ⟨fun x J => ERep J (joinF 64 e8 e11) (x.n 0) (x.p 0), fun le h => ERep.mono le h⟩, ⟨fun x J => ERep J (joinF 64 e5 (joinF 64 e8 e11)) (x.n 0) (x.p 0), fun le h => ERep.mono le h⟩, MP.any, MP.any, MP.any, MP.any, MP.any, ⟨fun x J => ERep J (joinF 64 e5 e5) (x.n 0) (x.p 0), fun le h => ERep.mono le h⟩, MP.any, MP.any, MP.any, MP.any, MP.any, MP.any, MP.any, MP.any, MP.any, MP.any, MP.any, MP.any, MP.any, MP.any, MP.any, MP.any, MP.any, MP.any, MP.any, MP.any, MP.any, MP.any, MP.any, MP.any, MP.any, MP.any, MP.any, MP.any, MP.any, MP.any, MP.any, MP.any, MP.any, MP.any, MP.any, MP.any, MP.any, MP.any] : List MP).getD j MP.any) [3, 4, 10, 11, 12, 17, 19, 24, 29, 41] [] [] (fun φ26 xs26 => []) (fun φ26 xs26 => [(38, .agg #[.int .u64 ((b14 : Nat) : Int), .pointer p14]), (39, .agg #[.int .u64 ((b8 : Nat) : Int), .pointer q8]), (40, .agg #[.int .u64 ((b5 : Nat) : Int), .pointer q5]), (41, .agg #[.int .u64 (((xs26 3).n 0 : Nat) : Int), .pointer ((xs26 3).p 0)]), (42, .bool true), (43, .bool true), (44, .agg #[.int .u64 ((b17 : Nat) : Int), .pointer p17]), (45, .agg #[.int .u64 ((b5 : Nat) : Int), .pointer q5]), (46, .agg #[.int .u64 ((b8 : Nat) : Int), .pointer q8]), (47, .agg #[.int .u64 ((b11 : Nat) : Int), .pointer q11]), (48, .agg #[.int .u64 (((xs26 10).n 0 : Nat) : Int), .pointer ((xs26 10).p 0)]), (49, .agg #[.int .u64 (((xs26 11).n 0 : Nat) : Int), .pointer ((xs26 11).p 0)]), (50, .bool true), (51, .bool true), (52, .bool true), (53, .agg #[.int .u64 ((b5 : Nat) : Int), .pointer q5]), (54, .agg #[.int .u64 ((b5 : Nat) : Int), .pointer q5]), (55, .agg #[.int .u64 (((xs26 17).n 0 : Nat) : Int), .pointer ((xs26 17).p 0)]), (56, .agg #[.int .u64 ((b5 : Nat) : Int), .pointer q5]), (57, .bool true), (58, .bool true), (59, .bool true), (60, .agg #[.int .u64 ((b5 : Nat) : Int), .pointer q5]), (61, .agg #[.int .u64 ((b11 : Nat) : Int), .pointer q11]), (62, .bool true), (63, .bool false), (64, .bool false), (65, .agg #[.int .u64 ((b8 : Nat) : Int), .pointer q8]), (66, .agg #[.int .u64 ((b11 : Nat) : Int), .pointer q11]), (67, .bool false), (68, .bool true), (69, .bool true), (70, .bool true), (71, undef), (72, undef), (73, undef), (74, .bool true), (75, .bool true), (76, .bool true), (77, .agg #[.int .u64 ((b5 : Nat) : Int), .pointer q5]), (78, .agg #[.int .u64 ((b8 : Nat) : Int), .pointer q8]), (79, .bool false), (80, .bool true), (81, .bool true), (82, undef), (83, undef), (84, undef), (85, undef), (86, .bool true), (87, .bool true), (88, undef), (89, undef), (90, undef), (91, .bool true), (92, .bool true), (6, .bool true)]) (fun φ26 xs26 => [((φ6 0), .cells #[.int .u64 ((b5 : Nat) : Int), .pointer q5] 27), ((φ9 0), .cells #[.int .u64 ((b8 : Nat) : Int), .pointer q8] 27), ((φ12 0), .cells #[.int .u64 ((b11 : Nat) : Int), .pointer q11] 27), ((φ15 0), .cells #[.int .u64 ((b14 : Nat) : Int), .pointer p14] 27), ((φ18 0), .cells #[.int .u64 ((b17 : Nat) : Int), .pointer p17] 27)]) s trivial (by kernel_rfl) (by kernel_rfl) (fun _ _ => by kernel_rfl) (fun _ _ => by kernel_rfl) ⟨fun _ _ => by kernel_rfl, fun _ _ => by kernel_rfl, fun _ _ => by kernel_rfl, fun _ _ => by kernel_rfl⟩ (fun _ _ _ => by kernel_rfl) (fun _ _ => by kernel_rfl) (fun _ _ => by kernel_rfl) (fun _ _ => by kernel_rfl) (fun _ _ => by kernel_rfl) (fun _ _ => by kernel_rfl) trivial trivial (by kernel_rfl) ⟨?c26_3, ?c26_4, ?c26_10, ?c26_11, ?c26_12, ?c26_17, ?c26_19, ?c26_24, ?c26_29, ?c26_41, trivial⟩ ?k26
        case c26_3 =>
          refine kcast (A := ∀ (φ26 : Nat → Nat) (xs26 : Xs) (J3_26 : IM), I17.Le J3_26 → Fun Tryd.prog 28 #[.agg #[.int .u64 ((b8 : Nat) : Int), .pointer q8], .agg #[.int .u64 ((b5 : Nat) : Int), .pointer q5]] J3_26 (fun v J' => ∃ x : UX, v = .agg #[.int .u64 ((x.n 0 : Nat) : Int), .pointer (x.p 0)] ∧ (ERep J' (joinF 64 e8 e5) (x.n 0) (x.p 0)))) (by kernel_rfl) ?_
          intro φ26 xs26 J3_26 leJ
          have h5_1 := ERep.mono leJ h5_1
          have h8_1 := ERep.mono leJ h8_1
          exact Fun.mono (joinOE_c h8_1 h5_1 (ok_of h8_0) (ok_of h5_0)) (fun v J' _ ⟨y0, y1, hv, g0⟩ => ⟨{ UX.d with n := fun j => y0, p := fun j => y1 }, hv, g0⟩)
        case c26_4 =>
          refine kcast (A := ∀ (φ26 : Nat → Nat) (xs26 : Xs) (J4_26 : IM), I17.Le J4_26 → (ERep J4_26 (joinF 64 e8 e5) ((xs26 3).n 0) ((xs26 3).p 0)) → Fun Tryd.prog 30 #[.agg #[.int .u64 ((b14 : Nat) : Int), .pointer p14], .agg #[.int .u64 (((xs26 3).n 0 : Nat) : Int), .pointer ((xs26 3).p 0)]] J4_26 (fun v J' => ∃ x : UX, v = .bool true ∧ (True))) (by kernel_rfl) ?_
          intro φ26 xs26 J4_26 leJ
          rintro h26_3_0
          have h14_0 := ERep.mono leJ h14_0
          exact Fun.mono (sameOE_c h14_0 h26_3_0 (ok_join (ok_of h5_0) (ok_of h8_0)).1 (ok_join (ok_of h8_0) (ok_of h5_0)).1 (fun k => by have q0 := (ok_join (ok_of h5_0) (ok_of h8_0)).2 k; have q1 := (ok_join (ok_of h8_0) (ok_of h5_0)).2 k; omega)) (fun v J' _ h => ⟨UX.d, h, trivial⟩)
        case c26_10 =>
          refine kcast (A := ∀ (φ26 : Nat → Nat) (xs26 : Xs) (J10_26 : IM), I17.Le J10_26 → (ERep J10_26 (joinF 64 e8 e5) ((xs26 3).n 0) ((xs26 3).p 0)) → (True) → Fun Tryd.prog 28 #[.agg #[.int .u64 ((b8 : Nat) : Int), .pointer q8], .agg #[.int .u64 ((b11 : Nat) : Int), .pointer q11]] J10_26 (fun v J' => ∃ x : UX, v = .agg #[.int .u64 ((x.n 0 : Nat) : Int), .pointer (x.p 0)] ∧ (ERep J' (joinF 64 e8 e11) (x.n 0) (x.p 0)))) (by kernel_rfl) ?_
          intro φ26 xs26 J10_26 leJ
          rintro h26_3_0 _
          have h8_1 := ERep.mono leJ h8_1
          have h11_1 := ERep.mono leJ h11_1
          exact Fun.mono (joinOE_c h8_1 h11_1 (ok_of h8_0) (ok_of h11_0)) (fun v J' _ ⟨y0, y1, hv, g0⟩ => ⟨{ UX.d with n := fun j => y0, p := fun j => y1 }, hv, g0⟩)
        case c26_11 =>
          refine kcast (A := ∀ (φ26 : Nat → Nat) (xs26 : Xs) (J11_26 : IM), I17.Le J11_26 → (ERep J11_26 (joinF 64 e8 e5) ((xs26 3).n 0) ((xs26 3).p 0)) → (True) → (ERep J11_26 (joinF 64 e8 e11) ((xs26 10).n 0) ((xs26 10).p 0)) → Fun Tryd.prog 28 #[.agg #[.int .u64 ((b5 : Nat) : Int), .pointer q5], .agg #[.int .u64 (((xs26 10).n 0 : Nat) : Int), .pointer ((xs26 10).p 0)]] J11_26 (fun v J' => ∃ x : UX, v = .agg #[.int .u64 ((x.n 0 : Nat) : Int), .pointer (x.p 0)] ∧ (ERep J' (joinF 64 e5 (joinF 64 e8 e11)) (x.n 0) (x.p 0)))) (by kernel_rfl) ?_
          intro φ26 xs26 J11_26 leJ
          rintro h26_3_0 _ h26_10_0
          have h5_1 := ERep.mono leJ h5_1
          exact Fun.mono (joinOE_c h5_1 h26_10_0 (ok_of h5_0) (ok_join (ok_of h8_0) (ok_of h11_0)).1) (fun v J' _ ⟨y0, y1, hv, g0⟩ => ⟨{ UX.d with n := fun j => y0, p := fun j => y1 }, hv, g0⟩)
        case c26_12 =>
          refine kcast (A := ∀ (φ26 : Nat → Nat) (xs26 : Xs) (J12_26 : IM), I17.Le J12_26 → (ERep J12_26 (joinF 64 e8 e5) ((xs26 3).n 0) ((xs26 3).p 0)) → (True) → (ERep J12_26 (joinF 64 e8 e11) ((xs26 10).n 0) ((xs26 10).p 0)) → (ERep J12_26 (joinF 64 e5 (joinF 64 e8 e11)) ((xs26 11).n 0) ((xs26 11).p 0)) → Fun Tryd.prog 30 #[.agg #[.int .u64 ((b17 : Nat) : Int), .pointer p17], .agg #[.int .u64 (((xs26 11).n 0 : Nat) : Int), .pointer ((xs26 11).p 0)]] J12_26 (fun v J' => ∃ x : UX, v = .bool true ∧ (True))) (by kernel_rfl) ?_
          intro φ26 xs26 J12_26 leJ
          rintro h26_3_0 _ h26_10_0 h26_11_0
          have h17_0 := ERep.mono leJ h17_0
          exact Fun.mono (sameOE_c h17_0 h26_11_0 (ok_join (ok_join (ok_of h5_0) (ok_of h8_0)).1 (ok_of h11_0)).1 (ok_join (ok_of h5_0) (ok_join (ok_of h8_0) (ok_of h11_0)).1).1 (fun k => by have q0 := (ok_join (ok_join (ok_of h5_0) (ok_of h8_0)).1 (ok_of h11_0)).2 k; have q1 := (ok_join (ok_of h5_0) (ok_of h8_0)).2 k; have q2 := (ok_join (ok_of h5_0) (ok_join (ok_of h8_0) (ok_of h11_0)).1).2 k; have q3 := (ok_join (ok_of h8_0) (ok_of h11_0)).2 k; omega)) (fun v J' _ h => ⟨UX.d, h, trivial⟩)
        case c26_17 =>
          refine kcast (A := ∀ (φ26 : Nat → Nat) (xs26 : Xs) (J17_26 : IM), I17.Le J17_26 → (ERep J17_26 (joinF 64 e8 e5) ((xs26 3).n 0) ((xs26 3).p 0)) → (True) → (ERep J17_26 (joinF 64 e8 e11) ((xs26 10).n 0) ((xs26 10).p 0)) → (ERep J17_26 (joinF 64 e5 (joinF 64 e8 e11)) ((xs26 11).n 0) ((xs26 11).p 0)) → (True) → Fun Tryd.prog 28 #[.agg #[.int .u64 ((b5 : Nat) : Int), .pointer q5], .agg #[.int .u64 ((b5 : Nat) : Int), .pointer q5]] J17_26 (fun v J' => ∃ x : UX, v = .agg #[.int .u64 ((x.n 0 : Nat) : Int), .pointer (x.p 0)] ∧ (ERep J' (joinF 64 e5 e5) (x.n 0) (x.p 0)))) (by kernel_rfl) ?_
          intro φ26 xs26 J17_26 leJ
          rintro h26_3_0 _ h26_10_0 h26_11_0 _
          have h5_1 := ERep.mono leJ h5_1
          exact Fun.mono (joinOE_c h5_1 h5_1 (ok_of h5_0) (ok_of h5_0)) (fun v J' _ ⟨y0, y1, hv, g0⟩ => ⟨{ UX.d with n := fun j => y0, p := fun j => y1 }, hv, g0⟩)
        case c26_19 =>
          refine kcast (A := ∀ (φ26 : Nat → Nat) (xs26 : Xs) (J19_26 : IM), I17.Le J19_26 → (ERep J19_26 (joinF 64 e8 e5) ((xs26 3).n 0) ((xs26 3).p 0)) → (True) → (ERep J19_26 (joinF 64 e8 e11) ((xs26 10).n 0) ((xs26 10).p 0)) → (ERep J19_26 (joinF 64 e5 (joinF 64 e8 e11)) ((xs26 11).n 0) ((xs26 11).p 0)) → (True) → (ERep J19_26 (joinF 64 e5 e5) ((xs26 17).n 0) ((xs26 17).p 0)) → Fun Tryd.prog 30 #[.agg #[.int .u64 (((xs26 17).n 0 : Nat) : Int), .pointer ((xs26 17).p 0)], .agg #[.int .u64 ((b5 : Nat) : Int), .pointer q5]] J19_26 (fun v J' => ∃ x : UX, v = .bool true ∧ (True))) (by kernel_rfl) ?_
          intro φ26 xs26 J19_26 leJ
          rintro h26_3_0 _ h26_10_0 h26_11_0 _ h26_17_0
          have h5_1 := ERep.mono leJ h5_1
          exact Fun.mono (sameOE_c h26_17_0 h5_1 (ok_join (ok_of h5_0) (ok_of h5_0)).1 (ok_of h5_0) (fun k => by have q0 := (ok_join (ok_of h5_0) (ok_of h5_0)).2 k; omega)) (fun v J' _ h => ⟨UX.d, h, trivial⟩)
        case c26_24 =>
          refine kcast (A := ∀ (φ26 : Nat → Nat) (xs26 : Xs) (J24_26 : IM), I17.Le J24_26 → (ERep J24_26 (joinF 64 e8 e5) ((xs26 3).n 0) ((xs26 3).p 0)) → (True) → (ERep J24_26 (joinF 64 e8 e11) ((xs26 10).n 0) ((xs26 10).p 0)) → (ERep J24_26 (joinF 64 e5 (joinF 64 e8 e11)) ((xs26 11).n 0) ((xs26 11).p 0)) → (True) → (ERep J24_26 (joinF 64 e5 e5) ((xs26 17).n 0) ((xs26 17).p 0)) → (True) → Fun Tryd.prog 29 #[.agg #[.int .u64 ((b5 : Nat) : Int), .pointer q5], .agg #[.int .u64 ((b11 : Nat) : Int), .pointer q11]] J24_26 (fun v J' => ∃ x : UX, v = .bool true ∧ (True))) (by kernel_rfl) ?_
          intro φ26 xs26 J24_26 leJ
          rintro h26_3_0 _ h26_10_0 h26_11_0 _ h26_17_0 _
          have h5_1 := ERep.mono leJ h5_1
          have h11_1 := ERep.mono leJ h11_1
          exact Fun.mono (leqOE_c h5_1 h11_1 (ok_of h5_0) (ok_of h11_0)) (fun v J' _ h => ⟨UX.d, h.trans (congrArg Value.bool hc19), trivial⟩)
        case c26_29 =>
          refine kcast (A := ∀ (φ26 : Nat → Nat) (xs26 : Xs) (J29_26 : IM), I17.Le J29_26 → (ERep J29_26 (joinF 64 e8 e5) ((xs26 3).n 0) ((xs26 3).p 0)) → (True) → (ERep J29_26 (joinF 64 e8 e11) ((xs26 10).n 0) ((xs26 10).p 0)) → (ERep J29_26 (joinF 64 e5 (joinF 64 e8 e11)) ((xs26 11).n 0) ((xs26 11).p 0)) → (True) → (ERep J29_26 (joinF 64 e5 e5) ((xs26 17).n 0) ((xs26 17).p 0)) → (True) → (True) → Fun Tryd.prog 29 #[.agg #[.int .u64 ((b8 : Nat) : Int), .pointer q8], .agg #[.int .u64 ((b11 : Nat) : Int), .pointer q11]] J29_26 (fun v J' => ∃ x : UX, v = .bool false ∧ (True))) (by kernel_rfl) ?_
          intro φ26 xs26 J29_26 leJ
          rintro h26_3_0 _ h26_10_0 h26_11_0 _ h26_17_0 _ _
          have h8_1 := ERep.mono leJ h8_1
          have h11_1 := ERep.mono leJ h11_1
          exact Fun.mono (leqOE_c h8_1 h11_1 (ok_of h8_0) (ok_of h11_0)) (fun v J' _ h => ⟨UX.d, h.trans (congrArg Value.bool hc20), trivial⟩)
        case c26_41 =>
          refine kcast (A := ∀ (φ26 : Nat → Nat) (xs26 : Xs) (J41_26 : IM), I17.Le J41_26 → (ERep J41_26 (joinF 64 e8 e5) ((xs26 3).n 0) ((xs26 3).p 0)) → (True) → (ERep J41_26 (joinF 64 e8 e11) ((xs26 10).n 0) ((xs26 10).p 0)) → (ERep J41_26 (joinF 64 e5 (joinF 64 e8 e11)) ((xs26 11).n 0) ((xs26 11).p 0)) → (True) → (ERep J41_26 (joinF 64 e5 e5) ((xs26 17).n 0) ((xs26 17).p 0)) → (True) → (True) → (True) → Fun Tryd.prog 29 #[.agg #[.int .u64 ((b5 : Nat) : Int), .pointer q5], .agg #[.int .u64 ((b8 : Nat) : Int), .pointer q8]] J41_26 (fun v J' => ∃ x : UX, v = .bool false ∧ (True))) (by kernel_rfl) ?_
          intro φ26 xs26 J41_26 leJ
          rintro h26_3_0 _ h26_10_0 h26_11_0 _ h26_17_0 _ _ _
          have h5_1 := ERep.mono leJ h5_1
          have h8_1 := ERep.mono leJ h8_1
          exact Fun.mono (leqOE_c h5_1 h8_1 (ok_of h5_0) (ok_of h8_0)) (fun v J' _ h => ⟨UX.d, h.trans (congrArg Value.bool hc24), trivial⟩)
        case k26 =>
          rintro φ26 xs26 I26 w26 le26 s h26_3_0 _ h26_10_0 h26_11_0 _ h26_17_0 _ _ _ _
          replace hT := Tab.mono le26 hT
          replace hla := BSl.mono le26 hla
          replace hlb := BSl.mono le26 hlb
          replace hlc := BSl.mono le26 hlc
          replace h5_1 := ERep.mono le26 h5_1
          replace h5_2 := RE.mono le26 h5_2
          replace h8_1 := ERep.mono le26 h8_1
          replace h8_2 := RE.mono le26 h8_2
          replace h11_1 := ERep.mono le26 h11_1
          replace h11_2 := RE.mono le26 h11_2
          replace h14_0 := ERep.mono le26 h14_0
          replace h17_0 := ERep.mono le26 h17_0
          refine wp_ret ?_
          refine ret_rule (C := []) [((φ6 0), .cells #[.int .u64 ((b5 : Nat) : Int), .pointer q5] 27), ((φ9 0), .cells #[.int .u64 ((b8 : Nat) : Int), .pointer q8] 27), ((φ12 0), .cells #[.int .u64 ((b11 : Nat) : Int), .pointer q11] 27), ((φ15 0), .cells #[.int .u64 ((b14 : Nat) : Int), .pointer p14] 27), ((φ18 0), .cells #[.int .u64 ((b17 : Nat) : Int), .pointer p17] 27)] [] (.bool true) [] [] s trivial (by kernel_rfl) ?_
          exact ⟨_, _, _, rfl, s, rfl⟩
  ·
    rcases Bool.eq_false_or_eq_true (leqF 64 e5 e8) with hc27 | hc27
    ·
      rcases Bool.eq_false_or_eq_true (leqF 64 e8 e11) with hc28 | hc28
      ·
        exact absurd ((leq_at (ok_of h5_0) (ok_of h11_0)).2 (fun k hk => by have z0 := (leq_at (ok_of h5_0) (ok_of h8_0)).1 hc27 k hk; have z1 := (leq_at (ok_of h8_0) (ok_of h11_0)).1 hc28 k hk; omega)) (by rw [hc19]; decide)
      ·
        refine draw_rule (C := []) ⟨(fun φ29 xs29 => [.look 0 [.o 3, .o 3] [(φ15 0), (φ15 0)], .look 0 [.o 1, .o 1] [(φ9 0), (φ9 0)], .look 0 [.o 0, .o 0] [(φ6 0), (φ6 0)], .call 28 #[.agg #[.int .u64 ((b8 : Nat) : Int), .pointer q8], .agg #[.int .u64 ((b5 : Nat) : Int), .pointer q5]], .call 30 #[.agg #[.int .u64 ((b14 : Nat) : Int), .pointer p14], .agg #[.int .u64 (((xs29 3).n 0 : Nat) : Int), .pointer ((xs29 3).p 0)]], .look 0 [] [], .look 0 [.o 4, .o 4] [(φ18 0), (φ18 0)], .look 0 [.o 0, .o 0] [(φ6 0), (φ6 0)], .look 0 [.o 1, .o 1] [(φ9 0), (φ9 0)], .look 0 [.o 2, .o 2] [(φ12 0), (φ12 0)], .call 28 #[.agg #[.int .u64 ((b8 : Nat) : Int), .pointer q8], .agg #[.int .u64 ((b11 : Nat) : Int), .pointer q11]], .call 28 #[.agg #[.int .u64 ((b5 : Nat) : Int), .pointer q5], .agg #[.int .u64 (((xs29 10).n 0 : Nat) : Int), .pointer ((xs29 10).p 0)]], .call 30 #[.agg #[.int .u64 ((b17 : Nat) : Int), .pointer p17], .agg #[.int .u64 (((xs29 11).n 0 : Nat) : Int), .pointer ((xs29 11).p 0)]], .look 0 [] [], .look 0 [] [], .look 0 [.o 0, .o 0] [(φ6 0), (φ6 0)], .look 0 [.o 0, .o 0] [(φ6 0), (φ6 0)], .call 28 #[.agg #[.int .u64 ((b5 : Nat) : Int), .pointer q5], .agg #[.int .u64 ((b5 : Nat) : Int), .pointer q5]], .look 0 [.o 0, .o 0] [(φ6 0), (φ6 0)], .call 30 #[.agg #[.int .u64 (((xs29 17).n 0 : Nat) : Int), .pointer ((xs29 17).p 0)], .agg #[.int .u64 ((b5 : Nat) : Int), .pointer q5]], .look 0 [] [], .look 0 [] [], .look 0 [.o 0, .o 0] [(φ6 0), (φ6 0)], .look 0 [.o 2, .o 2] [(φ12 0), (φ12 0)], .call 29 #[.agg #[.int .u64 ((b5 : Nat) : Int), .pointer q5], .agg #[.int .u64 ((b11 : Nat) : Int), .pointer q11]], .look 0 [] [], .look 0 [] [], .skip, .skip, .skip, .skip, .look 0 [] [], .look 0 [] [], .skip, .skip, .skip, .look 0 [] [], .look 0 [] [], .look 0 [] [], .look 0 [.o 0, .o 0] [(φ6 0), (φ6 0)], .look 0 [.o 1, .o 1] [(φ9 0), (φ9 0)], .call 29 #[.agg #[.int .u64 ((b5 : Nat) : Int), .pointer q5], .agg #[.int .u64 ((b8 : Nat) : Int), .pointer q8]], .look 0 [] [], .look 0 [] [], .look 0 [.o 1, .o 1] [(φ9 0), (φ9 0)], .look 0 [.o 2, .o 2] [(φ12 0), (φ12 0)], .call 29 #[.agg #[.int .u64 ((b8 : Nat) : Int), .pointer q8], .agg #[.int .u64 ((b11 : Nat) : Int), .pointer q11]], .look 0 [] [], .look 0 [] [], .look 0 [] [], .skip, .skip, .skip, .look 0 [] [], .look 0 [] [], .look 0 [] []]), (fun φ29 xs29 => [.agg #[.int .u64 ((b14 : Nat) : Int), .pointer p14], .agg #[.int .u64 ((b8 : Nat) : Int), .pointer q8], .agg #[.int .u64 ((b5 : Nat) : Int), .pointer q5], .agg #[.int .u64 (((xs29 3).n 0 : Nat) : Int), .pointer ((xs29 3).p 0)], .bool true, .bool true, .agg #[.int .u64 ((b17 : Nat) : Int), .pointer p17], .agg #[.int .u64 ((b5 : Nat) : Int), .pointer q5], .agg #[.int .u64 ((b8 : Nat) : Int), .pointer q8], .agg #[.int .u64 ((b11 : Nat) : Int), .pointer q11], .agg #[.int .u64 (((xs29 10).n 0 : Nat) : Int), .pointer ((xs29 10).p 0)], .agg #[.int .u64 (((xs29 11).n 0 : Nat) : Int), .pointer ((xs29 11).p 0)], .bool true, .bool true, .bool true, .agg #[.int .u64 ((b5 : Nat) : Int), .pointer q5], .agg #[.int .u64 ((b5 : Nat) : Int), .pointer q5], .agg #[.int .u64 (((xs29 17).n 0 : Nat) : Int), .pointer ((xs29 17).p 0)], .agg #[.int .u64 ((b5 : Nat) : Int), .pointer q5], .bool true, .bool true, .bool true, .agg #[.int .u64 ((b5 : Nat) : Int), .pointer q5], .agg #[.int .u64 ((b11 : Nat) : Int), .pointer q11], .bool false, .bool true, .bool true, undef, undef, undef, undef, .bool true, .bool true, undef, undef, undef, .bool true, .bool true, .bool true, .agg #[.int .u64 ((b5 : Nat) : Int), .pointer q5], .agg #[.int .u64 ((b8 : Nat) : Int), .pointer q8], .bool true, .bool false, .bool false, .agg #[.int .u64 ((b8 : Nat) : Int), .pointer q8], .agg #[.int .u64 ((b11 : Nat) : Int), .pointer q11], .bool false, .bool true, .bool true, .bool true, undef, undef, undef, .bool true, .bool true, .bool true]), (fun φ29 xs29 => [[((φ6 0), .cells #[.int .u64 ((b5 : Nat) : Int), .pointer q5] 27), ((φ9 0), .cells #[.int .u64 ((b8 : Nat) : Int), .pointer q8] 27), ((φ12 0), .cells #[.int .u64 ((b11 : Nat) : Int), .pointer q11] 27), ((φ15 0), .cells #[.int .u64 ((b14 : Nat) : Int), .pointer p14] 27), ((φ18 0), .cells #[.int .u64 ((b17 : Nat) : Int), .pointer p17] 27)]]), (fun φ29 xs29 => [[default, default, default, default, default, default, default, default, default, default, default, default, default, default, default, default, default, default, default, default, default, default, default, default, default, default, default, default, default, default, default, default, default, default, default, default, default, default, default, default, default, default, default, default, default, default, default, default, default, default, default, default, default, default, default, default]]), [], [1, 1, 1, 3, 3, 1, 1, 1, 1, 1, 3, 3, 3, 1, 1, 1, 1, 3, 1, 3, 1, 1, 1, 1, 3, 1, 1, 0, 0, 0, 0, 1, 1, 0, 0, 0, 1, 1, 1, 1, 1, 3, 1, 1, 1, 1, 3, 1, 1, 1, 0, 0, 0, 1, 1, 1]⟩ (fun j => ([MP.any, MP.any, MP.any, ⟨fun x J => ERep J (joinF 64 e8 e5) (x.n 0) (x.p 0), fun le h => ERep.mono le h⟩, MP.any, MP.any, MP.any, MP.any, MP.any, MP.any, ⟨fun x J => ERep J (joinF 64 e8 e11) (x.n 0) (x.p 0), fun le h => ERep.mono le h⟩, ⟨fun x J => ERep J (joinF 64 e5 (joinF 64 e8 e11)) (x.n 0) (x.p 0), fun le h => ERep.mono le h⟩, MP.any, MP.any, MP.any, MP.any, MP.any, ⟨fun x J => ERep J (joinF 64 e5 e5) (x.n 0) (x.p 0), fun le h => ERep.mono le h⟩, MP.any, MP.any, MP.any, MP.any, MP.any, MP.any, MP.any, MP.any, MP.any, MP.any, MP.any, MP.any, MP.any, MP.any, MP.any, MP.any, MP.any, MP.any, MP.any, MP.any, MP.any, MP.any, MP.any, MP.any, MP.any, MP.any, MP.any, MP.any, MP.any, MP.any, MP.any, MP.any, MP.any, MP.any, MP.any, MP.any, MP.any, MP.any] : List MP).getD j MP.any) [3, 4, 10, 11, 12, 17, 19, 24, 41, 46] [] [] (fun φ29 xs29 => []) (fun φ29 xs29 => [(38, .agg #[.int .u64 ((b14 : Nat) : Int), .pointer p14]), (39, .agg #[.int .u64 ((b8 : Nat) : Int), .pointer q8]), (40, .agg #[.int .u64 ((b5 : Nat) : Int), .pointer q5]), (41, .agg #[.int .u64 (((xs29 3).n 0 : Nat) : Int), .pointer ((xs29 3).p 0)]), (42, .bool true), (43, .bool true), (44, .agg #[.int .u64 ((b17 : Nat) : Int), .pointer p17]), (45, .agg #[.int .u64 ((b5 : Nat) : Int), .pointer q5]), (46, .agg #[.int .u64 ((b8 : Nat) : Int), .pointer q8]), (47, .agg #[.int .u64 ((b11 : Nat) : Int), .pointer q11]), (48, .agg #[.int .u64 (((xs29 10).n 0 : Nat) : Int), .pointer ((xs29 10).p 0)]), (49, .agg #[.int .u64 (((xs29 11).n 0 : Nat) : Int), .pointer ((xs29 11).p 0)]), (50, .bool true), (51, .bool true), (52, .bool true), (53, .agg #[.int .u64 ((b5 : Nat) : Int), .pointer q5]), (54, .agg #[.int .u64 ((b5 : Nat) : Int), .pointer q5]), (55, .agg #[.int .u64 (((xs29 17).n 0 : Nat) : Int), .pointer ((xs29 17).p 0)]), (56, .agg #[.int .u64 ((b5 : Nat) : Int), .pointer q5]), (57, .bool true), (58, .bool true), (59, .bool true), (60, .agg #[.int .u64 ((b5 : Nat) : Int), .pointer q5]), (61, .agg #[.int .u64 ((b11 : Nat) : Int), .pointer q11]), (62, .bool false), (63, .bool true), (64, .bool true), (65, undef), (66, undef), (67, undef), (68, undef), (69, .bool true), (70, .bool true), (71, undef), (72, undef), (73, undef), (74, .bool true), (75, .bool true), (76, .bool true), (77, .agg #[.int .u64 ((b5 : Nat) : Int), .pointer q5]), (78, .agg #[.int .u64 ((b8 : Nat) : Int), .pointer q8]), (79, .bool true), (80, .bool false), (81, .bool false), (82, .agg #[.int .u64 ((b8 : Nat) : Int), .pointer q8]), (83, .agg #[.int .u64 ((b11 : Nat) : Int), .pointer q11]), (84, .bool false), (85, .bool true), (86, .bool true), (87, .bool true), (88, undef), (89, undef), (90, undef), (91, .bool true), (92, .bool true), (6, .bool true)]) (fun φ29 xs29 => [((φ6 0), .cells #[.int .u64 ((b5 : Nat) : Int), .pointer q5] 27), ((φ9 0), .cells #[.int .u64 ((b8 : Nat) : Int), .pointer q8] 27), ((φ12 0), .cells #[.int .u64 ((b11 : Nat) : Int), .pointer q11] 27), ((φ15 0), .cells #[.int .u64 ((b14 : Nat) : Int), .pointer p14] 27), ((φ18 0), .cells #[.int .u64 ((b17 : Nat) : Int), .pointer p17] 27)]) s trivial (by kernel_rfl) (by kernel_rfl) (fun _ _ => by kernel_rfl) (fun _ _ => by kernel_rfl) ⟨fun _ _ => by kernel_rfl, fun _ _ => by kernel_rfl, fun _ _ => by kernel_rfl, fun _ _ => by kernel_rfl⟩ (fun _ _ _ => by kernel_rfl) (fun _ _ => by kernel_rfl) (fun _ _ => by kernel_rfl) (fun _ _ => by kernel_rfl) (fun _ _ => by kernel_rfl) (fun _ _ => by kernel_rfl) trivial trivial (by kernel_rfl) ⟨?c29_3, ?c29_4, ?c29_10, ?c29_11, ?c29_12, ?c29_17, ?c29_19, ?c29_24, ?c29_41, ?c29_46, trivial⟩ ?k29
        case c29_3 =>
          refine kcast (A := ∀ (φ29 : Nat → Nat) (xs29 : Xs) (J3_29 : IM), I17.Le J3_29 → Fun Tryd.prog 28 #[.agg #[.int .u64 ((b8 : Nat) : Int), .pointer q8], .agg #[.int .u64 ((b5 : Nat) : Int), .pointer q5]] J3_29 (fun v J' => ∃ x : UX, v = .agg #[.int .u64 ((x.n 0 : Nat) : Int), .pointer (x.p 0)] ∧ (ERep J' (joinF 64 e8 e5) (x.n 0) (x.p 0)))) (by kernel_rfl) ?_
          intro φ29 xs29 J3_29 leJ
          have h5_1 := ERep.mono leJ h5_1
          have h8_1 := ERep.mono leJ h8_1
          exact Fun.mono (joinOE_c h8_1 h5_1 (ok_of h8_0) (ok_of h5_0)) (fun v J' _ ⟨y0, y1, hv, g0⟩ => ⟨{ UX.d with n := fun j => y0, p := fun j => y1 }, hv, g0⟩)
        case c29_4 =>
          refine kcast (A := ∀ (φ29 : Nat → Nat) (xs29 : Xs) (J4_29 : IM), I17.Le J4_29 → (ERep J4_29 (joinF 64 e8 e5) ((xs29 3).n 0) ((xs29 3).p 0)) → Fun Tryd.prog 30 #[.agg #[.int .u64 ((b14 : Nat) : Int), .pointer p14], .agg #[.int .u64 (((xs29 3).n 0 : Nat) : Int), .pointer ((xs29 3).p 0)]] J4_29 (fun v J' => ∃ x : UX, v = .bool true ∧ (True))) (by kernel_rfl) ?_
          intro φ29 xs29 J4_29 leJ
          rintro h29_3_0
          have h14_0 := ERep.mono leJ h14_0
          exact Fun.mono (sameOE_c h14_0 h29_3_0 (ok_join (ok_of h5_0) (ok_of h8_0)).1 (ok_join (ok_of h8_0) (ok_of h5_0)).1 (fun k => by have q0 := (ok_join (ok_of h5_0) (ok_of h8_0)).2 k; have q1 := (ok_join (ok_of h8_0) (ok_of h5_0)).2 k; omega)) (fun v J' _ h => ⟨UX.d, h, trivial⟩)
        case c29_10 =>
          refine kcast (A := ∀ (φ29 : Nat → Nat) (xs29 : Xs) (J10_29 : IM), I17.Le J10_29 → (ERep J10_29 (joinF 64 e8 e5) ((xs29 3).n 0) ((xs29 3).p 0)) → (True) → Fun Tryd.prog 28 #[.agg #[.int .u64 ((b8 : Nat) : Int), .pointer q8], .agg #[.int .u64 ((b11 : Nat) : Int), .pointer q11]] J10_29 (fun v J' => ∃ x : UX, v = .agg #[.int .u64 ((x.n 0 : Nat) : Int), .pointer (x.p 0)] ∧ (ERep J' (joinF 64 e8 e11) (x.n 0) (x.p 0)))) (by kernel_rfl) ?_
          intro φ29 xs29 J10_29 leJ
          rintro h29_3_0 _
          have h8_1 := ERep.mono leJ h8_1
          have h11_1 := ERep.mono leJ h11_1
          exact Fun.mono (joinOE_c h8_1 h11_1 (ok_of h8_0) (ok_of h11_0)) (fun v J' _ ⟨y0, y1, hv, g0⟩ => ⟨{ UX.d with n := fun j => y0, p := fun j => y1 }, hv, g0⟩)
        case c29_11 =>
          refine kcast (A := ∀ (φ29 : Nat → Nat) (xs29 : Xs) (J11_29 : IM), I17.Le J11_29 → (ERep J11_29 (joinF 64 e8 e5) ((xs29 3).n 0) ((xs29 3).p 0)) → (True) → (ERep J11_29 (joinF 64 e8 e11) ((xs29 10).n 0) ((xs29 10).p 0)) → Fun Tryd.prog 28 #[.agg #[.int .u64 ((b5 : Nat) : Int), .pointer q5], .agg #[.int .u64 (((xs29 10).n 0 : Nat) : Int), .pointer ((xs29 10).p 0)]] J11_29 (fun v J' => ∃ x : UX, v = .agg #[.int .u64 ((x.n 0 : Nat) : Int), .pointer (x.p 0)] ∧ (ERep J' (joinF 64 e5 (joinF 64 e8 e11)) (x.n 0) (x.p 0)))) (by kernel_rfl) ?_
          intro φ29 xs29 J11_29 leJ
          rintro h29_3_0 _ h29_10_0
          have h5_1 := ERep.mono leJ h5_1
          exact Fun.mono (joinOE_c h5_1 h29_10_0 (ok_of h5_0) (ok_join (ok_of h8_0) (ok_of h11_0)).1) (fun v J' _ ⟨y0, y1, hv, g0⟩ => ⟨{ UX.d with n := fun j => y0, p := fun j => y1 }, hv, g0⟩)
        case c29_12 =>
          refine kcast (A := ∀ (φ29 : Nat → Nat) (xs29 : Xs) (J12_29 : IM), I17.Le J12_29 → (ERep J12_29 (joinF 64 e8 e5) ((xs29 3).n 0) ((xs29 3).p 0)) → (True) → (ERep J12_29 (joinF 64 e8 e11) ((xs29 10).n 0) ((xs29 10).p 0)) → (ERep J12_29 (joinF 64 e5 (joinF 64 e8 e11)) ((xs29 11).n 0) ((xs29 11).p 0)) → Fun Tryd.prog 30 #[.agg #[.int .u64 ((b17 : Nat) : Int), .pointer p17], .agg #[.int .u64 (((xs29 11).n 0 : Nat) : Int), .pointer ((xs29 11).p 0)]] J12_29 (fun v J' => ∃ x : UX, v = .bool true ∧ (True))) (by kernel_rfl) ?_
          intro φ29 xs29 J12_29 leJ
          rintro h29_3_0 _ h29_10_0 h29_11_0
          have h17_0 := ERep.mono leJ h17_0
          exact Fun.mono (sameOE_c h17_0 h29_11_0 (ok_join (ok_join (ok_of h5_0) (ok_of h8_0)).1 (ok_of h11_0)).1 (ok_join (ok_of h5_0) (ok_join (ok_of h8_0) (ok_of h11_0)).1).1 (fun k => by have q0 := (ok_join (ok_join (ok_of h5_0) (ok_of h8_0)).1 (ok_of h11_0)).2 k; have q1 := (ok_join (ok_of h5_0) (ok_of h8_0)).2 k; have q2 := (ok_join (ok_of h5_0) (ok_join (ok_of h8_0) (ok_of h11_0)).1).2 k; have q3 := (ok_join (ok_of h8_0) (ok_of h11_0)).2 k; omega)) (fun v J' _ h => ⟨UX.d, h, trivial⟩)
        case c29_17 =>
          refine kcast (A := ∀ (φ29 : Nat → Nat) (xs29 : Xs) (J17_29 : IM), I17.Le J17_29 → (ERep J17_29 (joinF 64 e8 e5) ((xs29 3).n 0) ((xs29 3).p 0)) → (True) → (ERep J17_29 (joinF 64 e8 e11) ((xs29 10).n 0) ((xs29 10).p 0)) → (ERep J17_29 (joinF 64 e5 (joinF 64 e8 e11)) ((xs29 11).n 0) ((xs29 11).p 0)) → (True) → Fun Tryd.prog 28 #[.agg #[.int .u64 ((b5 : Nat) : Int), .pointer q5], .agg #[.int .u64 ((b5 : Nat) : Int), .pointer q5]] J17_29 (fun v J' => ∃ x : UX, v = .agg #[.int .u64 ((x.n 0 : Nat) : Int), .pointer (x.p 0)] ∧ (ERep J' (joinF 64 e5 e5) (x.n 0) (x.p 0)))) (by kernel_rfl) ?_
          intro φ29 xs29 J17_29 leJ
          rintro h29_3_0 _ h29_10_0 h29_11_0 _
          have h5_1 := ERep.mono leJ h5_1
          exact Fun.mono (joinOE_c h5_1 h5_1 (ok_of h5_0) (ok_of h5_0)) (fun v J' _ ⟨y0, y1, hv, g0⟩ => ⟨{ UX.d with n := fun j => y0, p := fun j => y1 }, hv, g0⟩)
        case c29_19 =>
          refine kcast (A := ∀ (φ29 : Nat → Nat) (xs29 : Xs) (J19_29 : IM), I17.Le J19_29 → (ERep J19_29 (joinF 64 e8 e5) ((xs29 3).n 0) ((xs29 3).p 0)) → (True) → (ERep J19_29 (joinF 64 e8 e11) ((xs29 10).n 0) ((xs29 10).p 0)) → (ERep J19_29 (joinF 64 e5 (joinF 64 e8 e11)) ((xs29 11).n 0) ((xs29 11).p 0)) → (True) → (ERep J19_29 (joinF 64 e5 e5) ((xs29 17).n 0) ((xs29 17).p 0)) → Fun Tryd.prog 30 #[.agg #[.int .u64 (((xs29 17).n 0 : Nat) : Int), .pointer ((xs29 17).p 0)], .agg #[.int .u64 ((b5 : Nat) : Int), .pointer q5]] J19_29 (fun v J' => ∃ x : UX, v = .bool true ∧ (True))) (by kernel_rfl) ?_
          intro φ29 xs29 J19_29 leJ
          rintro h29_3_0 _ h29_10_0 h29_11_0 _ h29_17_0
          have h5_1 := ERep.mono leJ h5_1
          exact Fun.mono (sameOE_c h29_17_0 h5_1 (ok_join (ok_of h5_0) (ok_of h5_0)).1 (ok_of h5_0) (fun k => by have q0 := (ok_join (ok_of h5_0) (ok_of h5_0)).2 k; omega)) (fun v J' _ h => ⟨UX.d, h, trivial⟩)
        case c29_24 =>
          refine kcast (A := ∀ (φ29 : Nat → Nat) (xs29 : Xs) (J24_29 : IM), I17.Le J24_29 → (ERep J24_29 (joinF 64 e8 e5) ((xs29 3).n 0) ((xs29 3).p 0)) → (True) → (ERep J24_29 (joinF 64 e8 e11) ((xs29 10).n 0) ((xs29 10).p 0)) → (ERep J24_29 (joinF 64 e5 (joinF 64 e8 e11)) ((xs29 11).n 0) ((xs29 11).p 0)) → (True) → (ERep J24_29 (joinF 64 e5 e5) ((xs29 17).n 0) ((xs29 17).p 0)) → (True) → Fun Tryd.prog 29 #[.agg #[.int .u64 ((b5 : Nat) : Int), .pointer q5], .agg #[.int .u64 ((b11 : Nat) : Int), .pointer q11]] J24_29 (fun v J' => ∃ x : UX, v = .bool false ∧ (True))) (by kernel_rfl) ?_
          intro φ29 xs29 J24_29 leJ
          rintro h29_3_0 _ h29_10_0 h29_11_0 _ h29_17_0 _
          have h5_1 := ERep.mono leJ h5_1
          have h11_1 := ERep.mono leJ h11_1
          exact Fun.mono (leqOE_c h5_1 h11_1 (ok_of h5_0) (ok_of h11_0)) (fun v J' _ h => ⟨UX.d, h.trans (congrArg Value.bool hc19), trivial⟩)
        case c29_41 =>
          refine kcast (A := ∀ (φ29 : Nat → Nat) (xs29 : Xs) (J41_29 : IM), I17.Le J41_29 → (ERep J41_29 (joinF 64 e8 e5) ((xs29 3).n 0) ((xs29 3).p 0)) → (True) → (ERep J41_29 (joinF 64 e8 e11) ((xs29 10).n 0) ((xs29 10).p 0)) → (ERep J41_29 (joinF 64 e5 (joinF 64 e8 e11)) ((xs29 11).n 0) ((xs29 11).p 0)) → (True) → (ERep J41_29 (joinF 64 e5 e5) ((xs29 17).n 0) ((xs29 17).p 0)) → (True) → (True) → Fun Tryd.prog 29 #[.agg #[.int .u64 ((b5 : Nat) : Int), .pointer q5], .agg #[.int .u64 ((b8 : Nat) : Int), .pointer q8]] J41_29 (fun v J' => ∃ x : UX, v = .bool true ∧ (True))) (by kernel_rfl) ?_
          intro φ29 xs29 J41_29 leJ
          rintro h29_3_0 _ h29_10_0 h29_11_0 _ h29_17_0 _ _
          have h5_1 := ERep.mono leJ h5_1
          have h8_1 := ERep.mono leJ h8_1
          exact Fun.mono (leqOE_c h5_1 h8_1 (ok_of h5_0) (ok_of h8_0)) (fun v J' _ h => ⟨UX.d, h.trans (congrArg Value.bool hc27), trivial⟩)
        case c29_46 =>
          refine kcast (A := ∀ (φ29 : Nat → Nat) (xs29 : Xs) (J46_29 : IM), I17.Le J46_29 → (ERep J46_29 (joinF 64 e8 e5) ((xs29 3).n 0) ((xs29 3).p 0)) → (True) → (ERep J46_29 (joinF 64 e8 e11) ((xs29 10).n 0) ((xs29 10).p 0)) → (ERep J46_29 (joinF 64 e5 (joinF 64 e8 e11)) ((xs29 11).n 0) ((xs29 11).p 0)) → (True) → (ERep J46_29 (joinF 64 e5 e5) ((xs29 17).n 0) ((xs29 17).p 0)) → (True) → (True) → (True) → Fun Tryd.prog 29 #[.agg #[.int .u64 ((b8 : Nat) : Int), .pointer q8], .agg #[.int .u64 ((b11 : Nat) : Int), .pointer q11]] J46_29 (fun v J' => ∃ x : UX, v = .bool false ∧ (True))) (by kernel_rfl) ?_
          intro φ29 xs29 J46_29 leJ
          rintro h29_3_0 _ h29_10_0 h29_11_0 _ h29_17_0 _ _ _
          have h8_1 := ERep.mono leJ h8_1
          have h11_1 := ERep.mono leJ h11_1
          exact Fun.mono (leqOE_c h8_1 h11_1 (ok_of h8_0) (ok_of h11_0)) (fun v J' _ h => ⟨UX.d, h.trans (congrArg Value.bool hc28), trivial⟩)
        case k29 =>
          rintro φ29 xs29 I29 w29 le29 s h29_3_0 _ h29_10_0 h29_11_0 _ h29_17_0 _ _ _ _
          replace hT := Tab.mono le29 hT
          replace hla := BSl.mono le29 hla
          replace hlb := BSl.mono le29 hlb
          replace hlc := BSl.mono le29 hlc
          replace h5_1 := ERep.mono le29 h5_1
          replace h5_2 := RE.mono le29 h5_2
          replace h8_1 := ERep.mono le29 h8_1
          replace h8_2 := RE.mono le29 h8_2
          replace h11_1 := ERep.mono le29 h11_1
          replace h11_2 := RE.mono le29 h11_2
          replace h14_0 := ERep.mono le29 h14_0
          replace h17_0 := ERep.mono le29 h17_0
          refine wp_ret ?_
          refine ret_rule (C := []) [((φ6 0), .cells #[.int .u64 ((b5 : Nat) : Int), .pointer q5] 27), ((φ9 0), .cells #[.int .u64 ((b8 : Nat) : Int), .pointer q8] 27), ((φ12 0), .cells #[.int .u64 ((b11 : Nat) : Int), .pointer q11] 27), ((φ15 0), .cells #[.int .u64 ((b14 : Nat) : Int), .pointer p14] 27), ((φ18 0), .cells #[.int .u64 ((b17 : Nat) : Int), .pointer p17] 27)] [] (.bool true) [] [] s trivial (by kernel_rfl) ?_
          exact ⟨_, _, _, rfl, s, rfl⟩
    ·
      refine draw_rule (C := []) ⟨(fun φ30 xs30 => [.look 0 [.o 3, .o 3] [(φ15 0), (φ15 0)], .look 0 [.o 1, .o 1] [(φ9 0), (φ9 0)], .look 0 [.o 0, .o 0] [(φ6 0), (φ6 0)], .call 28 #[.agg #[.int .u64 ((b8 : Nat) : Int), .pointer q8], .agg #[.int .u64 ((b5 : Nat) : Int), .pointer q5]], .call 30 #[.agg #[.int .u64 ((b14 : Nat) : Int), .pointer p14], .agg #[.int .u64 (((xs30 3).n 0 : Nat) : Int), .pointer ((xs30 3).p 0)]], .look 0 [] [], .look 0 [.o 4, .o 4] [(φ18 0), (φ18 0)], .look 0 [.o 0, .o 0] [(φ6 0), (φ6 0)], .look 0 [.o 1, .o 1] [(φ9 0), (φ9 0)], .look 0 [.o 2, .o 2] [(φ12 0), (φ12 0)], .call 28 #[.agg #[.int .u64 ((b8 : Nat) : Int), .pointer q8], .agg #[.int .u64 ((b11 : Nat) : Int), .pointer q11]], .call 28 #[.agg #[.int .u64 ((b5 : Nat) : Int), .pointer q5], .agg #[.int .u64 (((xs30 10).n 0 : Nat) : Int), .pointer ((xs30 10).p 0)]], .call 30 #[.agg #[.int .u64 ((b17 : Nat) : Int), .pointer p17], .agg #[.int .u64 (((xs30 11).n 0 : Nat) : Int), .pointer ((xs30 11).p 0)]], .look 0 [] [], .look 0 [] [], .look 0 [.o 0, .o 0] [(φ6 0), (φ6 0)], .look 0 [.o 0, .o 0] [(φ6 0), (φ6 0)], .call 28 #[.agg #[.int .u64 ((b5 : Nat) : Int), .pointer q5], .agg #[.int .u64 ((b5 : Nat) : Int), .pointer q5]], .look 0 [.o 0, .o 0] [(φ6 0), (φ6 0)], .call 30 #[.agg #[.int .u64 (((xs30 17).n 0 : Nat) : Int), .pointer ((xs30 17).p 0)], .agg #[.int .u64 ((b5 : Nat) : Int), .pointer q5]], .look 0 [] [], .look 0 [] [], .look 0 [.o 0, .o 0] [(φ6 0), (φ6 0)], .look 0 [.o 2, .o 2] [(φ12 0), (φ12 0)], .call 29 #[.agg #[.int .u64 ((b5 : Nat) : Int), .pointer q5], .agg #[.int .u64 ((b11 : Nat) : Int), .pointer q11]], .look 0 [] [], .look 0 [] [], .skip, .skip, .skip, .skip, .look 0 [] [], .look 0 [] [], .skip, .skip, .skip, .look 0 [] [], .look 0 [] [], .look 0 [] [], .look 0 [.o 0, .o 0] [(φ6 0), (φ6 0)], .look 0 [.o 1, .o 1] [(φ9 0), (φ9 0)], .call 29 #[.agg #[.int .u64 ((b5 : Nat) : Int), .pointer q5], .agg #[.int .u64 ((b8 : Nat) : Int), .pointer q8]], .look 0 [] [], .look 0 [] [], .skip, .skip, .skip, .skip, .look 0 [] [], .look 0 [] [], .skip, .skip, .skip, .look 0 [] [], .look 0 [] [], .look 0 [] []]), (fun φ30 xs30 => [.agg #[.int .u64 ((b14 : Nat) : Int), .pointer p14], .agg #[.int .u64 ((b8 : Nat) : Int), .pointer q8], .agg #[.int .u64 ((b5 : Nat) : Int), .pointer q5], .agg #[.int .u64 (((xs30 3).n 0 : Nat) : Int), .pointer ((xs30 3).p 0)], .bool true, .bool true, .agg #[.int .u64 ((b17 : Nat) : Int), .pointer p17], .agg #[.int .u64 ((b5 : Nat) : Int), .pointer q5], .agg #[.int .u64 ((b8 : Nat) : Int), .pointer q8], .agg #[.int .u64 ((b11 : Nat) : Int), .pointer q11], .agg #[.int .u64 (((xs30 10).n 0 : Nat) : Int), .pointer ((xs30 10).p 0)], .agg #[.int .u64 (((xs30 11).n 0 : Nat) : Int), .pointer ((xs30 11).p 0)], .bool true, .bool true, .bool true, .agg #[.int .u64 ((b5 : Nat) : Int), .pointer q5], .agg #[.int .u64 ((b5 : Nat) : Int), .pointer q5], .agg #[.int .u64 (((xs30 17).n 0 : Nat) : Int), .pointer ((xs30 17).p 0)], .agg #[.int .u64 ((b5 : Nat) : Int), .pointer q5], .bool true, .bool true, .bool true, .agg #[.int .u64 ((b5 : Nat) : Int), .pointer q5], .agg #[.int .u64 ((b11 : Nat) : Int), .pointer q11], .bool false, .bool true, .bool true, undef, undef, undef, undef, .bool true, .bool true, undef, undef, undef, .bool true, .bool true, .bool true, .agg #[.int .u64 ((b5 : Nat) : Int), .pointer q5], .agg #[.int .u64 ((b8 : Nat) : Int), .pointer q8], .bool false, .bool true, .bool true, undef, undef, undef, undef, .bool true, .bool true, undef, undef, undef, .bool true, .bool true, .bool true]), (fun φ30 xs30 => [[((φ6 0), .cells #[.int .u64 ((b5 : Nat) : Int), .pointer q5] 27), ((φ9 0), .cells #[.int .u64 ((b8 : Nat) : Int), .pointer q8] 27), ((φ12 0), .cells #[.int .u64 ((b11 : Nat) : Int), .pointer q11] 27), ((φ15 0), .cells #[.int .u64 ((b14 : Nat) : Int), .pointer p14] 27), ((φ18 0), .cells #[.int .u64 ((b17 : Nat) : Int), .pointer p17] 27)]]), (fun φ30 xs30 => [[default, default, default, default, default, default, default, default, default, default, default, default, default, default, default, default, default, default, default, default, default, default, default, default, default, default, default, default, default, default, default, default, default, default, default, default, default, default, default, default, default, default, default, default, default, default, default, default, default, default, default, default, default, default, default, default]]), [], [1, 1, 1, 3, 3, 1, 1, 1, 1, 1, 3, 3, 3, 1, 1, 1, 1, 3, 1, 3, 1, 1, 1, 1, 3, 1, 1, 0, 0, 0, 0, 1, 1, 0, 0, 0, 1, 1, 1, 1, 1, 3, 1, 1, 0, 0, 0, 0, 1, 1, 0, 0, 0, 1, 1, 1]⟩ (fun j => ([MP.any, MP.any, MP.any, ⟨fun x J => ERep J (joinF 64 e8 e5) (x.n 0) (x.p 0), fun le h => ERep.mono le h⟩, MP.any, MP.any, MP.any, MP.any, MP.any, MP.any, ⟨fun x J => ERep J (joinF 64 e8 e11) (x.n 0) (x.p 0), fun le h => ERep.mono le h⟩, ⟨fun x J => ERep J (joinF 64 e5 (joinF 64 e8 e11)) (x.n 0) (x.p 0), fun le h => ERep.mono le h⟩, MP.any, MP.any, MP.any, MP.any, MP.any, ⟨fun x J => ERep J (joinF 64 e5 e5) (x.n 0) (x.p 0), fun le h => ERep.mono le h⟩, MP.any, MP.any, MP.any, MP.any, MP.any, MP.any, MP.any, MP.any, MP.any, MP.any, MP.any, MP.any, MP.any, MP.any, MP.any, MP.any, MP.any, MP.any, MP.any, MP.any, MP.any, MP.any, MP.any, MP.any, MP.any, MP.any, MP.any, MP.any, MP.any, MP.any, MP.any, MP.any, MP.any, MP.any, MP.any, MP.any, MP.any, MP.any] : List MP).getD j MP.any) [3, 4, 10, 11, 12, 17, 19, 24, 41] [] [] (fun φ30 xs30 => []) (fun φ30 xs30 => [(38, .agg #[.int .u64 ((b14 : Nat) : Int), .pointer p14]), (39, .agg #[.int .u64 ((b8 : Nat) : Int), .pointer q8]), (40, .agg #[.int .u64 ((b5 : Nat) : Int), .pointer q5]), (41, .agg #[.int .u64 (((xs30 3).n 0 : Nat) : Int), .pointer ((xs30 3).p 0)]), (42, .bool true), (43, .bool true), (44, .agg #[.int .u64 ((b17 : Nat) : Int), .pointer p17]), (45, .agg #[.int .u64 ((b5 : Nat) : Int), .pointer q5]), (46, .agg #[.int .u64 ((b8 : Nat) : Int), .pointer q8]), (47, .agg #[.int .u64 ((b11 : Nat) : Int), .pointer q11]), (48, .agg #[.int .u64 (((xs30 10).n 0 : Nat) : Int), .pointer ((xs30 10).p 0)]), (49, .agg #[.int .u64 (((xs30 11).n 0 : Nat) : Int), .pointer ((xs30 11).p 0)]), (50, .bool true), (51, .bool true), (52, .bool true), (53, .agg #[.int .u64 ((b5 : Nat) : Int), .pointer q5]), (54, .agg #[.int .u64 ((b5 : Nat) : Int), .pointer q5]), (55, .agg #[.int .u64 (((xs30 17).n 0 : Nat) : Int), .pointer ((xs30 17).p 0)]), (56, .agg #[.int .u64 ((b5 : Nat) : Int), .pointer q5]), (57, .bool true), (58, .bool true), (59, .bool true), (60, .agg #[.int .u64 ((b5 : Nat) : Int), .pointer q5]), (61, .agg #[.int .u64 ((b11 : Nat) : Int), .pointer q11]), (62, .bool false), (63, .bool true), (64, .bool true), (65, undef), (66, undef), (67, undef), (68, undef), (69, .bool true), (70, .bool true), (71, undef), (72, undef), (73, undef), (74, .bool true), (75, .bool true), (76, .bool true), (77, .agg #[.int .u64 ((b5 : Nat) : Int), .pointer q5]), (78, .agg #[.int .u64 ((b8 : Nat) : Int), .pointer q8]), (79, .bool false), (80, .bool true), (81, .bool true), (82, undef), (83, undef), (84, undef), (85, undef), (86, .bool true), (87, .bool true), (88, undef), (89, undef), (90, undef), (91, .bool true), (92, .bool true), (6, .bool true)]) (fun φ30 xs30 => [((φ6 0), .cells #[.int .u64 ((b5 : Nat) : Int), .pointer q5] 27), ((φ9 0), .cells #[.int .u64 ((b8 : Nat) : Int), .pointer q8] 27), ((φ12 0), .cells #[.int .u64 ((b11 : Nat) : Int), .pointer q11] 27), ((φ15 0), .cells #[.int .u64 ((b14 : Nat) : Int), .pointer p14] 27), ((φ18 0), .cells #[.int .u64 ((b17 : Nat) : Int), .pointer p17] 27)]) s trivial (by kernel_rfl) (by kernel_rfl) (fun _ _ => by kernel_rfl) (fun _ _ => by kernel_rfl) ⟨fun _ _ => by kernel_rfl, fun _ _ => by kernel_rfl, fun _ _ => by kernel_rfl, fun _ _ => by kernel_rfl⟩ (fun _ _ _ => by kernel_rfl) (fun _ _ => by kernel_rfl) (fun _ _ => by kernel_rfl) (fun _ _ => by kernel_rfl) (fun _ _ => by kernel_rfl) (fun _ _ => by kernel_rfl) trivial trivial (by kernel_rfl) ⟨?c30_3, ?c30_4, ?c30_10, ?c30_11, ?c30_12, ?c30_17, ?c30_19, ?c30_24, ?c30_41, trivial⟩ ?k30
      case c30_3 =>
        refine kcast (A := ∀ (φ30 : Nat → Nat) (xs30 : Xs) (J3_30 : IM), I17.Le J3_30 → Fun Tryd.prog 28 #[.agg #[.int .u64 ((b8 : Nat) : Int), .pointer q8], .agg #[.int .u64 ((b5 : Nat) : Int), .pointer q5]] J3_30 (fun v J' => ∃ x : UX, v = .agg #[.int .u64 ((x.n 0 : Nat) : Int), .pointer (x.p 0)] ∧ (ERep J' (joinF 64 e8 e5) (x.n 0) (x.p 0)))) (by kernel_rfl) ?_
        intro φ30 xs30 J3_30 leJ
        have h5_1 := ERep.mono leJ h5_1
        have h8_1 := ERep.mono leJ h8_1
        exact Fun.mono (joinOE_c h8_1 h5_1 (ok_of h8_0) (ok_of h5_0)) (fun v J' _ ⟨y0, y1, hv, g0⟩ => ⟨{ UX.d with n := fun j => y0, p := fun j => y1 }, hv, g0⟩)
      case c30_4 =>
        refine kcast (A := ∀ (φ30 : Nat → Nat) (xs30 : Xs) (J4_30 : IM), I17.Le J4_30 → (ERep J4_30 (joinF 64 e8 e5) ((xs30 3).n 0) ((xs30 3).p 0)) → Fun Tryd.prog 30 #[.agg #[.int .u64 ((b14 : Nat) : Int), .pointer p14], .agg #[.int .u64 (((xs30 3).n 0 : Nat) : Int), .pointer ((xs30 3).p 0)]] J4_30 (fun v J' => ∃ x : UX, v = .bool true ∧ (True))) (by kernel_rfl) ?_
        intro φ30 xs30 J4_30 leJ
        rintro h30_3_0
        have h14_0 := ERep.mono leJ h14_0
        exact Fun.mono (sameOE_c h14_0 h30_3_0 (ok_join (ok_of h5_0) (ok_of h8_0)).1 (ok_join (ok_of h8_0) (ok_of h5_0)).1 (fun k => by have q0 := (ok_join (ok_of h5_0) (ok_of h8_0)).2 k; have q1 := (ok_join (ok_of h8_0) (ok_of h5_0)).2 k; omega)) (fun v J' _ h => ⟨UX.d, h, trivial⟩)
      case c30_10 =>
        refine kcast (A := ∀ (φ30 : Nat → Nat) (xs30 : Xs) (J10_30 : IM), I17.Le J10_30 → (ERep J10_30 (joinF 64 e8 e5) ((xs30 3).n 0) ((xs30 3).p 0)) → (True) → Fun Tryd.prog 28 #[.agg #[.int .u64 ((b8 : Nat) : Int), .pointer q8], .agg #[.int .u64 ((b11 : Nat) : Int), .pointer q11]] J10_30 (fun v J' => ∃ x : UX, v = .agg #[.int .u64 ((x.n 0 : Nat) : Int), .pointer (x.p 0)] ∧ (ERep J' (joinF 64 e8 e11) (x.n 0) (x.p 0)))) (by kernel_rfl) ?_
        intro φ30 xs30 J10_30 leJ
        rintro h30_3_0 _
        have h8_1 := ERep.mono leJ h8_1
        have h11_1 := ERep.mono leJ h11_1
        exact Fun.mono (joinOE_c h8_1 h11_1 (ok_of h8_0) (ok_of h11_0)) (fun v J' _ ⟨y0, y1, hv, g0⟩ => ⟨{ UX.d with n := fun j => y0, p := fun j => y1 }, hv, g0⟩)
      case c30_11 =>
        refine kcast (A := ∀ (φ30 : Nat → Nat) (xs30 : Xs) (J11_30 : IM), I17.Le J11_30 → (ERep J11_30 (joinF 64 e8 e5) ((xs30 3).n 0) ((xs30 3).p 0)) → (True) → (ERep J11_30 (joinF 64 e8 e11) ((xs30 10).n 0) ((xs30 10).p 0)) → Fun Tryd.prog 28 #[.agg #[.int .u64 ((b5 : Nat) : Int), .pointer q5], .agg #[.int .u64 (((xs30 10).n 0 : Nat) : Int), .pointer ((xs30 10).p 0)]] J11_30 (fun v J' => ∃ x : UX, v = .agg #[.int .u64 ((x.n 0 : Nat) : Int), .pointer (x.p 0)] ∧ (ERep J' (joinF 64 e5 (joinF 64 e8 e11)) (x.n 0) (x.p 0)))) (by kernel_rfl) ?_
        intro φ30 xs30 J11_30 leJ
        rintro h30_3_0 _ h30_10_0
        have h5_1 := ERep.mono leJ h5_1
        exact Fun.mono (joinOE_c h5_1 h30_10_0 (ok_of h5_0) (ok_join (ok_of h8_0) (ok_of h11_0)).1) (fun v J' _ ⟨y0, y1, hv, g0⟩ => ⟨{ UX.d with n := fun j => y0, p := fun j => y1 }, hv, g0⟩)
      case c30_12 =>
        refine kcast (A := ∀ (φ30 : Nat → Nat) (xs30 : Xs) (J12_30 : IM), I17.Le J12_30 → (ERep J12_30 (joinF 64 e8 e5) ((xs30 3).n 0) ((xs30 3).p 0)) → (True) → (ERep J12_30 (joinF 64 e8 e11) ((xs30 10).n 0) ((xs30 10).p 0)) → (ERep J12_30 (joinF 64 e5 (joinF 64 e8 e11)) ((xs30 11).n 0) ((xs30 11).p 0)) → Fun Tryd.prog 30 #[.agg #[.int .u64 ((b17 : Nat) : Int), .pointer p17], .agg #[.int .u64 (((xs30 11).n 0 : Nat) : Int), .pointer ((xs30 11).p 0)]] J12_30 (fun v J' => ∃ x : UX, v = .bool true ∧ (True))) (by kernel_rfl) ?_
        intro φ30 xs30 J12_30 leJ
        rintro h30_3_0 _ h30_10_0 h30_11_0
        have h17_0 := ERep.mono leJ h17_0
        exact Fun.mono (sameOE_c h17_0 h30_11_0 (ok_join (ok_join (ok_of h5_0) (ok_of h8_0)).1 (ok_of h11_0)).1 (ok_join (ok_of h5_0) (ok_join (ok_of h8_0) (ok_of h11_0)).1).1 (fun k => by have q0 := (ok_join (ok_join (ok_of h5_0) (ok_of h8_0)).1 (ok_of h11_0)).2 k; have q1 := (ok_join (ok_of h5_0) (ok_of h8_0)).2 k; have q2 := (ok_join (ok_of h5_0) (ok_join (ok_of h8_0) (ok_of h11_0)).1).2 k; have q3 := (ok_join (ok_of h8_0) (ok_of h11_0)).2 k; omega)) (fun v J' _ h => ⟨UX.d, h, trivial⟩)
      case c30_17 =>
        refine kcast (A := ∀ (φ30 : Nat → Nat) (xs30 : Xs) (J17_30 : IM), I17.Le J17_30 → (ERep J17_30 (joinF 64 e8 e5) ((xs30 3).n 0) ((xs30 3).p 0)) → (True) → (ERep J17_30 (joinF 64 e8 e11) ((xs30 10).n 0) ((xs30 10).p 0)) → (ERep J17_30 (joinF 64 e5 (joinF 64 e8 e11)) ((xs30 11).n 0) ((xs30 11).p 0)) → (True) → Fun Tryd.prog 28 #[.agg #[.int .u64 ((b5 : Nat) : Int), .pointer q5], .agg #[.int .u64 ((b5 : Nat) : Int), .pointer q5]] J17_30 (fun v J' => ∃ x : UX, v = .agg #[.int .u64 ((x.n 0 : Nat) : Int), .pointer (x.p 0)] ∧ (ERep J' (joinF 64 e5 e5) (x.n 0) (x.p 0)))) (by kernel_rfl) ?_
        intro φ30 xs30 J17_30 leJ
        rintro h30_3_0 _ h30_10_0 h30_11_0 _
        have h5_1 := ERep.mono leJ h5_1
        exact Fun.mono (joinOE_c h5_1 h5_1 (ok_of h5_0) (ok_of h5_0)) (fun v J' _ ⟨y0, y1, hv, g0⟩ => ⟨{ UX.d with n := fun j => y0, p := fun j => y1 }, hv, g0⟩)
      case c30_19 =>
        refine kcast (A := ∀ (φ30 : Nat → Nat) (xs30 : Xs) (J19_30 : IM), I17.Le J19_30 → (ERep J19_30 (joinF 64 e8 e5) ((xs30 3).n 0) ((xs30 3).p 0)) → (True) → (ERep J19_30 (joinF 64 e8 e11) ((xs30 10).n 0) ((xs30 10).p 0)) → (ERep J19_30 (joinF 64 e5 (joinF 64 e8 e11)) ((xs30 11).n 0) ((xs30 11).p 0)) → (True) → (ERep J19_30 (joinF 64 e5 e5) ((xs30 17).n 0) ((xs30 17).p 0)) → Fun Tryd.prog 30 #[.agg #[.int .u64 (((xs30 17).n 0 : Nat) : Int), .pointer ((xs30 17).p 0)], .agg #[.int .u64 ((b5 : Nat) : Int), .pointer q5]] J19_30 (fun v J' => ∃ x : UX, v = .bool true ∧ (True))) (by kernel_rfl) ?_
        intro φ30 xs30 J19_30 leJ
        rintro h30_3_0 _ h30_10_0 h30_11_0 _ h30_17_0
        have h5_1 := ERep.mono leJ h5_1
        exact Fun.mono (sameOE_c h30_17_0 h5_1 (ok_join (ok_of h5_0) (ok_of h5_0)).1 (ok_of h5_0) (fun k => by have q0 := (ok_join (ok_of h5_0) (ok_of h5_0)).2 k; omega)) (fun v J' _ h => ⟨UX.d, h, trivial⟩)
      case c30_24 =>
        refine kcast (A := ∀ (φ30 : Nat → Nat) (xs30 : Xs) (J24_30 : IM), I17.Le J24_30 → (ERep J24_30 (joinF 64 e8 e5) ((xs30 3).n 0) ((xs30 3).p 0)) → (True) → (ERep J24_30 (joinF 64 e8 e11) ((xs30 10).n 0) ((xs30 10).p 0)) → (ERep J24_30 (joinF 64 e5 (joinF 64 e8 e11)) ((xs30 11).n 0) ((xs30 11).p 0)) → (True) → (ERep J24_30 (joinF 64 e5 e5) ((xs30 17).n 0) ((xs30 17).p 0)) → (True) → Fun Tryd.prog 29 #[.agg #[.int .u64 ((b5 : Nat) : Int), .pointer q5], .agg #[.int .u64 ((b11 : Nat) : Int), .pointer q11]] J24_30 (fun v J' => ∃ x : UX, v = .bool false ∧ (True))) (by kernel_rfl) ?_
        intro φ30 xs30 J24_30 leJ
        rintro h30_3_0 _ h30_10_0 h30_11_0 _ h30_17_0 _
        have h5_1 := ERep.mono leJ h5_1
        have h11_1 := ERep.mono leJ h11_1
        exact Fun.mono (leqOE_c h5_1 h11_1 (ok_of h5_0) (ok_of h11_0)) (fun v J' _ h => ⟨UX.d, h.trans (congrArg Value.bool hc19), trivial⟩)
      case c30_41 =>
        refine kcast (A := ∀ (φ30 : Nat → Nat) (xs30 : Xs) (J41_30 : IM), I17.Le J41_30 → (ERep J41_30 (joinF 64 e8 e5) ((xs30 3).n 0) ((xs30 3).p 0)) → (True) → (ERep J41_30 (joinF 64 e8 e11) ((xs30 10).n 0) ((xs30 10).p 0)) → (ERep J41_30 (joinF 64 e5 (joinF 64 e8 e11)) ((xs30 11).n 0) ((xs30 11).p 0)) → (True) → (ERep J41_30 (joinF 64 e5 e5) ((xs30 17).n 0) ((xs30 17).p 0)) → (True) → (True) → Fun Tryd.prog 29 #[.agg #[.int .u64 ((b5 : Nat) : Int), .pointer q5], .agg #[.int .u64 ((b8 : Nat) : Int), .pointer q8]] J41_30 (fun v J' => ∃ x : UX, v = .bool false ∧ (True))) (by kernel_rfl) ?_
        intro φ30 xs30 J41_30 leJ
        rintro h30_3_0 _ h30_10_0 h30_11_0 _ h30_17_0 _ _
        have h5_1 := ERep.mono leJ h5_1
        have h8_1 := ERep.mono leJ h8_1
        exact Fun.mono (leqOE_c h5_1 h8_1 (ok_of h5_0) (ok_of h8_0)) (fun v J' _ h => ⟨UX.d, h.trans (congrArg Value.bool hc27), trivial⟩)
      case k30 =>
        rintro φ30 xs30 I30 w30 le30 s h30_3_0 _ h30_10_0 h30_11_0 _ h30_17_0 _ _ _
        replace hT := Tab.mono le30 hT
        replace hla := BSl.mono le30 hla
        replace hlb := BSl.mono le30 hlb
        replace hlc := BSl.mono le30 hlc
        replace h5_1 := ERep.mono le30 h5_1
        replace h5_2 := RE.mono le30 h5_2
        replace h8_1 := ERep.mono le30 h8_1
        replace h8_2 := RE.mono le30 h8_2
        replace h11_1 := ERep.mono le30 h11_1
        replace h11_2 := RE.mono le30 h11_2
        replace h14_0 := ERep.mono le30 h14_0
        replace h17_0 := ERep.mono le30 h17_0
        refine wp_ret ?_
        refine ret_rule (C := []) [((φ6 0), .cells #[.int .u64 ((b5 : Nat) : Int), .pointer q5] 27), ((φ9 0), .cells #[.int .u64 ((b8 : Nat) : Int), .pointer q8] 27), ((φ12 0), .cells #[.int .u64 ((b11 : Nat) : Int), .pointer q11] 27), ((φ15 0), .cells #[.int .u64 ((b14 : Nat) : Int), .pointer p14] 27), ((φ18 0), .cells #[.int .u64 ((b17 : Nat) : Int), .pointer p17] 27)] [] (.bool true) [] [] s trivial (by kernel_rfl) ?_
        exact ⟨_, _, _, rfl, s, rfl⟩

end Go.Proofs.YtgdickihjaomjaaDoor
