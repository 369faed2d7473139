/- The document's events; to the program's own. -/
import Derived.Test.YtgmigcmhnmmdkaaCoP8
set_option linter.all false
set_option maxRecDepth 100000
namespace Go.Proofs.Ytgmigcmhnmmdkaa.Ev
open Go.RowKit Go.Sep

def T.nf : T → Prop
  | .node l r => l.nf ∧ r.nf ∧ T.mk l r = .node l r
  | _ => True
theorem T.nf_mk {l r : T} (hl : l.nf) (hr : r.nf) : (T.mk l r).nf := by
  have hn : ∀ {a b : T}, T.mk a b = .node a b → a.nf → b.nf → (T.mk a b).nf := fun {a b} h ha hb => by rw [h]; exact ⟨ha, hb, h⟩
  cases l with
  | zero => cases r with
    | zero => trivial
    | one => exact hn rfl hl hr
    | node _ _ => exact hn rfl hl hr
  | one => cases r with
    | zero => exact hn rfl hl hr
    | one => trivial
    | node _ _ => exact hn rfl hl hr
  | node _ _ => exact hn rfl hl hr
def E.nf : E → Prop
  | .node n l r => l.nf ∧ r.nf ∧ E.mk n l r = .node n l r
  | _ => True
def E.minE : E → Nat
  | .leaf n => n
  | .node n l r => n + min l.minE r.minE
theorem E.minE_le : ∀ e : E, e.minE ≤ e.top
  | .leaf n => Nat.le_refl n
  | .node n l r => by
    have := E.minE_le l
    have := E.minE_le r
    show n + min l.minE r.minE ≤ n + max l.top r.top
    omega
theorem E.mk_iff {n : Nat} {l r : E} : E.mk n l r = .node n l r ↔ ¬ (l.isLeaf = true ∧ r.isLeaf = true ∧ l.base = r.base) ∧ min l.base r.base = 0 := by
  unfold E.mk
  constructor
  · intro h
    split at h
    · cases h
    · rename_i hc
      refine ⟨hc, ?_⟩
      have : n + min l.base r.base = n := congrArg E.base h
      omega
  · rintro ⟨hc, hm⟩
    have hdn : ∀ e : E, E.dn 0 e = e := fun e => by cases e <;> rfl
    rw [if_neg hc, hm, hdn, hdn]; rfl
theorem E.min_base : ∀ {e : E}, e.nf → e.minE = e.base
  | .leaf n, _ => rfl
  | .node n l r, ⟨hl, hr, h⟩ => by
    have := (E.mk_iff.1 h).2
    show n + min l.minE r.minE = n
    rw [E.min_base hl, E.min_base hr]; omega
theorem E.dn_nf {m : Nat} {e : E} (h : e.nf) : (E.dn m e).nf := by
  cases e with
  | leaf n => trivial
  | node n l r => exact ⟨h.1, h.2.1, E.mk_iff.2 (E.mk_iff.1 h.2.2)⟩
theorem E.dn_base (m : Nat) (e : E) : (E.dn m e).base = e.base - m := by cases e <;> rfl
theorem E.dn_leaf (m : Nat) (e : E) : (E.dn m e).isLeaf = e.isLeaf := by cases e <;> rfl
theorem E.nf_mk {n : Nat} {l r : E} (hl : l.nf) (hr : r.nf) : (E.mk n l r).nf := by
  have e : E.mk n l r = if l.isLeaf = true ∧ r.isLeaf = true ∧ l.base = r.base then .leaf (n + l.base) else .node (n + min l.base r.base) (E.dn (min l.base r.base) l) (E.dn (min l.base r.base) r) := rfl
  rw [e]
  split
  · trivial
  · rename_i hc
    refine ⟨E.dn_nf hl, E.dn_nf hr, E.mk_iff.2 ⟨?_, ?_⟩⟩
    · rintro ⟨h1, h2, h3⟩
      rw [E.dn_leaf] at h1 h2
      rw [E.dn_base, E.dn_base] at h3
      exact hc ⟨h1, h2, by omega⟩
    · rw [E.dn_base, E.dn_base]; omega

set_option maxHeartbeats 2000000 in
theorem own_step {I : IM} {t : T} {k : Nat} (h : RT I t k) (hnf : t.nf) (hd : t.depth ≤ 16) (ih : ∀ l r, t = .node l r → (∀ {J : IM} {k : Nat}, RT J l k → Fun Try.prog 35 #[.pointer (some ⟨k, 0, none⟩)] J (fun v J => ∃ b p, v = idv b p ∧ TRep J l b p)) ∧ (∀ {J : IM} {k : Nat}, RT J r k → Fun Try.prog 35 #[.pointer (some ⟨k, 0, none⟩)] J (fun v J => ∃ b p, v = idv b p ∧ TRep J r b p))) : Fun Try.prog 35 #[.pointer (some ⟨k, 0, none⟩)] I (fun v J => ∃ b p, v = idv b p ∧ TRep J t b p) := by
  cases t with
  | zero =>
    have hz : RT _ T.zero k := h
    refine enter_rule 30 [(0, .pointer (some ⟨k, 0, none⟩))] Try.func35 rfl (by kernel_rfl) ?_
    intro w s
    refine wp_seq ?_
    refine region_rule ?_
    refine ops_rule (C := []) [] [] 1 [] 1 (fun φ1 => [(2, .pointer (some ⟨(φ1 0), 0, none⟩))]) (fun φ1 => [((φ1 0), .cells #[.bool false, .pointer none] 26)]) (fun φ1 => []) s trivial (fun φ1 => by kernel_rfl) ?_
    intro φ1 w1 s
    refine ops_done (by kernel_rfl) ?_
    refine wp_seq ?_
    refine wp_seq ?_
    refine region_rule ?_
    refine ops_rule (C := [(k, .cells #[.int .i64 0, .pointer none, .pointer none] 84)]) [((φ1 0), .cells #[.bool false, .pointer none] 26)] [] 4 [.c 0] 0 (fun φ2 => [(8, .int .i64 0), (7, .pointer (some ⟨k, 0, none⟩)), (6, .pointer (some ⟨k, 0, none⟩)), (5, .pointer (some ⟨k, 0, none⟩))]) (fun φ2 => [((φ1 0), .cells #[.bool false, .pointer none] 26)]) (fun φ2 => [k]) s ⟨h, trivial⟩ (fun φ2 => by kernel_rfl) ?_
    intro φ2 w2 s
    refine ops_done (by kernel_rfl) ?_
    refine wp_block ?_
    refine wp_seq ?_
    refine region_rule ?_
    refine ops_rule (C := []) [((φ1 0), .cells #[.bool false, .pointer none] 26)] [] 2 [] 0 (fun φ3 => [(9, .bool true), (10, .bool true)]) (fun φ3 => [((φ1 0), .cells #[.bool false, .pointer none] 26)]) (fun φ3 => []) s trivial (fun φ3 => by kernel_rfl) ?_
    intro φ3 w3 s
    refine ops_done (by kernel_rfl) ?_
    refine cond_true_rule (b := true) (by kernel_rfl) rfl ?_
    refine wp_seq ?_
    refine region_rule ?_
    refine call_rule (some 11) s (tzero_c) (by kernel_rfl) ?_
    intro v4 I4 w4 le4 h4 s
    replace hz := RT.mono le4 hz
    replace h := le4 _ _ h
    obtain rfl := h4
    refine ops_rule (C := []) [((φ1 0), .cells #[.bool false, .pointer none] 26)] [] 1 [.o 0, .o 0] 0 (fun φ5 => []) (fun φ5 => [((φ1 0), .cells #[.bool false, .pointer none] 26)]) (fun φ5 => [(φ1 0), (φ1 0)]) s trivial (fun φ5 => by kernel_rfl) ?_
    intro φ5 w5 s
    refine ops_done (by kernel_rfl) ?_
    refine wp_ret ?_
    refine ret_rule (C := []) [((φ1 0), .cells #[.bool false, .pointer none] 26)] [] (.agg #[.bool false, .pointer none]) [.o 0, .o 0] [(φ1 0), (φ1 0)] s trivial (by kernel_rfl) ?_
    exact ⟨_, _, _, rfl, s, ⟨_, _, rfl, rfl, rfl⟩⟩
  | one =>
    have hz : RT _ T.one k := h
    refine enter_rule 30 [(0, .pointer (some ⟨k, 0, none⟩))] Try.func35 rfl (by kernel_rfl) ?_
    intro w s
    refine wp_seq ?_
    refine region_rule ?_
    refine ops_rule (C := []) [] [] 1 [] 1 (fun φ1 => [(2, .pointer (some ⟨(φ1 0), 0, none⟩))]) (fun φ1 => [((φ1 0), .cells #[.bool false, .pointer none] 26)]) (fun φ1 => []) s trivial (fun φ1 => by kernel_rfl) ?_
    intro φ1 w1 s
    refine ops_done (by kernel_rfl) ?_
    refine wp_seq ?_
    refine wp_seq ?_
    refine region_rule ?_
    refine ops_rule (C := [(k, .cells #[.int .i64 1, .pointer none, .pointer none] 84)]) [((φ1 0), .cells #[.bool false, .pointer none] 26)] [] 4 [.c 0] 0 (fun φ2 => [(8, .int .i64 1), (7, .pointer (some ⟨k, 0, none⟩)), (6, .pointer (some ⟨k, 0, none⟩)), (5, .pointer (some ⟨k, 0, none⟩))]) (fun φ2 => [((φ1 0), .cells #[.bool false, .pointer none] 26)]) (fun φ2 => [k]) s ⟨h, trivial⟩ (fun φ2 => by kernel_rfl) ?_
    intro φ2 w2 s
    refine ops_done (by kernel_rfl) ?_
    refine wp_block ?_
    refine wp_seq ?_
    refine region_rule ?_
    refine ops_rule (C := []) [((φ1 0), .cells #[.bool false, .pointer none] 26)] [] 2 [] 0 (fun φ3 => [(9, .bool false), (10, .bool false)]) (fun φ3 => [((φ1 0), .cells #[.bool false, .pointer none] 26)]) (fun φ3 => []) s trivial (fun φ3 => by kernel_rfl) ?_
    intro φ3 w3 s
    refine ops_done (by kernel_rfl) ?_
    refine cond_false_rule (b := false) (by kernel_rfl) rfl ?_
    refine wp_seq ?_
    refine region_rule ?_
    refine ops_rule (C := []) [((φ1 0), .cells #[.bool false, .pointer none] 26)] [] 2 [] 0 (fun φ4 => [(12, .bool true), (13, .bool true)]) (fun φ4 => [((φ1 0), .cells #[.bool false, .pointer none] 26)]) (fun φ4 => []) s trivial (fun φ4 => by kernel_rfl) ?_
    intro φ4 w4 s
    refine ops_done (by kernel_rfl) ?_
    refine cond_true_rule (b := true) (by kernel_rfl) rfl ?_
    refine wp_seq ?_
    refine region_rule ?_
    refine call_rule (some 14) s (tone_c) (by kernel_rfl) ?_
    intro v5 I5 w5 le5 h5 s
    replace hz := RT.mono le5 hz
    replace h := le5 _ _ h
    obtain rfl := h5
    refine ops_rule (C := []) [((φ1 0), .cells #[.bool false, .pointer none] 26)] [] 1 [.o 0, .o 0] 0 (fun φ6 => []) (fun φ6 => [((φ1 0), .cells #[.bool true, .pointer none] 26)]) (fun φ6 => [(φ1 0), (φ1 0)]) s trivial (fun φ6 => by kernel_rfl) ?_
    intro φ6 w6 s
    refine ops_done (by kernel_rfl) ?_
    refine wp_ret ?_
    refine ret_rule (C := []) [((φ1 0), .cells #[.bool true, .pointer none] 26)] [] (.agg #[.bool true, .pointer none]) [.o 0, .o 0] [(φ1 0), (φ1 0)] s trivial (by kernel_rfl) ?_
    exact ⟨_, _, _, rfl, s, ⟨_, _, rfl, rfl, rfl⟩⟩
  | node l r =>
    obtain ⟨kl, kr, hk, hl, hr⟩ := h
    obtain ⟨ihl, ihr⟩ := ih l r rfl
    clear ih
    have hd1 : 1 + max l.depth r.depth ≤ 16 := hd
    refine enter_rule 30 [(0, .pointer (some ⟨k, 0, none⟩))] Try.func35 rfl (by kernel_rfl) ?_
    intro w s
    refine wp_seq ?_
    refine region_rule ?_
    refine ops_rule (C := []) [] [] 1 [] 1 (fun φ1 => [(2, .pointer (some ⟨(φ1 0), 0, none⟩))]) (fun φ1 => [((φ1 0), .cells #[.bool false, .pointer none] 26)]) (fun φ1 => []) s trivial (fun φ1 => by kernel_rfl) ?_
    intro φ1 w1 s
    refine ops_done (by kernel_rfl) ?_
    refine wp_seq ?_
    refine wp_seq ?_
    refine region_rule ?_
    refine ops_rule (C := [(k, .cells #[.int .i64 2, .pointer (some ⟨kl, 0, none⟩), .pointer (some ⟨kr, 0, none⟩)] 84)]) [((φ1 0), .cells #[.bool false, .pointer none] 26)] [] 4 [.c 0] 0 (fun φ2 => [(8, .int .i64 2), (7, .pointer (some ⟨k, 0, none⟩)), (6, .pointer (some ⟨k, 0, none⟩)), (5, .pointer (some ⟨k, 0, none⟩))]) (fun φ2 => [((φ1 0), .cells #[.bool false, .pointer none] 26)]) (fun φ2 => [k]) s ⟨hk, trivial⟩ (fun φ2 => by kernel_rfl) ?_
    intro φ2 w2 s
    refine ops_done (by kernel_rfl) ?_
    refine wp_block ?_
    refine wp_seq ?_
    refine region_rule ?_
    refine ops_rule (C := []) [((φ1 0), .cells #[.bool false, .pointer none] 26)] [] 2 [] 0 (fun φ3 => [(9, .bool false), (10, .bool false)]) (fun φ3 => [((φ1 0), .cells #[.bool false, .pointer none] 26)]) (fun φ3 => []) s trivial (fun φ3 => by kernel_rfl) ?_
    intro φ3 w3 s
    refine ops_done (by kernel_rfl) ?_
    refine cond_false_rule (b := false) (by kernel_rfl) rfl ?_
    refine wp_seq ?_
    refine region_rule ?_
    refine ops_rule (C := []) [((φ1 0), .cells #[.bool false, .pointer none] 26)] [] 2 [] 0 (fun φ4 => [(12, .bool false), (13, .bool false)]) (fun φ4 => [((φ1 0), .cells #[.bool false, .pointer none] 26)]) (fun φ4 => []) s trivial (fun φ4 => by kernel_rfl) ?_
    intro φ4 w4 s
    refine ops_done (by kernel_rfl) ?_
    refine cond_false_rule (b := false) (by kernel_rfl) rfl ?_
    refine wp_skip ?_
    refine wp_seq ?_
    refine draw_rule (C := [(k, .cells #[.int .i64 2, .pointer (some ⟨kl, 0, none⟩), .pointer (some ⟨kr, 0, none⟩)] 84)]) ⟨(fun φ5 xs5 => [.look 0 [] [], .look 0 [] [], .look 0 [] [], .look 0 [.c 0] [k], .call 35 #[.pointer (some ⟨kl, 0, none⟩)], .look 0 [] [], .look 0 [] [], .look 0 [] [], .look 0 [.c 0] [k], .call 35 #[.pointer (some ⟨kr, 0, none⟩)], .call 72 #[.agg #[.bool ((xs5 4).b 0), .pointer ((xs5 4).p 0)], .agg #[.bool ((xs5 9).b 0), .pointer ((xs5 9).p 0)]], .look 0 [] [], .look 0 [] [], .look 0 [] [], .new, .store 0 [.o 1, .o 1] [(φ5 14), (φ5 14)], .look 1 [] []]), (fun φ5 xs5 => [.pointer (some ⟨k, 0, none⟩), .pointer (some ⟨k, 0, none⟩), .pointer (some ⟨k, 1, none⟩), .pointer (some ⟨kl, 0, none⟩), .agg #[.bool ((xs5 4).b 0), .pointer ((xs5 4).p 0)], .pointer (some ⟨k, 0, none⟩), .pointer (some ⟨k, 0, none⟩), .pointer (some ⟨k, 2, none⟩), .pointer (some ⟨kr, 0, none⟩), .agg #[.bool ((xs5 9).b 0), .pointer ((xs5 9).p 0)], .tuple #[.agg #[.bool ((xs5 10).b 0), .pointer ((xs5 10).p 0)], .int .i64 0], .tuple #[.agg #[.bool ((xs5 10).b 0), .pointer ((xs5 10).p 0)], .int .i64 0], .agg #[.bool ((xs5 10).b 0), .pointer ((xs5 10).p 0)], .int .i64 0, .pointer (some ⟨(φ5 14), 0, none⟩), undef, .int .i64 0]), (fun φ5 xs5 => [[((φ1 0), .cells #[.bool false, .pointer none] 26)], [((φ1 0), .cells #[.bool false, .pointer none] 26)]]), (fun φ5 xs5 => [[default, default, default, default, default, default, default, default, default, default, default, default, default, default, .cells #[.bool false, .pointer none] 26, default, default], [default, default, default, default, default, default, default, default, default, default, default, default, default, default, .cells #[.bool ((xs5 10).b 0), .pointer ((xs5 10).p 0)] 26, default, default]]), [15], [1, 1, 1, 1, 3, 1, 1, 1, 1, 3, 3, 1, 1, 1, 2, 4, 1]⟩ (fun j => ([MP.any, MP.any, MP.any, MP.any, ⟨fun x J => TRep J l (x.b 0) (x.p 0), fun le h => TRep.mono le h⟩, MP.any, MP.any, MP.any, MP.any, ⟨fun x J => TRep J r (x.b 0) (x.p 0), fun le h => TRep.mono le h⟩, ⟨fun x J => TRep J (T.mk l r) (x.b 0) (x.p 0), fun le h => TRep.mono le h⟩, MP.any, MP.any, MP.any, MP.any, MP.any, MP.any] : List MP).getD j MP.any) [4, 9, 10] [] [] (fun φ5 xs5 => [[none, none, none, none, none, none, none, none, none, none, none, none, none, none, none, none, none]]) (fun φ5 xs5 => [(16, .pointer (some ⟨k, 0, none⟩)), (17, .pointer (some ⟨k, 0, none⟩)), (18, .pointer (some ⟨k, 1, none⟩)), (19, .pointer (some ⟨kl, 0, none⟩)), (20, .agg #[.bool ((xs5 4).b 0), .pointer ((xs5 4).p 0)]), (21, .pointer (some ⟨k, 0, none⟩)), (22, .pointer (some ⟨k, 0, none⟩)), (23, .pointer (some ⟨k, 2, none⟩)), (24, .pointer (some ⟨kr, 0, none⟩)), (25, .agg #[.bool ((xs5 9).b 0), .pointer ((xs5 9).p 0)]), (26, .tuple #[.agg #[.bool ((xs5 10).b 0), .pointer ((xs5 10).p 0)], .int .i64 0]), (15, .tuple #[.agg #[.bool ((xs5 10).b 0), .pointer ((xs5 10).p 0)], .int .i64 0]), (27, .agg #[.bool ((xs5 10).b 0), .pointer ((xs5 10).p 0)]), (28, .int .i64 0), (3, .pointer (some ⟨(φ5 14), 0, none⟩)), (4, .int .i64 0)]) (fun φ5 xs5 => [((φ1 0), .cells #[.bool false, .pointer none] 26), ((φ5 14), .cells #[.bool ((xs5 10).b 0), .pointer ((xs5 10).p 0)] 26)]) s ⟨hk, trivial⟩ (by kernel_rfl) (by kernel_rfl) (fun _ _ => by kernel_rfl) (fun _ _ => by kernel_rfl) ⟨fun _ _ => by kernel_rfl, fun _ _ => by kernel_rfl, fun _ _ => by kernel_rfl, fun _ _ => by kernel_rfl⟩ (fun _ _ _ => by kernel_rfl) (fun _ _ => by kernel_rfl) (fun _ _ => by kernel_rfl) (fun _ _ => by kernel_rfl) (fun _ _ => by kernel_rfl) (fun _ _ => by kernel_rfl) trivial trivial (by kernel_rfl) ⟨?c5_4, ?c5_9, ?c5_10, trivial⟩ ?k5
    case c5_4 =>
      refine kcast (A := ∀ (φ5 : Nat → Nat) (xs5 : Xs) (J4_5 : IM), I.Le J4_5 → Fun Try.prog 35 #[.pointer (some ⟨kl, 0, none⟩)] J4_5 (fun v J' => ∃ x : UX, v = .agg #[.bool (x.b 0), .pointer (x.p 0)] ∧ (TRep J' l (x.b 0) (x.p 0)))) (by kernel_rfl) ?_
      intro φ5 xs5 J4_5 leJ
      have hl := RT.mono leJ hl
      exact Fun.mono (ihl hl) (fun v J' _ ⟨y0, y1, hv, g0⟩ => ⟨{ UX.d with b := fun j => y0, p := fun j => y1 }, hv, g0⟩)
    case c5_9 =>
      refine kcast (A := ∀ (φ5 : Nat → Nat) (xs5 : Xs) (J9_5 : IM), I.Le J9_5 → (TRep J9_5 l ((xs5 4).b 0) ((xs5 4).p 0)) → Fun Try.prog 35 #[.pointer (some ⟨kr, 0, none⟩)] J9_5 (fun v J' => ∃ x : UX, v = .agg #[.bool (x.b 0), .pointer (x.p 0)] ∧ (TRep J' r (x.b 0) (x.p 0)))) (by kernel_rfl) ?_
      intro φ5 xs5 J9_5 leJ
      rintro h5_4_0
      have hr := RT.mono leJ hr
      exact Fun.mono (ihr hr) (fun v J' _ ⟨y0, y1, hv, g0⟩ => ⟨{ UX.d with b := fun j => y0, p := fun j => y1 }, hv, g0⟩)
    case c5_10 =>
      refine kcast (A := ∀ (φ5 : Nat → Nat) (xs5 : Xs) (J10_5 : IM), I.Le J10_5 → (TRep J10_5 l ((xs5 4).b 0) ((xs5 4).p 0)) → (TRep J10_5 r ((xs5 9).b 0) ((xs5 9).p 0)) → Fun Try.prog 72 #[.agg #[.bool ((xs5 4).b 0), .pointer ((xs5 4).p 0)], .agg #[.bool ((xs5 9).b 0), .pointer ((xs5 9).p 0)]] J10_5 (fun v J' => ∃ x : UX, v = .tuple #[.agg #[.bool (x.b 0), .pointer (x.p 0)], .int .i64 0] ∧ (TRep J' (T.mk l r) (x.b 0) (x.p 0)))) (by kernel_rfl) ?_
      intro φ5 xs5 J10_5 leJ
      rintro h5_4_0 h5_9_0
      exact Fun.mono (pairOk_c h5_4_0 h5_9_0 (by first | omega | (rw [hnf.2.2]; exact hd)) (by first | omega | (rw [hnf.2.2]; exact hd)) (by first | omega | (rw [hnf.2.2]; exact hd))) (fun v J' _ ⟨y0, y1, hv, g0⟩ => ⟨{ UX.d with b := fun j => y0, p := fun j => y1 }, hv, g0⟩)
    case k5 =>
      rintro φ5 xs5 I5 w5 le5 s h5_4_0 h5_9_0 h5_10_0
      replace hl := RT.mono le5 hl
      replace hr := RT.mono le5 hr
      replace hk := le5 _ _ hk
      refine wp_seq ?_
      refine region_rule ?_
      refine ops_rule (C := []) [((φ1 0), .cells #[.bool false, .pointer none] 26), ((φ5 14), .cells #[.bool ((xs5 10).b 0), .pointer ((xs5 10).p 0)] 26)] [] 2 [.o 1, .o 1, .o 0, .o 0] 0 (fun φ6 => [(29, .agg #[.bool ((xs5 10).b 0), .pointer ((xs5 10).p 0)])]) (fun φ6 => [((φ1 0), .cells #[.bool ((xs5 10).b 0), .pointer ((xs5 10).p 0)] 26), ((φ5 14), .cells #[.bool ((xs5 10).b 0), .pointer ((xs5 10).p 0)] 26)]) (fun φ6 => [(φ5 14), (φ5 14), (φ1 0), (φ1 0)]) s trivial (fun φ6 => by kernel_rfl) ?_
      intro φ6 w6 s
      refine ops_done (by kernel_rfl) ?_
      refine wp_ret ?_
      refine ret_rule (C := []) [((φ1 0), .cells #[.bool ((xs5 10).b 0), .pointer ((xs5 10).p 0)] 26), ((φ5 14), .cells #[.bool ((xs5 10).b 0), .pointer ((xs5 10).p 0)] 26)] [] (.agg #[.bool ((xs5 10).b 0), .pointer ((xs5 10).p 0)]) [.o 0, .o 0] [(φ1 0), (φ1 0)] s trivial (by kernel_rfl) ?_
      exact ⟨_, _, _, rfl, s, (by have h9 := h5_10_0; rw [hnf.2.2] at h9; exact ⟨_, _, rfl, h9⟩)⟩

theorem own_c : ∀ (t : T) {I : IM} {k : Nat}, t.nf → t.depth ≤ 16 → RT I t k → Fun Try.prog 35 #[.pointer (some ⟨k, 0, none⟩)] I (fun v J => ∃ b p, v = idv b p ∧ TRep J t b p)
  | .zero, _, _, hn, hd, h => own_step h hn hd (fun l r h => by cases h)
  | .one, _, _, hn, hd, h => own_step h hn hd (fun l r h => by cases h)
  | .node l r, _, _, hn, hd, h => own_step h hn hd (fun l' r' e => by
      cases e
      have hd1 : 1 + max l.depth r.depth ≤ 16 := hd
      exact ⟨fun {J} {k} a => own_c l hn.1 (by omega) a, fun {J} {k} a => own_c r hn.2.1 (by omega) a⟩)

end Go.Proofs.Ytgmigcmhnmmdkaa.Ev

