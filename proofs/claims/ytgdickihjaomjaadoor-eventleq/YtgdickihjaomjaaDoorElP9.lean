/- The document's events; to the program's own. -/
import Derived.Test.YtgdickihjaomjaaDoorElP7
set_option linter.all false
set_option maxRecDepth 100000
namespace Go.Proofs.YtgdickihjaomjaaDoor
open Go.RowKit Go.Sep

def T.nf : T → Prop
  | .node l r => l.nf ∧ r.nf ∧ T.mk l r = .node l r
  | _ => True
theorem T.nf_mk {l r : T} (hl : l.nf) (hr : r.nf) : (T.mk l r).nf := by
  have hn : ∀ {a b : T}, T.mk a b = .node a b → a.nf → b.nf → (T.mk a b).nf := fun {a b} h ha hb => by rw [h]; exact ⟨ha, hb, h⟩
  cases l with
  | zero => cases r with
    | zero => trivial
    | one => exact hn rfl hl hr
    | node _ _ => exact hn rfl hl hr
  | one => cases r with
    | zero => exact hn rfl hl hr
    | one => trivial
    | node _ _ => exact hn rfl hl hr
  | node _ _ => exact hn rfl hl hr
def E.nf : E → Prop
  | .node n l r => l.nf ∧ r.nf ∧ E.mk n l r = .node n l r
  | _ => True
def E.minE : E → Nat
  | .leaf n => n
  | .node n l r => n + min l.minE r.minE
theorem E.minE_le : ∀ e : E, e.minE ≤ e.top
  | .leaf n => Nat.le_refl n
  | .node n l r => by
    have := E.minE_le l
    have := E.minE_le r
    show n + min l.minE r.minE ≤ n + max l.top r.top
    omega
theorem E.mk_iff {n : Nat} {l r : E} : E.mk n l r = .node n l r ↔ ¬ (l.isLeaf = true ∧ r.isLeaf = true ∧ l.base = r.base) ∧ min l.base r.base = 0 := by
  unfold E.mk
  constructor
  · intro h
    split at h
    · cases h
    · rename_i hc
      refine ⟨hc, ?_⟩
      have : n + min l.base r.base = n := congrArg E.base h
      omega
  · rintro ⟨hc, hm⟩
    have hdn : ∀ e : E, E.dn 0 e = e := fun e => by cases e <;> rfl
    rw [if_neg hc, hm, hdn, hdn]; rfl
theorem E.min_base : ∀ {e : E}, e.nf → e.minE = e.base
  | .leaf n, _ => rfl
  | .node n l r, ⟨hl, hr, h⟩ => by
    have := (E.mk_iff.1 h).2
    show n + min l.minE r.minE = n
    rw [E.min_base hl, E.min_base hr]; omega
theorem E.dn_nf {m : Nat} {e : E} (h : e.nf) : (E.dn m e).nf := by
  cases e with
  | leaf n => trivial
  | node n l r => exact ⟨h.1, h.2.1, E.mk_iff.2 (E.mk_iff.1 h.2.2)⟩
theorem E.dn_base (m : Nat) (e : E) : (E.dn m e).base = e.base - m := by cases e <;> rfl
theorem E.dn_leaf (m : Nat) (e : E) : (E.dn m e).isLeaf = e.isLeaf := by cases e <;> rfl
theorem E.nf_mk {n : Nat} {l r : E} (hl : l.nf) (hr : r.nf) : (E.mk n l r).nf := by
  have e : E.mk n l r = if l.isLeaf = true ∧ r.isLeaf = true ∧ l.base = r.base then .leaf (n + l.base) else .node (n + min l.base r.base) (E.dn (min l.base r.base) l) (E.dn (min l.base r.base) r) := rfl
  rw [e]
  split
  · trivial
  · rename_i hc
    refine ⟨E.dn_nf hl, E.dn_nf hr, E.mk_iff.2 ⟨?_, ?_⟩⟩
    · rintro ⟨h1, h2, h3⟩
      rw [E.dn_leaf] at h1 h2
      rw [E.dn_base, E.dn_base] at h3
      exact hc ⟨h1, h2, by omega⟩
    · rw [E.dn_base, E.dn_base]; omega

set_option maxHeartbeats 2000000 in
theorem etext_step {I : IM} {e : E} {k : Nat} (h : RE I e k) (ht : e.top < 18446744073709551616) (hlim : (textE e).length ≤ 1000000000) (ih : ∀ n l r, e = .node n l r → (∀ {J : IM} {k : Nat}, RE J l k → l.top < 18446744073709551616 → (textE l).length ≤ 1000000000 → Fun Tryd.prog 24 #[.pointer (some ⟨k, 0, none⟩)] J (fun v J => v = .string ⟨(textE l).toArray⟩)) ∧ (∀ {J : IM} {k : Nat}, RE J r k → r.top < 18446744073709551616 → (textE r).length ≤ 1000000000 → Fun Tryd.prog 24 #[.pointer (some ⟨k, 0, none⟩)] J (fun v J => v = .string ⟨(textE r).toArray⟩))) : Fun Tryd.prog 24 #[.pointer (some ⟨k, 0, none⟩)] I (fun v J => v = .string ⟨(textE e).toArray⟩) := by
  cases e with
  | leaf n =>
    have h0 : RE _ (E.leaf n) k := h
    refine enter_rule 34 [(0, .pointer (some ⟨k, 0, none⟩))] Tryd.func24 rfl (by kernel_rfl) ?_
    intro w s
    refine wp_seq ?_
    refine region_rule ?_
    refine ops_rule (C := []) [] [] 1 [] 0 (fun φ1 => [(2, .string ⟨#[]⟩)]) (fun φ1 => []) (fun φ1 => []) s trivial (fun φ1 => by kernel_rfl) ?_
    intro φ1 w1 s
    refine ops_done (by kernel_rfl) ?_
    refine wp_seq ?_
    refine wp_seq ?_
    refine region_rule ?_
    refine ops_rule (C := [(k, .cells #[.int .u64 ((n : Nat) : Int), .pointer none, .pointer none] 112)]) [] [] 5 [.c 0] 0 (fun φ2 => [(7, .bool true), (6, .pointer none), (5, .pointer (some ⟨k, 1, none⟩)), (4, .pointer (some ⟨k, 0, none⟩)), (3, .pointer (some ⟨k, 0, none⟩))]) (fun φ2 => []) (fun φ2 => [k]) s ⟨h, trivial⟩ (fun φ2 => by kernel_rfl) ?_
    intro φ2 w2 s
    refine ops_done (by kernel_rfl) ?_
    refine cond_true_rule (b := true) (by kernel_rfl) rfl ?_
    refine wp_seq ?_
    refine region_rule ?_
    refine ops_rule (C := [(k, .cells #[.int .u64 ((n : Nat) : Int), .pointer none, .pointer none] 112)]) [] [] 4 [.c 0] 0 (fun φ3 => [(11, .int .u64 ((n : Nat) : Int)), (10, .pointer (some ⟨k, 0, none⟩)), (9, .pointer (some ⟨k, 0, none⟩)), (8, .pointer (some ⟨k, 0, none⟩))]) (fun φ3 => []) (fun φ3 => [k]) s ⟨h, trivial⟩ (fun φ3 => by kernel_rfl) ?_
    intro φ3 w3 s
    refine call_rule (some 12) s (dec_c n (by first | exact ht | omega)) (by kernel_rfl) ?_
    intro v4 I4 w4 le4 h4 s
    replace h0 := RE.mono le4 h0
    replace h := le4 _ _ h
    obtain rfl := h4
    refine ops_rule (C := []) [] [] 1 [] 0 (fun φ5 => [(2, .string ⟨(Lib.decDigits n).toArray⟩)]) (fun φ5 => []) (fun φ5 => []) s trivial (fun φ5 => by kernel_rfl) ?_
    intro φ5 w5 s
    refine ops_done (by kernel_rfl) ?_
    refine wp_ret ?_
    refine ret_rule (C := []) [] [] (.string ⟨(Lib.decDigits n).toArray⟩) [] [] s trivial (by kernel_rfl) ?_
    exact ⟨_, _, _, rfl, s, rfl⟩
  | node n l r =>
    have h0 : RE _ (E.node n l r) k := h
    obtain ⟨kl, kr, hk, hl, hr⟩ := h
    obtain ⟨ihl, ihr⟩ := ih n l r rfl
    clear ih
    have ht1 : n + max l.top r.top < 18446744073709551616 := ht
    have hlim1 : (Lib.decDigits n).length + (textE l).length + (textE r).length + 4 ≤ 1000000000 := by simp only [textE, List.length_append, List.length_cons, List.length_nil] at hlim; omega
    refine enter_rule 34 [(0, .pointer (some ⟨k, 0, none⟩))] Tryd.func24 rfl (by kernel_rfl) ?_
    intro w s
    refine wp_seq ?_
    refine region_rule ?_
    refine ops_rule (C := []) [] [] 1 [] 0 (fun φ1 => [(2, .string ⟨#[]⟩)]) (fun φ1 => []) (fun φ1 => []) s trivial (fun φ1 => by kernel_rfl) ?_
    intro φ1 w1 s
    refine ops_done (by kernel_rfl) ?_
    refine wp_seq ?_
    refine wp_seq ?_
    refine region_rule ?_
    refine ops_rule (C := [(k, .cells #[.int .u64 ((n : Nat) : Int), .pointer (some ⟨kl, 0, none⟩), .pointer (some ⟨kr, 0, none⟩)] 112)]) [] [] 5 [.c 0] 0 (fun φ2 => [(7, .bool false), (6, .pointer (some ⟨kl, 0, none⟩)), (5, .pointer (some ⟨k, 1, none⟩)), (4, .pointer (some ⟨k, 0, none⟩)), (3, .pointer (some ⟨k, 0, none⟩))]) (fun φ2 => []) (fun φ2 => [k]) s ⟨hk, trivial⟩ (fun φ2 => by kernel_rfl) ?_
    intro φ2 w2 s
    refine ops_done (by kernel_rfl) ?_
    refine cond_false_rule (b := false) (by kernel_rfl) rfl ?_
    refine wp_skip ?_
    refine wp_seq ?_
    refine draw_rule (C := [(k, .cells #[.int .u64 ((n : Nat) : Int), .pointer (some ⟨kl, 0, none⟩), .pointer (some ⟨kr, 0, none⟩)] 112)]) ⟨(fun φ3 xs3 => [.look 0 [] [], .look 0 [] [], .look 0 [] [], .look 0 [.c 0] [k], .call 73 #[.int .u64 ((n : Nat) : Int)], .ran (binOp .add 9 (.string ⟨#[40]⟩) (.string ⟨(Lib.decDigits n).toArray⟩)), .ran (binOp .add 9 (.string ⟨([40] ++ (Lib.decDigits n)).toArray⟩) (.string ⟨#[44]⟩)), .look 0 [] [], .look 0 [] [], .look 0 [] [], .look 0 [.c 0] [k], .call 24 #[.pointer (some ⟨kl, 0, none⟩)], .ran (binOp .add 9 (.string ⟨([40] ++ (Lib.decDigits n) ++ [44]).toArray⟩) (.string ⟨(textE l).toArray⟩)), .ran (binOp .add 9 (.string ⟨([40] ++ (Lib.decDigits n) ++ [44] ++ (textE l)).toArray⟩) (.string ⟨#[44]⟩)), .look 0 [] [], .look 0 [] [], .look 0 [] [], .look 0 [.c 0] [k], .call 24 #[.pointer (some ⟨kr, 0, none⟩)], .ran (binOp .add 9 (.string ⟨([40] ++ (Lib.decDigits n) ++ [44] ++ (textE l) ++ [44]).toArray⟩) (.string ⟨(textE r).toArray⟩)), .ran (binOp .add 9 (.string ⟨([40] ++ (Lib.decDigits n) ++ [44] ++ (textE l) ++ [44] ++ (textE r)).toArray⟩) (.string ⟨#[41]⟩)), .look 0 [] []]), (fun φ3 xs3 => [.pointer (some ⟨k, 0, none⟩), .pointer (some ⟨k, 0, none⟩), .pointer (some ⟨k, 0, none⟩), .int .u64 ((n : Nat) : Int), .string ⟨(Lib.decDigits n).toArray⟩, .string ⟨([40] ++ (Lib.decDigits n)).toArray⟩, .string ⟨([40] ++ (Lib.decDigits n) ++ [44]).toArray⟩, .pointer (some ⟨k, 0, none⟩), .pointer (some ⟨k, 0, none⟩), .pointer (some ⟨k, 1, none⟩), .pointer (some ⟨kl, 0, none⟩), .string ⟨(textE l).toArray⟩, .string ⟨([40] ++ (Lib.decDigits n) ++ [44] ++ (textE l)).toArray⟩, .string ⟨([40] ++ (Lib.decDigits n) ++ [44] ++ (textE l) ++ [44]).toArray⟩, .pointer (some ⟨k, 0, none⟩), .pointer (some ⟨k, 0, none⟩), .pointer (some ⟨k, 2, none⟩), .pointer (some ⟨kr, 0, none⟩), .string ⟨(textE r).toArray⟩, .string ⟨([40] ++ (Lib.decDigits n) ++ [44] ++ (textE l) ++ [44] ++ (textE r)).toArray⟩, .string ⟨([40] ++ (Lib.decDigits n) ++ [44] ++ (textE l) ++ [44] ++ (textE r) ++ [41]).toArray⟩, .string ⟨([40] ++ (Lib.decDigits n) ++ [44] ++ (textE l) ++ [44] ++ (textE r) ++ [41]).toArray⟩]), (fun φ3 xs3 => [[]]), (fun φ3 xs3 => [[default, default, default, default, default, default, default, default, default, default, default, default, default, default, default, default, default, default, default, default, default, default]]), [], [1, 1, 1, 1, 3, 6, 6, 1, 1, 1, 1, 3, 6, 6, 1, 1, 1, 1, 3, 6, 6, 1]⟩ (fun j => ([MP.any, MP.any, MP.any, MP.any, MP.any, MP.any, MP.any, MP.any, MP.any, MP.any, MP.any, MP.any, MP.any, MP.any, MP.any, MP.any, MP.any, MP.any, MP.any, MP.any, MP.any, MP.any] : List MP).getD j MP.any) [4, 11, 18] [] [5, 6, 12, 13, 19, 20] (fun φ3 xs3 => []) (fun φ3 xs3 => [(13, .pointer (some ⟨k, 0, none⟩)), (14, .pointer (some ⟨k, 0, none⟩)), (15, .pointer (some ⟨k, 0, none⟩)), (16, .int .u64 ((n : Nat) : Int)), (17, .string ⟨(Lib.decDigits n).toArray⟩), (18, .string ⟨([40] ++ (Lib.decDigits n)).toArray⟩), (19, .string ⟨([40] ++ (Lib.decDigits n) ++ [44]).toArray⟩), (20, .pointer (some ⟨k, 0, none⟩)), (21, .pointer (some ⟨k, 0, none⟩)), (22, .pointer (some ⟨k, 1, none⟩)), (23, .pointer (some ⟨kl, 0, none⟩)), (24, .string ⟨(textE l).toArray⟩), (25, .string ⟨([40] ++ (Lib.decDigits n) ++ [44] ++ (textE l)).toArray⟩), (26, .string ⟨([40] ++ (Lib.decDigits n) ++ [44] ++ (textE l) ++ [44]).toArray⟩), (27, .pointer (some ⟨k, 0, none⟩)), (28, .pointer (some ⟨k, 0, none⟩)), (29, .pointer (some ⟨k, 2, none⟩)), (30, .pointer (some ⟨kr, 0, none⟩)), (31, .string ⟨(textE r).toArray⟩), (32, .string ⟨([40] ++ (Lib.decDigits n) ++ [44] ++ (textE l) ++ [44] ++ (textE r)).toArray⟩), (33, .string ⟨([40] ++ (Lib.decDigits n) ++ [44] ++ (textE l) ++ [44] ++ (textE r) ++ [41]).toArray⟩), (2, .string ⟨([40] ++ (Lib.decDigits n) ++ [44] ++ (textE l) ++ [44] ++ (textE r) ++ [41]).toArray⟩)]) (fun φ3 xs3 => []) s ⟨hk, trivial⟩ (by kernel_rfl) (by kernel_rfl) (fun _ _ => by kernel_rfl) (fun _ _ => by kernel_rfl) ⟨fun _ _ => by kernel_rfl, fun _ _ => by kernel_rfl, fun _ _ => by kernel_rfl, fun _ _ => by kernel_rfl⟩ (fun _ _ _ => by kernel_rfl) (fun _ _ => by kernel_rfl) (fun _ _ => by kernel_rfl) (fun _ _ => by kernel_rfl) (fun _ _ => by kernel_rfl) (fun _ _ => by kernel_rfl) trivial ⟨kcast (A := ∀ (φ3 : Nat → Nat) (xs3 : Xs) (J : IM) (w : World), I.Le J → J.Sub w → ((binOp .add 9 (.string ⟨#[40]⟩) (.string ⟨(Lib.decDigits n).toArray⟩)) : Sem Value).run Tryd.prog w = .ok (.string ⟨([40] ++ (Lib.decDigits n)).toArray⟩) w) (by kernel_rfl) (fun φ3 xs3 J w hJ hS => run_cat (x := [40]) (y := Lib.decDigits n) (by simp only [List.length_append, List.length_cons, List.length_nil]; omega)), ⟨kcast (A := ∀ (φ3 : Nat → Nat) (xs3 : Xs) (J : IM) (w : World), I.Le J → J.Sub w → ((binOp .add 9 (.string ⟨([40] ++ (Lib.decDigits n)).toArray⟩) (.string ⟨#[44]⟩)) : Sem Value).run Tryd.prog w = .ok (.string ⟨([40] ++ (Lib.decDigits n) ++ [44]).toArray⟩) w) (by kernel_rfl) (fun φ3 xs3 J w hJ hS => run_cat (x := [40] ++ (Lib.decDigits n)) (y := [44]) (by simp only [List.length_append, List.length_cons, List.length_nil]; omega)), ⟨kcast (A := ∀ (φ3 : Nat → Nat) (xs3 : Xs) (J : IM) (w : World), I.Le J → J.Sub w → ((binOp .add 9 (.string ⟨([40] ++ (Lib.decDigits n) ++ [44]).toArray⟩) (.string ⟨(textE l).toArray⟩)) : Sem Value).run Tryd.prog w = .ok (.string ⟨([40] ++ (Lib.decDigits n) ++ [44] ++ (textE l)).toArray⟩) w) (by kernel_rfl) (fun φ3 xs3 J w hJ hS => run_cat (x := [40] ++ (Lib.decDigits n) ++ [44]) (y := textE l) (by simp only [List.length_append, List.length_cons, List.length_nil]; omega)), ⟨kcast (A := ∀ (φ3 : Nat → Nat) (xs3 : Xs) (J : IM) (w : World), I.Le J → J.Sub w → ((binOp .add 9 (.string ⟨([40] ++ (Lib.decDigits n) ++ [44] ++ (textE l)).toArray⟩) (.string ⟨#[44]⟩)) : Sem Value).run Tryd.prog w = .ok (.string ⟨([40] ++ (Lib.decDigits n) ++ [44] ++ (textE l) ++ [44]).toArray⟩) w) (by kernel_rfl) (fun φ3 xs3 J w hJ hS => run_cat (x := [40] ++ (Lib.decDigits n) ++ [44] ++ (textE l)) (y := [44]) (by simp only [List.length_append, List.length_cons, List.length_nil]; omega)), ⟨kcast (A := ∀ (φ3 : Nat → Nat) (xs3 : Xs) (J : IM) (w : World), I.Le J → J.Sub w → ((binOp .add 9 (.string ⟨([40] ++ (Lib.decDigits n) ++ [44] ++ (textE l) ++ [44]).toArray⟩) (.string ⟨(textE r).toArray⟩)) : Sem Value).run Tryd.prog w = .ok (.string ⟨([40] ++ (Lib.decDigits n) ++ [44] ++ (textE l) ++ [44] ++ (textE r)).toArray⟩) w) (by kernel_rfl) (fun φ3 xs3 J w hJ hS => run_cat (x := [40] ++ (Lib.decDigits n) ++ [44] ++ (textE l) ++ [44]) (y := textE r) (by simp only [List.length_append, List.length_cons, List.length_nil]; omega)), ⟨kcast (A := ∀ (φ3 : Nat → Nat) (xs3 : Xs) (J : IM) (w : World), I.Le J → J.Sub w → ((binOp .add 9 (.string ⟨([40] ++ (Lib.decDigits n) ++ [44] ++ (textE l) ++ [44] ++ (textE r)).toArray⟩) (.string ⟨#[41]⟩)) : Sem Value).run Tryd.prog w = .ok (.string ⟨([40] ++ (Lib.decDigits n) ++ [44] ++ (textE l) ++ [44] ++ (textE r) ++ [41]).toArray⟩) w) (by kernel_rfl) (fun φ3 xs3 J w hJ hS => run_cat (x := [40] ++ (Lib.decDigits n) ++ [44] ++ (textE l) ++ [44] ++ (textE r)) (y := [41]) (by simp only [List.length_append, List.length_cons, List.length_nil]; omega)), trivial⟩⟩⟩⟩⟩⟩ (by kernel_rfl) ⟨?c3_4, ?c3_11, ?c3_18, trivial⟩ ?k3
    case c3_4 =>
      refine kcast (A := ∀ (φ3 : Nat → Nat) (xs3 : Xs) (J4_3 : IM), I.Le J4_3 → Fun Tryd.prog 73 #[.int .u64 ((n : Nat) : Int)] J4_3 (fun v J' => ∃ x : UX, v = .string ⟨(Lib.decDigits n).toArray⟩ ∧ (True))) (by kernel_rfl) ?_
      intro φ3 xs3 J4_3 leJ
      exact Fun.mono (dec_c n (by first | exact ht | omega)) (fun v J' _ h => ⟨UX.d, h, trivial⟩)
    case c3_11 =>
      refine kcast (A := ∀ (φ3 : Nat → Nat) (xs3 : Xs) (J11_3 : IM), I.Le J11_3 → (True) → Fun Tryd.prog 24 #[.pointer (some ⟨kl, 0, none⟩)] J11_3 (fun v J' => ∃ x : UX, v = .string ⟨(textE l).toArray⟩ ∧ (True))) (by kernel_rfl) ?_
      intro φ3 xs3 J11_3 leJ
      rintro _
      have hl := RE.mono leJ hl
      exact Fun.mono (ihl hl (by omega) (by omega)) (fun v J' _ h => ⟨UX.d, h, trivial⟩)
    case c3_18 =>
      refine kcast (A := ∀ (φ3 : Nat → Nat) (xs3 : Xs) (J18_3 : IM), I.Le J18_3 → (True) → (True) → Fun Tryd.prog 24 #[.pointer (some ⟨kr, 0, none⟩)] J18_3 (fun v J' => ∃ x : UX, v = .string ⟨(textE r).toArray⟩ ∧ (True))) (by kernel_rfl) ?_
      intro φ3 xs3 J18_3 leJ
      rintro _ _
      have hr := RE.mono leJ hr
      exact Fun.mono (ihr hr (by omega) (by omega)) (fun v J' _ h => ⟨UX.d, h, trivial⟩)
    case k3 =>
      rintro φ3 xs3 I3 w3 le3 s _ _ _
      replace hl := RE.mono le3 hl
      replace hr := RE.mono le3 hr
      replace h0 := RE.mono le3 h0
      replace hk := le3 _ _ hk
      refine wp_ret ?_
      refine ret_rule (C := []) [] [] (.string ⟨([40] ++ (Lib.decDigits n) ++ [44] ++ (textE l) ++ [44] ++ (textE r) ++ [41]).toArray⟩) [] [] s trivial (by kernel_rfl) ?_
      exact ⟨_, _, _, rfl, s, rfl⟩

theorem etext_c : ∀ (e : E) {I : IM} {k : Nat}, RE I e k → e.top < 18446744073709551616 → (textE e).length ≤ 1000000000 → Fun Tryd.prog 24 #[.pointer (some ⟨k, 0, none⟩)] I (fun v _ => v = .string ⟨(textE e).toArray⟩)
  | .leaf n, _, _, h, ht, hl => etext_step h ht hl (fun n l r h => by cases h)
  | .node n l r, _, _, h, ht, hl => etext_step h ht hl (fun n' l' r' e => by
      cases e
      exact ⟨fun {J} {k} a b c => etext_c l a b c, fun {J} {k} a b c => etext_c r a b c⟩)

end Go.Proofs.YtgdickihjaomjaaDoor
