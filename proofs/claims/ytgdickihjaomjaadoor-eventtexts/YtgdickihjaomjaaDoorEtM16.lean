/- The document's Heights and Has: rows. -/
import Derived.Test.YtgdickihjaomjaaDoorEtM15
import Derived.Test.YtgdickihjaomjaaDoorEtS9
import Derived.Test.YtgdickihjaomjaaDoorEtS10
set_option linter.all false
set_option maxRecDepth 100000
namespace Go.Proofs.YtgdickihjaomjaaDoor
open Go.RowKit Go.Sep

def cU (n : Nat) : Value := .int .u64 ((n : Nat) : Int)
/-- The first cells of block b, which is never written, are xs. -/
def VS (J : IM) (e : TypeId) (xs : List Value) (b : Nat) : Prop := ∃ cur : Array Value, J b = some (.cells cur e) ∧ cur.toList.take xs.length = xs
theorem VS.mono {I J : IM} (le : I.Le J) {e : TypeId} {xs : List Value} {b : Nat} (h : VS I e xs b) : VS J e xs b := by
  obtain ⟨cur, h1, h2⟩ := h
  exact ⟨cur, le _ _ h1, h2⟩
theorem half_top (e : E) : (E.up e.base e.left).top ≤ e.top ∧ (E.up e.base e.right).top ≤ e.top := by
  rw [E.up_top, E.up_top]
  have := E.base_half e
  omega

end Go.Proofs.YtgdickihjaomjaaDoor
/- Rows of heights and places are read; StampFills. -/
set_option linter.all false
set_option maxRecDepth 100000
namespace Go.Proofs.YtgdickihjaomjaaDoor
open Go.RowKit Go.Sep

theorem addr_add (b k : Nat) : (⟨b, 0, none⟩ : Addr).add k = ⟨b, k, none⟩ := by unfold Addr.add; split <;> simp_all
theorem h7 {e : E} {k : Nat} (h : k < 128) : ((hL 7 e).map cU)[k]? = some (.int .u64 ((hAt 7 e k : Nat) : Int)) := by
  rw [List.getElem?_map, hL_get 7 e k h]; rfl
theorem leMono {A I J : IM} (le : I.Le J) (h : A.Le I) : A.Le J := h.trans le

end Go.Proofs.YtgdickihjaomjaaDoor
/- The document's Leq, Same, Depth, Check, Tick; StampTicks. -/
set_option linter.all false
set_option maxRecDepth 100000
namespace Go.Proofs.YtgdickihjaomjaaDoor
open Go.RowKit Go.Sep

set_option maxHeartbeats 2000000 in
theorem rdepth_step {I : IM} {e : E} {k : Nat} (h : RE I e k) (hd : e.depth ≤ 1000) (ih : ∀ n l r, e = .node n l r → (∀ {J : IM} {k : Nat}, RE J l k → l.depth ≤ 1000 → Fun Tryd.prog 20 #[.pointer (some ⟨k, 0, none⟩)] J (fun v J => v = .int .i64 ((l.depth : Nat) : Int))) ∧ (∀ {J : IM} {k : Nat}, RE J r k → r.depth ≤ 1000 → Fun Tryd.prog 20 #[.pointer (some ⟨k, 0, none⟩)] J (fun v J => v = .int .i64 ((r.depth : Nat) : Int)))) : Fun Tryd.prog 20 #[.pointer (some ⟨k, 0, none⟩)] I (fun v J => v = .int .i64 ((e.depth : Nat) : Int)) := by
  cases e with
  | leaf n =>
    have h0 : RE _ (E.leaf n) k := h
    refine enter_rule 27 [(0, .pointer (some ⟨k, 0, none⟩))] Tryd.func20 rfl (by kernel_rfl) ?_
    intro w s
    refine wp_seq ?_
    refine region_rule ?_
    refine ops_rule (C := []) [] [] 1 [] 0 (fun φ1 => [(2, .int .i64 0)]) (fun φ1 => []) (fun φ1 => []) s trivial (fun φ1 => by kernel_rfl) ?_
    intro φ1 w1 s
    refine ops_done (by kernel_rfl) ?_
    refine wp_seq ?_
    refine wp_seq ?_
    refine region_rule ?_
    refine ops_rule (C := [(k, .cells #[.int .u64 ((n : Nat) : Int), .pointer none, .pointer none] 112)]) [] [] 5 [.c 0] 0 (fun φ2 => [(9, .bool true), (8, .pointer none), (7, .pointer (some ⟨k, 1, none⟩)), (6, .pointer (some ⟨k, 0, none⟩)), (5, .pointer (some ⟨k, 0, none⟩))]) (fun φ2 => []) (fun φ2 => [k]) s ⟨h, trivial⟩ (fun φ2 => by kernel_rfl) ?_
    intro φ2 w2 s
    refine ops_done (by kernel_rfl) ?_
    refine cond_true_rule (b := true) (by kernel_rfl) rfl ?_
    refine wp_seq ?_
    refine region_rule ?_
    refine ops_rule (C := []) [] [] 1 [] 0 (fun φ3 => [(2, .int .i64 0)]) (fun φ3 => []) (fun φ3 => []) s trivial (fun φ3 => by kernel_rfl) ?_
    intro φ3 w3 s
    refine ops_done (by kernel_rfl) ?_
    refine wp_ret ?_
    refine ret_rule (C := []) [] [] (.int .i64 0) [] [] s trivial (by kernel_rfl) ?_
    exact ⟨_, _, _, rfl, s, rfl⟩
  | node n l r =>
    have h0 : RE _ (E.node n l r) k := h
    obtain ⟨kl, kr, hk, hl, hr⟩ := h
    obtain ⟨ihl, ihr⟩ := ih n l r rfl
    clear ih
    have hd1 : 1 + max l.depth r.depth ≤ 1000 := hd
    refine enter_rule 27 [(0, .pointer (some ⟨k, 0, none⟩))] Tryd.func20 rfl (by kernel_rfl) ?_
    intro w s
    refine wp_seq ?_
    refine region_rule ?_
    refine ops_rule (C := []) [] [] 1 [] 0 (fun φ1 => [(2, .int .i64 0)]) (fun φ1 => []) (fun φ1 => []) s trivial (fun φ1 => by kernel_rfl) ?_
    intro φ1 w1 s
    refine ops_done (by kernel_rfl) ?_
    refine wp_seq ?_
    refine wp_seq ?_
    refine region_rule ?_
    refine ops_rule (C := [(k, .cells #[.int .u64 ((n : Nat) : Int), .pointer (some ⟨kl, 0, none⟩), .pointer (some ⟨kr, 0, none⟩)] 112)]) [] [] 5 [.c 0] 0 (fun φ2 => [(9, .bool false), (8, .pointer (some ⟨kl, 0, none⟩)), (7, .pointer (some ⟨k, 1, none⟩)), (6, .pointer (some ⟨k, 0, none⟩)), (5, .pointer (some ⟨k, 0, none⟩))]) (fun φ2 => []) (fun φ2 => [k]) s ⟨hk, trivial⟩ (fun φ2 => by kernel_rfl) ?_
    intro φ2 w2 s
    refine ops_done (by kernel_rfl) ?_
    refine cond_false_rule (b := false) (by kernel_rfl) rfl ?_
    refine wp_skip ?_
    refine wp_seq ?_
    refine draw_rule (C := [(k, .cells #[.int .u64 ((n : Nat) : Int), .pointer (some ⟨kl, 0, none⟩), .pointer (some ⟨kr, 0, none⟩)] 112)]) ⟨(fun φ3 xs3 => [.look 0 [] [], .look 0 [] [], .look 0 [] [], .look 0 [.c 0] [k], .call 20 #[.pointer (some ⟨kl, 0, none⟩)], .look 0 [] [], .look 0 [] [], .look 0 [] [], .look 0 [.c 0] [k], .call 20 #[.pointer (some ⟨kr, 0, none⟩)], .look 0 [] [], .look 0 [] []]), (fun φ3 xs3 => [.pointer (some ⟨k, 0, none⟩), .pointer (some ⟨k, 0, none⟩), .pointer (some ⟨k, 1, none⟩), .pointer (some ⟨kl, 0, none⟩), .int .i64 ((l.depth : Nat) : Int), .pointer (some ⟨k, 0, none⟩), .pointer (some ⟨k, 0, none⟩), .pointer (some ⟨k, 2, none⟩), .pointer (some ⟨kr, 0, none⟩), .int .i64 ((r.depth : Nat) : Int), .int .i64 ((l.depth : Nat) : Int), .int .i64 ((r.depth : Nat) : Int)]), (fun φ3 xs3 => [[]]), (fun φ3 xs3 => [[default, default, default, default, default, default, default, default, default, default, default, default]]), [], [1, 1, 1, 1, 3, 1, 1, 1, 1, 3, 1, 1]⟩ (fun j => ([MP.any, MP.any, MP.any, MP.any, MP.any, MP.any, MP.any, MP.any, MP.any, MP.any, MP.any, MP.any] : List MP).getD j MP.any) [4, 9] [] [] (fun φ3 xs3 => []) (fun φ3 xs3 => [(10, .pointer (some ⟨k, 0, none⟩)), (11, .pointer (some ⟨k, 0, none⟩)), (12, .pointer (some ⟨k, 1, none⟩)), (13, .pointer (some ⟨kl, 0, none⟩)), (14, .int .i64 ((l.depth : Nat) : Int)), (15, .pointer (some ⟨k, 0, none⟩)), (16, .pointer (some ⟨k, 0, none⟩)), (17, .pointer (some ⟨k, 2, none⟩)), (18, .pointer (some ⟨kr, 0, none⟩)), (19, .int .i64 ((r.depth : Nat) : Int)), (3, .int .i64 ((l.depth : Nat) : Int)), (4, .int .i64 ((r.depth : Nat) : Int))]) (fun φ3 xs3 => []) s ⟨hk, trivial⟩ (by kernel_rfl) (by kernel_rfl) (fun _ _ => by kernel_rfl) (fun _ _ => by kernel_rfl) ⟨fun _ _ => by kernel_rfl, fun _ _ => by kernel_rfl, fun _ _ => by kernel_rfl, fun _ _ => by kernel_rfl⟩ (fun _ _ _ => by kernel_rfl) (fun _ _ => by kernel_rfl) (fun _ _ => by kernel_rfl) (fun _ _ => by kernel_rfl) (fun _ _ => by kernel_rfl) (fun _ _ => by kernel_rfl) trivial trivial (by kernel_rfl) ⟨?c3_4, ?c3_9, trivial⟩ ?k3
    case c3_4 =>
      refine kcast (A := ∀ (φ3 : Nat → Nat) (xs3 : Xs) (J4_3 : IM), I.Le J4_3 → Fun Tryd.prog 20 #[.pointer (some ⟨kl, 0, none⟩)] J4_3 (fun v J' => ∃ x : UX, v = .int .i64 ((l.depth : Nat) : Int) ∧ (True))) (by kernel_rfl) ?_
      intro φ3 xs3 J4_3 leJ
      have hl := RE.mono leJ hl
      exact Fun.mono (ihl hl (by omega)) (fun v J' _ h => ⟨UX.d, h, trivial⟩)
    case c3_9 =>
      refine kcast (A := ∀ (φ3 : Nat → Nat) (xs3 : Xs) (J9_3 : IM), I.Le J9_3 → (True) → Fun Tryd.prog 20 #[.pointer (some ⟨kr, 0, none⟩)] J9_3 (fun v J' => ∃ x : UX, v = .int .i64 ((r.depth : Nat) : Int) ∧ (True))) (by kernel_rfl) ?_
      intro φ3 xs3 J9_3 leJ
      rintro _
      have hr := RE.mono leJ hr
      exact Fun.mono (ihr hr (by omega)) (fun v J' _ h => ⟨UX.d, h, trivial⟩)
    case k3 =>
      rintro φ3 xs3 I3 w3 le3 s _ _
      replace hl := RE.mono le3 hl
      replace hr := RE.mono le3 hr
      replace h0 := RE.mono le3 h0
      replace hk := le3 _ _ hk
      refine wp_seq ?_
      refine wp_seq ?_
      refine region_rule ?_
      refine ops_rule (C := []) [] [] 3 [] 0 (fun φ4 => [(22, .bool (decide (((l.depth : Nat) : Int) > ((r.depth : Nat) : Int)))), (21, .int .i64 ((r.depth : Nat) : Int)), (20, .int .i64 ((l.depth : Nat) : Int))]) (fun φ4 => []) (fun φ4 => []) s trivial (fun φ4 => by kernel_rfl) ?_
      intro φ4 w4 s
      rw [nat_gtr (a := l.depth) (b := r.depth)]
      refine ops_done (by kernel_rfl) ?_
      rcases Bool.eq_false_or_eq_true (decide (r.depth < l.depth)) with hc5 | hc5
      ·
        rw [hc5]
        refine cond_true_rule (b := true) (by kernel_rfl) rfl ?_
        refine wp_seq ?_
        refine region_rule ?_
        refine ops_rule (C := []) [] [] 3 [] 0 (fun φ6 => [(2, .int .i64 (IntKind.wrap .i64 (((1 : Nat) : Int) + ((l.depth : Nat) : Int)))), (24, .int .i64 (IntKind.wrap .i64 (((1 : Nat) : Int) + ((l.depth : Nat) : Int)))), (23, .int .i64 ((l.depth : Nat) : Int))]) (fun φ6 => []) (fun φ6 => []) s trivial (fun φ6 => by kernel_rfl) ?_
        intro φ6 w6 s
        rw [nat_addI (a := 1) (b := l.depth) (by omega)]
        refine ops_done (by kernel_rfl) ?_
        refine wp_ret ?_
        refine ret_rule (C := []) [] [] (.int .i64 ((1 + l.depth : Nat) : Int)) [] [] s trivial (by kernel_rfl) ?_
        exact ⟨_, _, _, rfl, s, (by have hc := of_decide_eq_true hc5; show _ = Value.int .i64 ((1 + max l.depth r.depth : Nat) : Int); rw [Nat.max_eq_left (by omega)])⟩
      ·
        rw [hc5]
        refine cond_false_rule (b := false) (by kernel_rfl) rfl ?_
        refine wp_skip ?_
        refine wp_seq ?_
        refine region_rule ?_
        refine ops_rule (C := []) [] [] 3 [] 0 (fun φ7 => [(2, .int .i64 (IntKind.wrap .i64 (((1 : Nat) : Int) + ((r.depth : Nat) : Int)))), (26, .int .i64 (IntKind.wrap .i64 (((1 : Nat) : Int) + ((r.depth : Nat) : Int)))), (25, .int .i64 ((r.depth : Nat) : Int))]) (fun φ7 => []) (fun φ7 => []) s trivial (fun φ7 => by kernel_rfl) ?_
        intro φ7 w7 s
        rw [nat_addI (a := 1) (b := r.depth) (by omega)]
        refine ops_done (by kernel_rfl) ?_
        refine wp_ret ?_
        refine ret_rule (C := []) [] [] (.int .i64 ((1 + r.depth : Nat) : Int)) [] [] s trivial (by kernel_rfl) ?_
        exact ⟨_, _, _, rfl, s, (by have hc := of_decide_eq_false hc5; show _ = Value.int .i64 ((1 + max l.depth r.depth : Nat) : Int); rw [Nat.max_eq_right (by omega)])⟩

theorem rdepth_c : ∀ (e : E) {I : IM} {k : Nat}, RE I e k → e.depth ≤ 1000 → Fun Tryd.prog 20 #[.pointer (some ⟨k, 0, none⟩)] I (fun v _ => v = .int .i64 ((e.depth : Nat) : Int))
  | .leaf n, _, _, h, ht => rdepth_step h ht (fun n l r h => by cases h)
  | .node n l r, _, _, h, ht => rdepth_step h ht (fun n' l' r' e => by
      cases e
      exact ⟨fun {J} {k} a b => rdepth_c l a b, fun {J} {k} a b => rdepth_c r a b⟩)

end Go.Proofs.YtgdickihjaomjaaDoor
/- Joins are everywhere the greater; StampJoins. -/
set_option linter.all false
set_option maxRecDepth 100000
namespace Go.Proofs.YtgdickihjaomjaaDoor
open Go.RowKit Go.Sep

/-- A tree of the law's: in its form, not deep, not high. -/
def E.ok (e : E) : Prop := e.nf ∧ e.depth ≤ 6 ∧ e.top ≤ 100
end Go.Proofs.YtgdickihjaomjaaDoor
/- The program's event texts: numbers. -/
set_option linter.all false
set_option maxRecDepth 100000
attribute [local irreducible] Go.wpList Go.Code.wp
namespace Go.Proofs.YtgdickihjaomjaaDoor
open Go.RowKit Go.Sep

def numL : List UInt8 → Nat → Nat → Option (Nat × Nat)
  | [], n, k => some (n, k)
  | c :: r, n, k => if 48 ≤ c.toNat ∧ c.toNat ≤ 57 then (if k = 19 then none else numL r (n * 10 + (c.toNat - 48)) (k + 1)) else some (n, k)
def numR (s : List UInt8) : Nat × Nat × Bool := match numL s 0 0 with
  | none => (0, 0, false)
  | some (n, k) => if k = 0 ∨ (1 < k ∧ (s.getD 0 0).toNat = 48) then (0, 0, false) else (n, k, true)
theorem drop_cons {s : List UInt8} {k : Nat} (h : k < s.length) : s.drop k = s.getD k 0 :: s.drop (k + 1) := by
  rw [List.drop_eq_getElem_cons h]; simp [h]
theorem num_step {s : List UInt8} {n k : Nat} (h : k < s.length) (h1 : 48 ≤ (s.getD k 0).toNat) (h2 : (s.getD k 0).toNat ≤ 57) (h3 : ¬ k = 19) : numL (s.drop k) n k = numL (s.drop (k + 1)) (n * 10 + ((s.getD k 0).toNat - 48)) (k + 1) := by
  rw [drop_cons h, numL, if_pos ⟨h1, h2⟩, if_neg h3]
theorem num_no {s : List UInt8} {n k : Nat} (h : k < s.length) (h1 : 48 ≤ (s.getD k 0).toNat) (h2 : (s.getD k 0).toNat ≤ 57) (h3 : k = 19) : numL (s.drop k) n k = none := by
  rw [drop_cons h, numL, if_pos ⟨h1, h2⟩, if_pos h3]
theorem num_stop {s : List UInt8} {n k : Nat} (h : k < s.length) (h1 : ¬ (48 ≤ (s.getD k 0).toNat ∧ (s.getD k 0).toNat ≤ 57)) : numL (s.drop k) n k = some (n, k) := by
  rw [drop_cons h, numL, if_neg h1]
theorem num_end {s : List UInt8} {n k : Nat} (h : s.length ≤ k) : numL (s.drop k) n k = some (n, k) := by
  rw [List.drop_of_length_le h, numL]
theorem nat_subu8 {a b : Nat} (h : b ≤ a) (h2 : a < 256) : IntKind.wrap .u8 ((a : Int) - (b : Int)) = ((a - b : Nat) : Int) := by
  rw [wrapU8 (by omega) (by omega)]; omega
theorem under9 : Tryd.prog.underlying 9 = some .string := by kernel_rfl
theorem numR_none {s : List UInt8} (h : numL s 0 0 = none) : numR s = (0, 0, false) := by unfold numR; rw [h]
theorem numR_bad {s : List UInt8} {n k : Nat} (h : numL s 0 0 = some (n, k)) (h2 : k = 0 ∨ (1 < k ∧ (s.getD 0 0).toNat = 48)) : numR s = (0, 0, false) := by unfold numR; rw [h]; exact if_pos h2
theorem numR_ok {s : List UInt8} {n k : Nat} (h : numL s 0 0 = some (n, k)) (h2 : ¬ (k = 0 ∨ (1 < k ∧ (s.getD 0 0).toNat = 48))) : numR s = (n, k, true) := by unfold numR; rw [h]; exact if_neg h2
theorem numL_le : ∀ (s : List UInt8) (n k : Nat) {n' k' : Nat}, numL s n k = some (n', k') → k ≤ k' ∧ k' ≤ k + s.length
  | [], n, k, n', k', h => by simp [numL] at h; simp; omega
  | c :: r, n, k, n', k', h => by
    unfold numL at h
    split at h
    · split at h
      · cases h
      · have := numL_le r _ _ h
        simp only [List.length_cons]; omega
    · simp at h; simp only [List.length_cons]; omega
theorem numR_le (s : List UInt8) : (numR s).2.1 ≤ s.length := by
  unfold numR
  cases h : numL s 0 0 with
  | none => exact Nat.zero_le _
  | some p =>
    obtain ⟨n, k⟩ := p
    have := numL_le s 0 0 h
    show (if _ then _ else _ : Nat × Nat × Bool).2.1 ≤ _
    split
    · exact Nat.zero_le _
    · show k ≤ _; omega
set_option maxHeartbeats 2000000 in
theorem number_c {I : IM} {ss : List UInt8} (hs : ss.length ≤ 1000000) : Fun Tryd.prog 107 #[.string ⟨(ss).toArray⟩] I (fun v J => v = .tuple #[.int .u64 (((numR ss).1 : Nat) : Int), .int .i64 (((numR ss).2.1 : Nat) : Int), .bool (numR ss).2.2]) := by
  refine enter_rule 48 [(0, .string ⟨(ss).toArray⟩)] Tryd.func107 rfl (by kernel_rfl) ?_
  intro w s
  refine wp_seq ?_
  refine region_rule ?_
  refine ops_rule (C := []) [] [] 3 [] 0 (fun φ1 => [(4, .bool false), (3, .int .i64 0), (2, .int .u64 0)]) (fun φ1 => []) (fun φ1 => []) s trivial (fun φ1 => by kernel_rfl) ?_
  intro φ1 w1 s
  refine ops_done (by kernel_rfl) ?_
  refine wp_seq ?_
  refine region_rule ?_
  refine ops_rule (C := []) [] [] 1 [] 0 (fun φ2 => [(5, .int .u64 0)]) (fun φ2 => []) (fun φ2 => []) s trivial (fun φ2 => by kernel_rfl) ?_
  intro φ2 w2 s
  refine ops_done (by kernel_rfl) ?_
  refine wp_seq ?_
  refine region_rule ?_
  refine ops_rule (C := []) [] [] 1 [] 0 (fun φ3 => [(6, .int .i64 0)]) (fun φ3 => []) (fun φ3 => []) s trivial (fun φ3 => by kernel_rfl) ?_
  intro φ3 w3 s
  refine ops_done (by kernel_rfl) ?_
  refine wp_seq ?_
  refine wp_block ?_
  have hle4 := IM.Le.refl I
  refine loop_rule (fun (x : Nat × Nat) => [(0, .string ⟨(ss).toArray⟩), (5, .int .u64 ((x.1 : Nat) : Int)), (6, .int .i64 ((x.2 : Nat) : Int))]) (fun (_ : Nat × Nat) => []) (fun m (x : Nat × Nat) J => IM.Le I J ∧ x.2 + m = ss.length ∧ numL (ss.drop x.2) x.1 x.2 = numL ss 0 0 ∧ x.1 < 10 ^ x.2 ∧ x.2 ≤ 19) ss.length (0, 0) s (by kernel_rfl) List.Sublist.slnil ⟨IM.Le.refl _, Nat.zero_add _, rfl, by decide, by decide⟩ ?_
  rintro m ⟨n, k⟩ I5 w5 evj s ⟨le5, hm, hI, hn, hk19⟩
  dsimp only at s hm hI hn hk19 ⊢
  replace hle4 := leMono le5 hle4
  refine wp_seq ?_
  refine wp_seq ?_
  refine region_rule ?_
  refine ops_rule (C := []) [] [] 5 [] 0 (fun φ6 => [(11, .bool (decide (((k : Nat) : Int) < (((ss).length : Nat) : Int)))), (10, .bool (decide (((k : Nat) : Int) < (((ss).length : Nat) : Int)))), (9, .int .i64 (((ss).length : Nat) : Int)), (8, .string ⟨(ss).toArray⟩), (7, .int .i64 ((k : Nat) : Int))]) (fun φ6 => []) (fun φ6 => []) s trivial (fun φ6 => by kernel_rfl) ?_
  intro φ6 w6 s
  rw [nat_lss (a := k) (b := ((ss).length))]
  rcases Bool.eq_false_or_eq_true (decide (k < ((ss).length))) with hc7 | hc7
  ·
    rw [hc7]
    refine ops_rule (C := []) [] [] 2 [] 0 (fun φ8 => [(13, .int .i64 ((k : Nat) : Int)), (12, .string ⟨(ss).toArray⟩)]) (fun φ8 => []) (fun φ8 => []) s trivial (fun φ8 => by kernel_rfl) ?_
    intro φ8 w8 s
    refine sem_rule (Instr.index 9 (.string ⟨(ss).toArray⟩) (.int .i64 ((k : Nat) : Int))) (some 14) (.int .u8 (((ss.getD k 0).toNat : Nat) : Int)) (by kernel_rfl) (run_idxStr (s := ss) under9 (by have hq0 := of_decide_eq_true hc7; omega)) ?_
    refine ops_rule (C := []) [] [] 3 [] 0 (fun φ9 => [(17, .bool (decide ((((ss.getD k 0).toNat : Nat) : Int) ≥ ((48 : Nat) : Int)))), (16, .bool (decide ((((ss.getD k 0).toNat : Nat) : Int) ≥ ((48 : Nat) : Int)))), (15, .bool (decide ((((ss.getD k 0).toNat : Nat) : Int) ≥ ((48 : Nat) : Int))))]) (fun φ9 => []) (fun φ9 => []) s trivial (fun φ9 => by kernel_rfl) ?_
    intro φ9 w9 s
    rw [nat_geq (a := ((ss.getD k 0).toNat)) (b := 48)]
    rcases Bool.eq_false_or_eq_true (decide (48 ≤ ((ss.getD k 0).toNat))) with hc10 | hc10
    ·
      rw [hc10]
      refine ops_rule (C := []) [] [] 2 [] 0 (fun φ11 => [(19, .int .i64 ((k : Nat) : Int)), (18, .string ⟨(ss).toArray⟩)]) (fun φ11 => []) (fun φ11 => []) s trivial (fun φ11 => by kernel_rfl) ?_
      intro φ11 w11 s
      refine sem_rule (Instr.index 9 (.string ⟨(ss).toArray⟩) (.int .i64 ((k : Nat) : Int))) (some 20) (.int .u8 (((ss.getD k 0).toNat : Nat) : Int)) (by kernel_rfl) (run_idxStr (s := ss) under9 (by have hq0 := of_decide_eq_true hc7; have hq1 := of_decide_eq_true hc10; omega)) ?_
      refine ops_rule (C := []) [] [] 2 [] 0 (fun φ12 => [(22, .bool (decide ((((ss.getD k 0).toNat : Nat) : Int) ≤ ((57 : Nat) : Int)))), (21, .bool (decide ((((ss.getD k 0).toNat : Nat) : Int) ≤ ((57 : Nat) : Int))))]) (fun φ12 => []) (fun φ12 => []) s trivial (fun φ12 => by kernel_rfl) ?_
      intro φ12 w12 s
      rw [nat_leq (a := ((ss.getD k 0).toNat)) (b := 57)]
      refine ops_done (by kernel_rfl) ?_
      rcases Bool.eq_false_or_eq_true (decide (((ss.getD k 0).toNat) ≤ 57)) with hc13 | hc13
      ·
        rw [hc13]
        refine cond_true_rule (b := true) (by kernel_rfl) rfl ?_
        refine wp_skip ?_
        refine wp_block ?_
        refine wp_seq ?_
        refine wp_seq ?_
        refine region_rule ?_
        refine ops_rule (C := []) [] [] 2 [] 0 (fun φ14 => [(24, .bool (((k : Nat) : Int) == ((19 : Nat) : Int))), (23, .int .i64 ((k : Nat) : Int))]) (fun φ14 => []) (fun φ14 => []) s trivial (fun φ14 => by kernel_rfl) ?_
        intro φ14 w14 s
        rw [nat_eql (a := k) (b := 19)]
        refine ops_done (by kernel_rfl) ?_
        rcases Bool.eq_false_or_eq_true (decide (k = 19)) with hc15 | hc15
        ·
          rw [hc15]
          refine cond_true_rule (b := true) (by kernel_rfl) rfl ?_
          refine wp_seq ?_
          refine region_rule ?_
          refine ops_rule (C := []) [] [] 3 [] 0 (fun φ16 => [(4, .bool false), (3, .int .i64 0), (2, .int .u64 0)]) (fun φ16 => []) (fun φ16 => []) s trivial (fun φ16 => by kernel_rfl) ?_
          intro φ16 w16 s
          refine ops_done (by kernel_rfl) ?_
          refine wp_ret ?_
          refine ret_rule (C := []) [] [] (.tuple #[.int .u64 0, .int .i64 0, .bool false]) [] [] s trivial (by kernel_rfl) ?_
          exact ⟨_, _, _, rfl, s, (by rw [numR_none (hI.symm.trans (num_no (of_decide_eq_true hc7) (of_decide_eq_true hc10) (of_decide_eq_true hc13) (of_decide_eq_true hc15)))]; rfl)⟩
        ·
          rw [hc15]
          refine cond_false_rule (b := false) (by kernel_rfl) rfl ?_
          refine wp_skip ?_
          refine wp_seq ?_
          refine region_rule ?_
          refine ops_rule (C := []) [] [] 4 [] 0 (fun φ17 => [(28, .int .i64 ((k : Nat) : Int)), (27, .string ⟨(ss).toArray⟩), (26, .int .u64 (IntKind.wrap .u64 (((n : Nat) : Int) * ((10 : Nat) : Int)))), (25, .int .u64 ((n : Nat) : Int))]) (fun φ17 => []) (fun φ17 => []) s trivial (fun φ17 => by kernel_rfl) ?_
          intro φ17 w17 s
          rw [nat_mulU (a := n) (b := 10) (by have hc8 := (ss.getD k 0).toNat_lt; have hp9 : k ≤ 18 → 10 ^ k ≤ 10 ^ 18 := fun q => Nat.pow_le_pow_right (by omega) q; have hq0 := of_decide_eq_true hc7; have hq1 := of_decide_eq_true hc10; have hq2 := of_decide_eq_true hc13; have hq3 := of_decide_eq_false hc15; omega)]
          refine sem_rule (Instr.index 9 (.string ⟨(ss).toArray⟩) (.int .i64 ((k : Nat) : Int))) (some 29) (.int .u8 (((ss.getD k 0).toNat : Nat) : Int)) (by kernel_rfl) (run_idxStr (s := ss) under9 (by have hq0 := of_decide_eq_true hc7; have hq1 := of_decide_eq_true hc10; have hq2 := of_decide_eq_true hc13; have hq3 := of_decide_eq_false hc15; omega)) ?_
          refine ops_rule (C := []) [] [] 4 [] 0 (fun φ18 => [(5, .int .u64 (IntKind.wrap .u64 (((n * 10 : Nat) : Int) + (IntKind.wrap .u64 (IntKind.wrap .u8 ((((ss.getD k 0).toNat : Nat) : Int) - ((48 : Nat) : Int))))))), (32, .int .u64 (IntKind.wrap .u64 (((n * 10 : Nat) : Int) + (IntKind.wrap .u64 (IntKind.wrap .u8 ((((ss.getD k 0).toNat : Nat) : Int) - ((48 : Nat) : Int))))))), (31, .int .u64 (IntKind.wrap .u64 (IntKind.wrap .u8 ((((ss.getD k 0).toNat : Nat) : Int) - ((48 : Nat) : Int))))), (30, .int .u8 (IntKind.wrap .u8 ((((ss.getD k 0).toNat : Nat) : Int) - ((48 : Nat) : Int))))]) (fun φ18 => []) (fun φ18 => []) s trivial (fun φ18 => by kernel_rfl) ?_
          intro φ18 w18 s
          rw [nat_subu8 (a := ((ss.getD k 0).toNat)) (b := 48) (by have hc8 := (ss.getD k 0).toNat_lt; have hp9 : k ≤ 18 → 10 ^ k ≤ 10 ^ 18 := fun q => Nat.pow_le_pow_right (by omega) q; have hq0 := of_decide_eq_true hc7; have hq1 := of_decide_eq_true hc10; have hq2 := of_decide_eq_true hc13; have hq3 := of_decide_eq_false hc15; omega) (by have hc8 := (ss.getD k 0).toNat_lt; have hp9 : k ≤ 18 → 10 ^ k ≤ 10 ^ 18 := fun q => Nat.pow_le_pow_right (by omega) q; have hq0 := of_decide_eq_true hc7; have hq1 := of_decide_eq_true hc10; have hq2 := of_decide_eq_true hc13; have hq3 := of_decide_eq_false hc15; omega)]
          rw [nat_wrapU (a := (((ss.getD k 0).toNat) - 48)) (by have hc8 := (ss.getD k 0).toNat_lt; have hp9 : k ≤ 18 → 10 ^ k ≤ 10 ^ 18 := fun q => Nat.pow_le_pow_right (by omega) q; have hq0 := of_decide_eq_true hc7; have hq1 := of_decide_eq_true hc10; have hq2 := of_decide_eq_true hc13; have hq3 := of_decide_eq_false hc15; omega)]
          rw [nat_addU (a := (n * 10)) (b := (((ss.getD k 0).toNat) - 48)) (by have hc8 := (ss.getD k 0).toNat_lt; have hp9 : k ≤ 18 → 10 ^ k ≤ 10 ^ 18 := fun q => Nat.pow_le_pow_right (by omega) q; have hq0 := of_decide_eq_true hc7; have hq1 := of_decide_eq_true hc10; have hq2 := of_decide_eq_true hc13; have hq3 := of_decide_eq_false hc15; omega)]
          refine ops_done (by kernel_rfl) ?_
          refine region_rule ?_
          refine ops_rule (C := []) [] [] 3 [] 0 (fun φ19 => [(6, .int .i64 (IntKind.wrap .i64 (((k : Nat) : Int) + ((1 : Nat) : Int)))), (34, .int .i64 (IntKind.wrap .i64 (((k : Nat) : Int) + ((1 : Nat) : Int)))), (33, .int .i64 ((k : Nat) : Int))]) (fun φ19 => []) (fun φ19 => []) s trivial (fun φ19 => by kernel_rfl) ?_
          intro φ19 w19 s
          rw [nat_addI (a := k) (b := 1) (by have hc8 := (ss.getD k 0).toNat_lt; have hp9 : k ≤ 18 → 10 ^ k ≤ 10 ^ 18 := fun q => Nat.pow_le_pow_right (by omega) q; have hq0 := of_decide_eq_true hc7; have hq1 := of_decide_eq_true hc10; have hq2 := of_decide_eq_true hc13; have hq3 := of_decide_eq_false hc15; omega)]
          refine ops_done (by kernel_rfl) ?_
          have hs9 := num_step (n := n) (of_decide_eq_true hc7) (of_decide_eq_true hc10) (of_decide_eq_true hc13) (of_decide_eq_false hc15)
          have hq1 := of_decide_eq_true hc7
          have hq2 := of_decide_eq_false hc15
          have hq3 := of_decide_eq_true hc13
          exact ⟨⟨m - 1, ((n * 10) + (((ss.getD k 0).toNat) - 48), k + 1), _, _, _, by omega, rfl, s, List.Sublist.slnil, by kernel_rfl, hle4, by simp only; omega, hs9.symm.trans hI, by simp only [Nat.pow_succ]; omega, by simp only; omega⟩⟩
      ·
        rw [hc13]
        refine cond_false_rule (b := false) (by kernel_rfl) rfl ?_
        refine wp_exit ?_
        refine wp_seq ?_
        refine wp_seq ?_
        refine region_rule ?_
        refine ops_rule (C := []) [] [] 3 [] 0 (fun φ20 => [(37, .bool (((k : Nat) : Int) == ((0 : Nat) : Int))), (36, .bool (((k : Nat) : Int) == ((0 : Nat) : Int))), (35, .int .i64 ((k : Nat) : Int))]) (fun φ20 => []) (fun φ20 => []) s trivial (fun φ20 => by kernel_rfl) ?_
        intro φ20 w20 s
        rw [nat_eql (a := k) (b := 0)]
        rcases Bool.eq_false_or_eq_true (decide (k = 0)) with hc21 | hc21
        ·
          rw [hc21]
          refine ops_rule (C := []) [] [] 8 [] 0 (fun φ22 => [(45, .bool true), (44, undef), (43, undef), (42, undef), (41, undef), (40, undef), (39, undef), (38, undef)]) (fun φ22 => []) (fun φ22 => []) s trivial (fun φ22 => by kernel_rfl) ?_
          intro φ22 w22 s
          refine ops_done (by kernel_rfl) ?_
          refine cond_true_rule (b := true) (by kernel_rfl) rfl ?_
          refine wp_seq ?_
          refine region_rule ?_
          refine ops_rule (C := []) [] [] 3 [] 0 (fun φ23 => [(4, .bool false), (3, .int .i64 0), (2, .int .u64 0)]) (fun φ23 => []) (fun φ23 => []) s trivial (fun φ23 => by kernel_rfl) ?_
          intro φ23 w23 s
          refine ops_done (by kernel_rfl) ?_
          refine wp_ret ?_
          refine ret_rule (C := []) [] [] (.tuple #[.int .u64 0, .int .i64 0, .bool false]) [] [] s trivial (by kernel_rfl) ?_
          exact ⟨_, _, _, rfl, s, (by rw [numR_bad (hI.symm.trans (num_stop (of_decide_eq_true hc7) (fun q => (of_decide_eq_false hc13) q.2))) (.inl (of_decide_eq_true hc21))]; rfl)⟩
        ·
          rw [hc21]
          refine ops_rule (C := []) [] [] 3 [] 0 (fun φ24 => [(40, .bool (decide (((k : Nat) : Int) > ((1 : Nat) : Int)))), (39, .bool (decide (((k : Nat) : Int) > ((1 : Nat) : Int)))), (38, .int .i64 ((k : Nat) : Int))]) (fun φ24 => []) (fun φ24 => []) s trivial (fun φ24 => by kernel_rfl) ?_
          intro φ24 w24 s
          rw [nat_gtr (a := k) (b := 1)]
          rcases Bool.eq_false_or_eq_true (decide (1 < k)) with hc25 | hc25
          ·
            rw [hc25]
            refine ops_rule (C := []) [] [] 1 [] 0 (fun φ26 => [(41, .string ⟨(ss).toArray⟩)]) (fun φ26 => []) (fun φ26 => []) s trivial (fun φ26 => by kernel_rfl) ?_
            intro φ26 w26 s
            refine sem_rule (Instr.index 9 (.string ⟨(ss).toArray⟩) (.int .i64 ((0 : Nat) : Int))) (some 42) (.int .u8 (((ss.getD 0 0).toNat : Nat) : Int)) (by kernel_rfl) (run_idxStr (s := ss) under9 (by have hq0 := of_decide_eq_true hc7; have hq1 := of_decide_eq_true hc10; have hq2 := of_decide_eq_false hc13; have hq3 := of_decide_eq_false hc21; have hq4 := of_decide_eq_true hc25; omega)) ?_
            refine ops_rule (C := []) [] [] 3 [] 0 (fun φ27 => [(45, .bool ((((ss.getD 0 0).toNat : Nat) : Int) == ((48 : Nat) : Int))), (44, .bool ((((ss.getD 0 0).toNat : Nat) : Int) == ((48 : Nat) : Int))), (43, .bool ((((ss.getD 0 0).toNat : Nat) : Int) == ((48 : Nat) : Int)))]) (fun φ27 => []) (fun φ27 => []) s trivial (fun φ27 => by kernel_rfl) ?_
            intro φ27 w27 s
            rw [nat_eql (a := ((ss.getD 0 0).toNat)) (b := 48)]
            refine ops_done (by kernel_rfl) ?_
            rcases Bool.eq_false_or_eq_true (decide (((ss.getD 0 0).toNat) = 48)) with hc28 | hc28
            ·
              rw [hc28]
              refine cond_true_rule (b := true) (by kernel_rfl) rfl ?_
              refine wp_seq ?_
              refine region_rule ?_
              refine ops_rule (C := []) [] [] 3 [] 0 (fun φ29 => [(4, .bool false), (3, .int .i64 0), (2, .int .u64 0)]) (fun φ29 => []) (fun φ29 => []) s trivial (fun φ29 => by kernel_rfl) ?_
              intro φ29 w29 s
              refine ops_done (by kernel_rfl) ?_
              refine wp_ret ?_
              refine ret_rule (C := []) [] [] (.tuple #[.int .u64 0, .int .i64 0, .bool false]) [] [] s trivial (by kernel_rfl) ?_
              exact ⟨_, _, _, rfl, s, (by rw [numR_bad (hI.symm.trans (num_stop (of_decide_eq_true hc7) (fun q => (of_decide_eq_false hc13) q.2))) (.inr ⟨of_decide_eq_true hc25, of_decide_eq_true hc28⟩)]; rfl)⟩
            ·
              rw [hc28]
              refine cond_false_rule (b := false) (by kernel_rfl) rfl ?_
              refine wp_skip ?_
              refine wp_seq ?_
              refine region_rule ?_
              refine ops_rule (C := []) [] [] 5 [] 0 (fun φ30 => [(4, .bool true), (3, .int .i64 ((k : Nat) : Int)), (2, .int .u64 ((n : Nat) : Int)), (47, .int .i64 ((k : Nat) : Int)), (46, .int .u64 ((n : Nat) : Int))]) (fun φ30 => []) (fun φ30 => []) s trivial (fun φ30 => by kernel_rfl) ?_
              intro φ30 w30 s
              refine ops_done (by kernel_rfl) ?_
              refine wp_ret ?_
              refine ret_rule (C := []) [] [] (.tuple #[.int .u64 ((n : Nat) : Int), .int .i64 ((k : Nat) : Int), .bool true]) [] [] s trivial (by kernel_rfl) ?_
              exact ⟨_, _, _, rfl, s, (by rw [numR_ok (hI.symm.trans (num_stop (of_decide_eq_true hc7) (fun q => (of_decide_eq_false hc13) q.2))) (fun q => q.elim (of_decide_eq_false hc21) (fun q => (of_decide_eq_false hc28) q.2))])⟩
          ·
            rw [hc25]
            refine ops_rule (C := []) [] [] 5 [] 0 (fun φ31 => [(45, .bool false), (44, .bool false), (43, undef), (42, undef), (41, undef)]) (fun φ31 => []) (fun φ31 => []) s trivial (fun φ31 => by kernel_rfl) ?_
            intro φ31 w31 s
            refine ops_done (by kernel_rfl) ?_
            refine cond_false_rule (b := false) (by kernel_rfl) rfl ?_
            refine wp_skip ?_
            refine wp_seq ?_
            refine region_rule ?_
            refine ops_rule (C := []) [] [] 5 [] 0 (fun φ32 => [(4, .bool true), (3, .int .i64 ((k : Nat) : Int)), (2, .int .u64 ((n : Nat) : Int)), (47, .int .i64 ((k : Nat) : Int)), (46, .int .u64 ((n : Nat) : Int))]) (fun φ32 => []) (fun φ32 => []) s trivial (fun φ32 => by kernel_rfl) ?_
            intro φ32 w32 s
            refine ops_done (by kernel_rfl) ?_
            refine wp_ret ?_
            refine ret_rule (C := []) [] [] (.tuple #[.int .u64 ((n : Nat) : Int), .int .i64 ((k : Nat) : Int), .bool true]) [] [] s trivial (by kernel_rfl) ?_
            exact ⟨_, _, _, rfl, s, (by rw [numR_ok (hI.symm.trans (num_stop (of_decide_eq_true hc7) (fun q => (of_decide_eq_false hc13) q.2))) (fun q => q.elim (of_decide_eq_false hc21) (fun q => (of_decide_eq_false hc25) q.1))])⟩
    ·
      rw [hc10]
      refine ops_rule (C := []) [] [] 5 [] 0 (fun φ33 => [(22, .bool false), (21, undef), (20, undef), (19, undef), (18, undef)]) (fun φ33 => []) (fun φ33 => []) s trivial (fun φ33 => by kernel_rfl) ?_
      intro φ33 w33 s
      refine ops_done (by kernel_rfl) ?_
      refine cond_false_rule (b := false) (by kernel_rfl) rfl ?_
      refine wp_exit ?_
      refine wp_seq ?_
      refine wp_seq ?_
      refine region_rule ?_
      refine ops_rule (C := []) [] [] 3 [] 0 (fun φ34 => [(37, .bool (((k : Nat) : Int) == ((0 : Nat) : Int))), (36, .bool (((k : Nat) : Int) == ((0 : Nat) : Int))), (35, .int .i64 ((k : Nat) : Int))]) (fun φ34 => []) (fun φ34 => []) s trivial (fun φ34 => by kernel_rfl) ?_
      intro φ34 w34 s
      rw [nat_eql (a := k) (b := 0)]
      rcases Bool.eq_false_or_eq_true (decide (k = 0)) with hc35 | hc35
      ·
        rw [hc35]
        refine ops_rule (C := []) [] [] 8 [] 0 (fun φ36 => [(45, .bool true), (44, undef), (43, undef), (42, undef), (41, undef), (40, undef), (39, undef), (38, undef)]) (fun φ36 => []) (fun φ36 => []) s trivial (fun φ36 => by kernel_rfl) ?_
        intro φ36 w36 s
        refine ops_done (by kernel_rfl) ?_
        refine cond_true_rule (b := true) (by kernel_rfl) rfl ?_
        refine wp_seq ?_
        refine region_rule ?_
        refine ops_rule (C := []) [] [] 3 [] 0 (fun φ37 => [(4, .bool false), (3, .int .i64 0), (2, .int .u64 0)]) (fun φ37 => []) (fun φ37 => []) s trivial (fun φ37 => by kernel_rfl) ?_
        intro φ37 w37 s
        refine ops_done (by kernel_rfl) ?_
        refine wp_ret ?_
        refine ret_rule (C := []) [] [] (.tuple #[.int .u64 0, .int .i64 0, .bool false]) [] [] s trivial (by kernel_rfl) ?_
        exact ⟨_, _, _, rfl, s, (by rw [numR_bad (hI.symm.trans (num_stop (of_decide_eq_true hc7) (fun q => (of_decide_eq_false hc10) q.1))) (.inl (of_decide_eq_true hc35))]; rfl)⟩
      ·
        rw [hc35]
        refine ops_rule (C := []) [] [] 3 [] 0 (fun φ38 => [(40, .bool (decide (((k : Nat) : Int) > ((1 : Nat) : Int)))), (39, .bool (decide (((k : Nat) : Int) > ((1 : Nat) : Int)))), (38, .int .i64 ((k : Nat) : Int))]) (fun φ38 => []) (fun φ38 => []) s trivial (fun φ38 => by kernel_rfl) ?_
        intro φ38 w38 s
        rw [nat_gtr (a := k) (b := 1)]
        rcases Bool.eq_false_or_eq_true (decide (1 < k)) with hc39 | hc39
        ·
          rw [hc39]
          refine ops_rule (C := []) [] [] 1 [] 0 (fun φ40 => [(41, .string ⟨(ss).toArray⟩)]) (fun φ40 => []) (fun φ40 => []) s trivial (fun φ40 => by kernel_rfl) ?_
          intro φ40 w40 s
          refine sem_rule (Instr.index 9 (.string ⟨(ss).toArray⟩) (.int .i64 ((0 : Nat) : Int))) (some 42) (.int .u8 (((ss.getD 0 0).toNat : Nat) : Int)) (by kernel_rfl) (run_idxStr (s := ss) under9 (by have hq0 := of_decide_eq_true hc7; have hq1 := of_decide_eq_false hc10; have hq2 := of_decide_eq_false hc35; have hq3 := of_decide_eq_true hc39; omega)) ?_
          refine ops_rule (C := []) [] [] 3 [] 0 (fun φ41 => [(45, .bool ((((ss.getD 0 0).toNat : Nat) : Int) == ((48 : Nat) : Int))), (44, .bool ((((ss.getD 0 0).toNat : Nat) : Int) == ((48 : Nat) : Int))), (43, .bool ((((ss.getD 0 0).toNat : Nat) : Int) == ((48 : Nat) : Int)))]) (fun φ41 => []) (fun φ41 => []) s trivial (fun φ41 => by kernel_rfl) ?_
          intro φ41 w41 s
          rw [nat_eql (a := ((ss.getD 0 0).toNat)) (b := 48)]
          refine ops_done (by kernel_rfl) ?_
          rcases Bool.eq_false_or_eq_true (decide (((ss.getD 0 0).toNat) = 48)) with hc42 | hc42
          ·
            rw [hc42]
            refine cond_true_rule (b := true) (by kernel_rfl) rfl ?_
            refine wp_seq ?_
            refine region_rule ?_
            refine ops_rule (C := []) [] [] 3 [] 0 (fun φ43 => [(4, .bool false), (3, .int .i64 0), (2, .int .u64 0)]) (fun φ43 => []) (fun φ43 => []) s trivial (fun φ43 => by kernel_rfl) ?_
            intro φ43 w43 s
            refine ops_done (by kernel_rfl) ?_
            refine wp_ret ?_
            refine ret_rule (C := []) [] [] (.tuple #[.int .u64 0, .int .i64 0, .bool false]) [] [] s trivial (by kernel_rfl) ?_
            exact ⟨_, _, _, rfl, s, (by rw [numR_bad (hI.symm.trans (num_stop (of_decide_eq_true hc7) (fun q => (of_decide_eq_false hc10) q.1))) (.inr ⟨of_decide_eq_true hc39, of_decide_eq_true hc42⟩)]; rfl)⟩
          ·
            rw [hc42]
            refine cond_false_rule (b := false) (by kernel_rfl) rfl ?_
            refine wp_skip ?_
            refine wp_seq ?_
            refine region_rule ?_
            refine ops_rule (C := []) [] [] 5 [] 0 (fun φ44 => [(4, .bool true), (3, .int .i64 ((k : Nat) : Int)), (2, .int .u64 ((n : Nat) : Int)), (47, .int .i64 ((k : Nat) : Int)), (46, .int .u64 ((n : Nat) : Int))]) (fun φ44 => []) (fun φ44 => []) s trivial (fun φ44 => by kernel_rfl) ?_
            intro φ44 w44 s
            refine ops_done (by kernel_rfl) ?_
            refine wp_ret ?_
            refine ret_rule (C := []) [] [] (.tuple #[.int .u64 ((n : Nat) : Int), .int .i64 ((k : Nat) : Int), .bool true]) [] [] s trivial (by kernel_rfl) ?_
            exact ⟨_, _, _, rfl, s, (by rw [numR_ok (hI.symm.trans (num_stop (of_decide_eq_true hc7) (fun q => (of_decide_eq_false hc10) q.1))) (fun q => q.elim (of_decide_eq_false hc35) (fun q => (of_decide_eq_false hc42) q.2))])⟩
        ·
          rw [hc39]
          refine ops_rule (C := []) [] [] 5 [] 0 (fun φ45 => [(45, .bool false), (44, .bool false), (43, undef), (42, undef), (41, undef)]) (fun φ45 => []) (fun φ45 => []) s trivial (fun φ45 => by kernel_rfl) ?_
          intro φ45 w45 s
          refine ops_done (by kernel_rfl) ?_
          refine cond_false_rule (b := false) (by kernel_rfl) rfl ?_
          refine wp_skip ?_
          refine wp_seq ?_
          refine region_rule ?_
          refine ops_rule (C := []) [] [] 5 [] 0 (fun φ46 => [(4, .bool true), (3, .int .i64 ((k : Nat) : Int)), (2, .int .u64 ((n : Nat) : Int)), (47, .int .i64 ((k : Nat) : Int)), (46, .int .u64 ((n : Nat) : Int))]) (fun φ46 => []) (fun φ46 => []) s trivial (fun φ46 => by kernel_rfl) ?_
          intro φ46 w46 s
          refine ops_done (by kernel_rfl) ?_
          refine wp_ret ?_
          refine ret_rule (C := []) [] [] (.tuple #[.int .u64 ((n : Nat) : Int), .int .i64 ((k : Nat) : Int), .bool true]) [] [] s trivial (by kernel_rfl) ?_
          exact ⟨_, _, _, rfl, s, (by rw [numR_ok (hI.symm.trans (num_stop (of_decide_eq_true hc7) (fun q => (of_decide_eq_false hc10) q.1))) (fun q => q.elim (of_decide_eq_false hc35) (fun q => (of_decide_eq_false hc39) q.1))])⟩
  ·
    rw [hc7]
    refine ops_rule (C := []) [] [] 11 [] 0 (fun φ47 => [(22, .bool false), (21, undef), (20, undef), (19, undef), (18, undef), (17, .bool false), (16, .bool false), (15, undef), (14, undef), (13, undef), (12, undef)]) (fun φ47 => []) (fun φ47 => []) s trivial (fun φ47 => by kernel_rfl) ?_
    intro φ47 w47 s
    refine ops_done (by kernel_rfl) ?_
    refine cond_false_rule (b := false) (by kernel_rfl) rfl ?_
    refine wp_exit ?_
    refine wp_seq ?_
    refine wp_seq ?_
    refine region_rule ?_
    refine ops_rule (C := []) [] [] 3 [] 0 (fun φ48 => [(37, .bool (((k : Nat) : Int) == ((0 : Nat) : Int))), (36, .bool (((k : Nat) : Int) == ((0 : Nat) : Int))), (35, .int .i64 ((k : Nat) : Int))]) (fun φ48 => []) (fun φ48 => []) s trivial (fun φ48 => by kernel_rfl) ?_
    intro φ48 w48 s
    rw [nat_eql (a := k) (b := 0)]
    rcases Bool.eq_false_or_eq_true (decide (k = 0)) with hc49 | hc49
    ·
      rw [hc49]
      refine ops_rule (C := []) [] [] 8 [] 0 (fun φ50 => [(45, .bool true), (44, undef), (43, undef), (42, undef), (41, undef), (40, undef), (39, undef), (38, undef)]) (fun φ50 => []) (fun φ50 => []) s trivial (fun φ50 => by kernel_rfl) ?_
      intro φ50 w50 s
      refine ops_done (by kernel_rfl) ?_
      refine cond_true_rule (b := true) (by kernel_rfl) rfl ?_
      refine wp_seq ?_
      refine region_rule ?_
      refine ops_rule (C := []) [] [] 3 [] 0 (fun φ51 => [(4, .bool false), (3, .int .i64 0), (2, .int .u64 0)]) (fun φ51 => []) (fun φ51 => []) s trivial (fun φ51 => by kernel_rfl) ?_
      intro φ51 w51 s
      refine ops_done (by kernel_rfl) ?_
      refine wp_ret ?_
      refine ret_rule (C := []) [] [] (.tuple #[.int .u64 0, .int .i64 0, .bool false]) [] [] s trivial (by kernel_rfl) ?_
      exact ⟨_, _, _, rfl, s, (by rw [numR_bad (hI.symm.trans (num_end (by have := of_decide_eq_false hc7; omega))) (.inl (of_decide_eq_true hc49))]; rfl)⟩
    ·
      rw [hc49]
      refine ops_rule (C := []) [] [] 3 [] 0 (fun φ52 => [(40, .bool (decide (((k : Nat) : Int) > ((1 : Nat) : Int)))), (39, .bool (decide (((k : Nat) : Int) > ((1 : Nat) : Int)))), (38, .int .i64 ((k : Nat) : Int))]) (fun φ52 => []) (fun φ52 => []) s trivial (fun φ52 => by kernel_rfl) ?_
      intro φ52 w52 s
      rw [nat_gtr (a := k) (b := 1)]
      rcases Bool.eq_false_or_eq_true (decide (1 < k)) with hc53 | hc53
      ·
        rw [hc53]
        refine ops_rule (C := []) [] [] 1 [] 0 (fun φ54 => [(41, .string ⟨(ss).toArray⟩)]) (fun φ54 => []) (fun φ54 => []) s trivial (fun φ54 => by kernel_rfl) ?_
        intro φ54 w54 s
        refine sem_rule (Instr.index 9 (.string ⟨(ss).toArray⟩) (.int .i64 ((0 : Nat) : Int))) (some 42) (.int .u8 (((ss.getD 0 0).toNat : Nat) : Int)) (by kernel_rfl) (run_idxStr (s := ss) under9 (by have hq0 := of_decide_eq_false hc7; have hq1 := of_decide_eq_false hc49; have hq2 := of_decide_eq_true hc53; omega)) ?_
        refine ops_rule (C := []) [] [] 3 [] 0 (fun φ55 => [(45, .bool ((((ss.getD 0 0).toNat : Nat) : Int) == ((48 : Nat) : Int))), (44, .bool ((((ss.getD 0 0).toNat : Nat) : Int) == ((48 : Nat) : Int))), (43, .bool ((((ss.getD 0 0).toNat : Nat) : Int) == ((48 : Nat) : Int)))]) (fun φ55 => []) (fun φ55 => []) s trivial (fun φ55 => by kernel_rfl) ?_
        intro φ55 w55 s
        rw [nat_eql (a := ((ss.getD 0 0).toNat)) (b := 48)]
        refine ops_done (by kernel_rfl) ?_
        rcases Bool.eq_false_or_eq_true (decide (((ss.getD 0 0).toNat) = 48)) with hc56 | hc56
        ·
          rw [hc56]
          refine cond_true_rule (b := true) (by kernel_rfl) rfl ?_
          refine wp_seq ?_
          refine region_rule ?_
          refine ops_rule (C := []) [] [] 3 [] 0 (fun φ57 => [(4, .bool false), (3, .int .i64 0), (2, .int .u64 0)]) (fun φ57 => []) (fun φ57 => []) s trivial (fun φ57 => by kernel_rfl) ?_
          intro φ57 w57 s
          refine ops_done (by kernel_rfl) ?_
          refine wp_ret ?_
          refine ret_rule (C := []) [] [] (.tuple #[.int .u64 0, .int .i64 0, .bool false]) [] [] s trivial (by kernel_rfl) ?_
          exact ⟨_, _, _, rfl, s, (by rw [numR_bad (hI.symm.trans (num_end (by have := of_decide_eq_false hc7; omega))) (.inr ⟨of_decide_eq_true hc53, of_decide_eq_true hc56⟩)]; rfl)⟩
        ·
          rw [hc56]
          refine cond_false_rule (b := false) (by kernel_rfl) rfl ?_
          refine wp_skip ?_
          refine wp_seq ?_
          refine region_rule ?_
          refine ops_rule (C := []) [] [] 5 [] 0 (fun φ58 => [(4, .bool true), (3, .int .i64 ((k : Nat) : Int)), (2, .int .u64 ((n : Nat) : Int)), (47, .int .i64 ((k : Nat) : Int)), (46, .int .u64 ((n : Nat) : Int))]) (fun φ58 => []) (fun φ58 => []) s trivial (fun φ58 => by kernel_rfl) ?_
          intro φ58 w58 s
          refine ops_done (by kernel_rfl) ?_
          refine wp_ret ?_
          refine ret_rule (C := []) [] [] (.tuple #[.int .u64 ((n : Nat) : Int), .int .i64 ((k : Nat) : Int), .bool true]) [] [] s trivial (by kernel_rfl) ?_
          exact ⟨_, _, _, rfl, s, (by rw [numR_ok (hI.symm.trans (num_end (by have := of_decide_eq_false hc7; omega))) (fun q => q.elim (of_decide_eq_false hc49) (fun q => (of_decide_eq_false hc56) q.2))])⟩
      ·
        rw [hc53]
        refine ops_rule (C := []) [] [] 5 [] 0 (fun φ59 => [(45, .bool false), (44, .bool false), (43, undef), (42, undef), (41, undef)]) (fun φ59 => []) (fun φ59 => []) s trivial (fun φ59 => by kernel_rfl) ?_
        intro φ59 w59 s
        refine ops_done (by kernel_rfl) ?_
        refine cond_false_rule (b := false) (by kernel_rfl) rfl ?_
        refine wp_skip ?_
        refine wp_seq ?_
        refine region_rule ?_
        refine ops_rule (C := []) [] [] 5 [] 0 (fun φ60 => [(4, .bool true), (3, .int .i64 ((k : Nat) : Int)), (2, .int .u64 ((n : Nat) : Int)), (47, .int .i64 ((k : Nat) : Int)), (46, .int .u64 ((n : Nat) : Int))]) (fun φ60 => []) (fun φ60 => []) s trivial (fun φ60 => by kernel_rfl) ?_
        intro φ60 w60 s
        refine ops_done (by kernel_rfl) ?_
        refine wp_ret ?_
        refine ret_rule (C := []) [] [] (.tuple #[.int .u64 ((n : Nat) : Int), .int .i64 ((k : Nat) : Int), .bool true]) [] [] s trivial (by kernel_rfl) ?_
        exact ⟨_, _, _, rfl, s, (by rw [numR_ok (hI.symm.trans (num_end (by have := of_decide_eq_false hc7; omega))) (fun q => q.elim (of_decide_eq_false hc49) (fun q => (of_decide_eq_false hc53) q.1))])⟩

end Go.Proofs.YtgdickihjaomjaaDoor
