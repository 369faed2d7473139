/- The document's Left, Right, deepest, Has. -/
import Derived.Test.YtkfncjaomgcdgaaW13
import Derived.Test.YtkfncjaomgcdgaaSem
set_option linter.all false
namespace Go.Proofs.Ytkfncjaomgcdgaa
open Go.RowKit Go.Facts

set_option maxRecDepth 100000 in
set_option maxHeartbeats 400000 in
theorem rleft_zero {v : Value} {w : World} (h : (IsRef .zero).p v w) :
    Calls Try.prog 50 #[v] w (Ret w (IsRef .zero).p) := by
  obtain ⟨p, rfl, hr⟩ := id h
  obtain ⟨k, rfl, g⟩ := id hr
  go_enter Try.func50, Try.ntmps50
  have g_0 := g.c 0 rfl; have gf0 := g.f 0; have g_1 := g.c 1 rfl; have gf1 := g.f 1; have g_2 := g.c 2 rfl; have gf2 := g.f 2; have gl := g.lt
  go_wp2_with fail
  clear g_0 gf0 g_1 gf1 g_2 gf2 gl
  go_ret
  exact ⟨_, rfl, h, Ext.refl _⟩

set_option maxRecDepth 100000 in
set_option maxHeartbeats 400000 in
theorem rleft_one {v : Value} {w : World} (h : (IsRef .one).p v w) :
    Calls Try.prog 50 #[v] w (Ret w (IsRef .one).p) := by
  obtain ⟨p, rfl, hr⟩ := id h
  obtain ⟨k, rfl, g⟩ := id hr
  go_enter Try.func50, Try.ntmps50
  have g_0 := g.c 0 rfl; have gf0 := g.f 0; have g_1 := g.c 1 rfl; have gf1 := g.f 1; have g_2 := g.c 2 rfl; have gf2 := g.f 2; have gl := g.lt
  go_wp2_with fail
  clear g_0 gf0 g_1 gf1 g_2 gf2 gl
  go_ret
  exact ⟨_, rfl, h, Ext.refl _⟩

set_option maxRecDepth 100000 in
set_option maxHeartbeats 400000 in
theorem rleft_node {l r : T} {v : Value} {w : World} (h : (IsRef (.node l r)).p v w) :
    Calls Try.prog 50 #[v] w (Ret w (IsRef l).p) := by
  obtain ⟨p, rfl, k, pl, pr, rfl, g, hl, hr⟩ := h
  go_enter Try.func50, Try.ntmps50
  have g_0 := g.c 0 rfl; have gf0 := g.f 0; have g_1 := g.c 1 rfl; have gf1 := g.f 1; have g_2 := g.c 2 rfl; have gf2 := g.f 2; have gl := g.lt
  go_wp2_with fail
  clear g_0 gf0 g_1 gf1 g_2 gf2 gl
  go_ret
  exact ⟨_, rfl, ⟨_, rfl, hl⟩, Ext.refl _⟩

theorem rleft_c : ∀ (t : T) (v : Value) (w : World), (IsRef t).p v w → Calls Try.prog 50 #[v] w (Ret w (IsRef t.left).p)
  | .zero, _, _, h => rleft_zero h
  | .one, _, _, h => rleft_one h
  | .node _ _, _, _, h => rleft_node h

set_option maxRecDepth 100000 in
set_option maxHeartbeats 400000 in
theorem rright_zero {v : Value} {w : World} (h : (IsRef .zero).p v w) :
    Calls Try.prog 51 #[v] w (Ret w (IsRef .zero).p) := by
  obtain ⟨p, rfl, hr⟩ := id h
  obtain ⟨k, rfl, g⟩ := id hr
  go_enter Try.func51, Try.ntmps51
  have g_0 := g.c 0 rfl; have gf0 := g.f 0; have g_1 := g.c 1 rfl; have gf1 := g.f 1; have g_2 := g.c 2 rfl; have gf2 := g.f 2; have gl := g.lt
  go_wp2_with fail
  clear g_0 gf0 g_1 gf1 g_2 gf2 gl
  go_ret
  exact ⟨_, rfl, h, Ext.refl _⟩

set_option maxRecDepth 100000 in
set_option maxHeartbeats 400000 in
theorem rright_one {v : Value} {w : World} (h : (IsRef .one).p v w) :
    Calls Try.prog 51 #[v] w (Ret w (IsRef .one).p) := by
  obtain ⟨p, rfl, hr⟩ := id h
  obtain ⟨k, rfl, g⟩ := id hr
  go_enter Try.func51, Try.ntmps51
  have g_0 := g.c 0 rfl; have gf0 := g.f 0; have g_1 := g.c 1 rfl; have gf1 := g.f 1; have g_2 := g.c 2 rfl; have gf2 := g.f 2; have gl := g.lt
  go_wp2_with fail
  clear g_0 gf0 g_1 gf1 g_2 gf2 gl
  go_ret
  exact ⟨_, rfl, h, Ext.refl _⟩

set_option maxRecDepth 100000 in
set_option maxHeartbeats 400000 in
theorem rright_node {l r : T} {v : Value} {w : World} (h : (IsRef (.node l r)).p v w) :
    Calls Try.prog 51 #[v] w (Ret w (IsRef r).p) := by
  obtain ⟨p, rfl, k, pl, pr, rfl, g, hl, hr⟩ := h
  go_enter Try.func51, Try.ntmps51
  have g_0 := g.c 0 rfl; have gf0 := g.f 0; have g_1 := g.c 1 rfl; have gf1 := g.f 1; have g_2 := g.c 2 rfl; have gf2 := g.f 2; have gl := g.lt
  go_wp2_with fail
  clear g_0 gf0 g_1 gf1 g_2 gf2 gl
  go_ret
  exact ⟨_, rfl, ⟨_, rfl, hr⟩, Ext.refl _⟩

theorem rright_c : ∀ (t : T) (v : Value) (w : World), (IsRef t).p v w → Calls Try.prog 51 #[v] w (Ret w (IsRef t.right).p)
  | .zero, _, _, h => rright_zero h
  | .one, _, _, h => rright_one h
  | .node _ _, _, _, h => rright_node h

set_option maxRecDepth 100000 in
set_option maxHeartbeats 400000 in
theorem rdeepest_c {a b : T} {va vb : Value} {w : World} (ha : (IsRef a).p va w) (hb' : (IsRef b).p vb w) (hda : a.depth ≤ 1000) (hdb : b.depth ≤ 1000) :
    Calls Try.prog 43 #[va, vb] w (Ret w (PP.eq (.int .i64 ((max a.depth b.depth : Nat) : Int))).p) := by
  go_enter Try.func43, Try.ntmps43
  go_wp2_with fail
  refine (rdepth_c a hda _ _ ha).mono ?_
  rintro _ w1 ⟨_, rfl, rfl, hb⟩
  have hx := hb; replace ha := (IsRef a).mono hb ha; replace hb' := (IsRef b).mono hb hb'; have s0 := hb.size
  go_wp2_with fail
  refine (rdepth_c b hdb _ _ hb').mono ?_
  rintro _ w2 ⟨_, rfl, rfl, hb⟩
  replace hx := Ext.trans hx hb; replace ha := (IsRef a).mono hb ha; replace hb' := (IsRef b).mono hb hb'; have s1 := hb.size
  by_cases hlt : b.depth < a.depth
  ·
    have ht : decide ((b.depth : Int) < (a.depth : Int)) = true := by simp; omega
    go_wp2_with fail
    go_ret
    exact ⟨_, rfl, congrArg (Value.int .i64) (by omega), hx⟩
  ·
    have ht : decide ((b.depth : Int) < (a.depth : Int)) = false := by simp; omega
    go_wp2_with fail
    go_ret
    exact ⟨_, rfl, congrArg (Value.int .i64) (by omega), hx⟩

/-- which of the 2^n parts it has -/
def hasT : T → Nat → List Bool
  | t, 0 => [t.isOne]
  | t, n + 1 => hasT t.left n ++ hasT t.right n
theorem has_len : ∀ (t : T) (n : Nat), (hasT t n).length = 2 ^ n
  | _, 0 => rfl
  | t, n + 1 => by rw [hasT, List.length_append, has_len _ n, has_len _ n]; omega
def bls (l : List Bool) : List Value := l.map .bool
theorem bls_len (l : List Bool) : (bls l).length = l.length := List.length_map _
theorem bls_app (a b : List Bool) : bls (a ++ b) = bls a ++ bls b := List.map_append
/-- a row of bools that is not older than B -/
def BRow (B : Nat) (l : List Bool) : PP := ⟨fun v w => w.ownsRow B 4 1 v l.length (bls l), fun h k => own_ext k h⟩
theorem Try.info4 : (Try.prog.info? 4).map (fun i => (i.zero, i.size, i.bytes)) = some (some (.bool false), 1, 1) := by kernel_rfl
theorem grown_below {B : Nat} {w w' : World} {p : Value} {n : Nat} {xs : List Value} {e : TypeId} {size : Nat} (own : w.ownsRow B e size p n xs) (hB : B ≤ w.heap.size) (hg : w.grownBy w' p.ownBlock) : Below B w w' :=
  Below.grown (Below.refl B w) hg hB (fun k hk => (own.lt k hk).1)

set_option maxRecDepth 100000 in
set_option maxHeartbeats 400000 in
theorem rhas_0 {t : T} {v : Value} {w : World} (h : (IsRef t).p v w) :
    Calls Try.prog 44 #[v, .int .i64 0] w (Ret w (BRow w.heap.size (hasT t 0)).p) := by
  obtain ⟨p, rfl, hr⟩ := id h
  obtain ⟨k, pl, pr, rfl, g⟩ := hr.blk
  have hq : (((kN t : Nat) : Int) == 1) = t.isOne := by cases t <;> rfl
  go_enter Try.func44, Try.ntmps44
  have g_0 := g.c 0 rfl; have gf0 := g.f 0; have g_1 := g.c 1 rfl; have gf1 := g.f 1; have g_2 := g.c 2 rfl; have gf2 := g.f 2; have gl := g.lt
  go_wp2_with fail
  clear g_0 gf0 g_1 gf1 g_2 gf2 gl
  go_ret
  exact ⟨_, rfl, ⟨rfl, .inr ⟨_, 1, #[.bool t.isOne], rfl, Nat.le_refl _, blk_alloc w [.bool t.isOne] 4, Nat.le_refl _, by decide, rfl, rfl⟩⟩, (Ext.refl _).alloc _⟩

set_option maxRecDepth 100000 in
set_option maxHeartbeats 1000000 in
theorem rhas_s {t : T} {n : Nat} {v : Value} {w : World} (h : (IsRef t).p v w) (hn : n < 20) (ih : ∀ (t : T) (v : Value) (w : World), (IsRef t).p v w → Calls Try.prog 44 #[v, .int .i64 (n : Nat)] w (Ret w (BRow w.heap.size (hasT t n)).p)) :
    Calls Try.prog 44 #[v, .int .i64 ((n + 1 : Nat) : Int)] w (Ret w (BRow w.heap.size (hasT t (n + 1))).p) := by
  have IH := Lib.hid ih; clear ih
  obtain ⟨i0, hi, hz0, hz1, hz2⟩ := info_parts Try.info4
  have hsz : 2 ^ n ≤ 2 ^ 20 := Nat.pow_le_pow_right (by decide) (by omega)
  have hne : (((n + 1 : Nat) : Int) == 0) = false := beq_eq_false_iff_ne.2 (by omega)
  have hsub : ((n + 1 : Nat) : Int) - 1 = (n : Int) := by omega
  have hwr : ((n : Int)) ≤ 9223372036854775807 := by omega
  go_enter Try.func44, Try.ntmps44
  go_wp2_with fail
  refine (rleft_c t _ _ h).mono ?_
  rintro _ w1 ⟨av, rfl, a, hb⟩
  have hx := hb; replace h := (IsRef t).mono hb h; have s0 := hb.size
  go_wp2_with fail
  refine (IH.out t.left _ _ a).mono ?_
  rintro _ w2 ⟨rv, rfl, r, hb⟩
  replace hx := Ext.trans hx hb; replace h := (IsRef t).mono hb h; replace a := (IsRef t.left).mono hb a; have s1 := hb.size
  go_wp2_with fail
  refine (rright_c t _ _ h).mono ?_
  rintro _ w3 ⟨bv, rfl, b, hb⟩
  replace hx := Ext.trans hx hb; replace h := (IsRef t).mono hb h; replace a := (IsRef t.left).mono hb a; replace r := (BRow w1.heap.size (hasT t.left n)).mono hb r; have s2 := hb.size
  go_wp2_with fail
  refine (IH.out t.right _ _ b).mono ?_
  rintro _ w4 ⟨qv, rfl, q, hb⟩
  replace hx := Ext.trans hx hb; replace h := (IsRef t).mono hb h; replace a := (IsRef t.left).mono hb a; replace r := (BRow w1.heap.size (hasT t.left n)).mono hb r; replace b := (IsRef t.right).mono hb b; have s3 := hb.size
  have hlr := has_len t.left n; have hlq := has_len t.right n
  obtain ⟨hq1, hq2⟩ := q
  rcases hq2 with ⟨_, hq0⟩ | ⟨g, cap, cur, rfl, hg, hh, hcn, hcm, hcs, hct⟩
  · exfalso; rw [hlq] at hq0; have := Nat.two_pow_pos n; omega
  have hcell : ∀ j u, (bls (hasT t.right n))[j]? = some u → w4.cell? ((⟨g, 0, none⟩ : Addr).add j) = some u := fun j u hj => World.ownsRow.cells (v := .slice (some ⟨g, 0, none⟩) (hasT t.right n).length cap) ⟨hq1, .inr ⟨g, cap, cur, rfl, hg, hh, hcn, hcm, hcs, hct⟩⟩ rfl j u hj
  have own : w4.ownsRow w.heap.size 4 1 rv (hasT t.left n).length (bls (hasT t.left n)) := by obtain ⟨r1, r2⟩ := r; refine ⟨r1, ?_⟩; rcases r2 with r2 | ⟨g', cap', cur', hv', hg', rest⟩; exact .inl r2; exact .inr ⟨g', cap', cur', hv', by omega, rest⟩
  go_wp2_with (at_builtin; refine wpList_append_own _ rfl _ _ 67 rfl w.heap.size 4 i0 (.bool false) 1 1 Try.underlying67 hi hz0 hz1 hz2 rfl (by decide) _ _ _ rfl own ⟨g, 0, none⟩ _ _ (bls (hasT t.right n)) rfl (by rw [bls_len]; omega) hcell (fun x hx => by simp [bls] at hx; rcases hx with ⟨_, rfl⟩ | ⟨_, rfl⟩ <;> rfl) (by unfold maxLen; omega) (by omega) (by omega) ?_; intro v9 w9 own9 hg9 hnil9)
  have kp9 := grown_below own (by omega) hg9
  go_ret
  exact ⟨_, rfl, by show w9.ownsRow _ _ _ _ _ _; rw [hasT, List.length_append, bls_app]; rw [← hlq] at own9; exact own9, Below.trans hx kp9⟩

theorem rhas_c : ∀ (n : Nat), n ≤ 20 → ∀ (t : T) (v : Value) (w : World), (IsRef t).p v w → Calls Try.prog 44 #[v, .int .i64 (n : Nat)] w (Ret w (BRow w.heap.size (hasT t n)).p)
  | 0, _, _, _, _, h => rhas_0 h
  | n + 1, hn, _, _, _, h => rhas_s h (by omega) (rhas_c n (by omega))

/-- A slice of bools that is only read. -/
def Bl (l : List Bool) (v : Value) (w : World) : Prop := ∃ g o cap, v = .slice (some ⟨g, o, none⟩) l.length cap ∧ l.length ≤ cap ∧ cap ≤ maxLen ∧ ∀ j x, l[j]? = some x → w.cell? ⟨g, o + j, none⟩ = some (.bool x)
def BlP (l : List Bool) : PP := ⟨Bl l, fun h ⟨g, o, cap, hv, hc, hm, hr⟩ => ⟨g, o, cap, hv, hc, hm, fun j x hj => (h.cell (p := ⟨g, o + j, none⟩) (World.block_lt_of_cell? _ _ (hr j x hj))).trans (hr j x hj)⟩⟩

set_option maxRecDepth 100000 in
set_option maxHeartbeats 400000 in
theorem rof_1 {b : Bool} {v : Value} {w : World} (h : Bl [b] v w) :
    Calls Try.prog 45 #[v] w (Ret w (IsRef (if b then .one else .zero)).p) := by
  obtain ⟨g, o, cap, rfl, hc, hm, hr⟩ := h
  have h0 := hr 0 b rfl
  simp only [List.length_cons, List.length_nil, Nat.zero_add, Nat.add_zero] at *
  cases b
  ·
    go_enter Try.func45, Try.ntmps45
    go_wp2_with fail
    refine (rzero_c).mono ?_
    rintro _ w1 ⟨zv, rfl, z, hb⟩
    have hx := hb; have s0 := hb.size
    go_wp2_with fail
    go_ret
    exact ⟨_, rfl, z, hx⟩
  ·
    go_enter Try.func45, Try.ntmps45
    go_wp2_with fail
    refine (rone_c).mono ?_
    rintro _ w1 ⟨zv, rfl, z, hb⟩
    have hx := hb; have s1 := hb.size
    go_wp2_with fail
    go_ret
    exact ⟨_, rfl, z, hx⟩

set_option maxRecDepth 100000 in
set_option maxHeartbeats 2000000 in
theorem rof_2 {l r : T} {a b : List Bool} {v : Value} {w : World} (h : Bl (a ++ b) v w) (hab : a.length = b.length) (h1 : 1 ≤ a.length) (h2 : a.length ≤ 1000000) (ihl : ∀ (v : Value) (w : World), Bl a v w → Calls Try.prog 45 #[v] w (Ret w (IsRef l).p)) (ihr : ∀ (v : Value) (w : World), Bl b v w → Calls Try.prog 45 #[v] w (Ret w (IsRef r).p)) :
    Calls Try.prog 45 #[v] w (Ret w (IsRef (T.mk l r)).p) := by
  have IHL := Lib.hid ihl; have IHR := Lib.hid ihr; clear ihl ihr
  obtain ⟨g, o, cap, rfl, hc, hm, hr⟩ := h
  generalize hn : a.length = n at *
  generalize hN : (a ++ b).length = N at *
  have hN2 : N = n + n := by rw [← hN, List.length_append]; omega
  have ha : Bl a (.slice (some ⟨g, o, none⟩) n cap) w := ⟨g, o, cap, by rw [hn], by omega, hm, fun j x hj => hr j x (by rw [List.getElem?_append_left (List.getElem?_eq_some_iff.1 hj).1]; exact hj)⟩
  have hcap : ¬ cap = n := by omega
  have hb' : Bl b (.slice (some ⟨g, o + n, none⟩) n (cap - n)) w := ⟨g, o + n, cap - n, by rw [← hab], by omega, by omega, fun j x hj => by rw [Nat.add_assoc]; exact hr (n + j) x (by rw [List.getElem?_append_right (by omega), show n + j - a.length = j by omega]; exact hj)⟩
  have Hr := Lib.hid hr; clear hr
  have Ha := Lib.hid ha; have Hb := Lib.hid hb'; clear ha hb' hn hN hab
  have q1 : ((N : Int) == 1) = false := beq_eq_false_iff_ne.2 (by omega)
  have q2 : Int.tdiv (N : Int) 2 = (n : Int) := by rw [Int.tdiv_eq_ediv_of_nonneg (by omega)]; omega
  have q3 : (n : Int) ≤ (N : Int) := by omega
  have q4 : (n : Int) ≤ (cap : Int) := by omega
  have q5 : (N : Int) ≤ (cap : Int) := by omega
  have q6 : N - n = n := by omega
  have q7 : n ≤ N := by omega
  have q8 : IntKind.i64.wrap (n : Int) = (n : Int) := by rw [IntKind.wrap_i64]; omega
  clear hN2
  go_enter Try.func45, Try.ntmps45
  go_wp2_with fail
  clear q1
  refine wp_facts 13 [] [PP.eq (.slice (some ⟨g, o, none⟩) N cap), PP.eq (.slice (some ⟨g, o, none⟩) N cap), PP.eq (.int .i64 (N : Nat)), PP.eq (.int .i64 (n : Nat)), PP.eq (.slice (some ⟨g, o, none⟩) n cap), (IsRef l).toPP, PP.eq (.slice (some ⟨g, o, none⟩) N cap), PP.eq (.slice (some ⟨g, o, none⟩) N cap), PP.eq (.int .i64 (N : Nat)), PP.eq (.int .i64 (n : Nat)), PP.eq (.slice (some ⟨g, o + n, none⟩) n (cap - n)), (IsRef r).toPP, (IsRef (T.mk l r)).toPP] (by kernel_rfl) (by kernel_rfl) ⟨?o0, ?o1, ?o2, ?o3, ?o4, ?o5, ?o6, ?o7, ?o8, ?o9, ?o10, ?o11, ?o12, trivial⟩ ?rest
  case o0 =>
    intro x0 x1 x2 x3 x4 x5 x6 x7 x8 x9 x10 x11 x12 w' hE
    rintro R hR
    simp only [putAll, List.take, List.drop, List.map, Act.put, List.setIfInBounds_toArray, List.set_cons_zero, List.set_cons_succ]
    go_simp
    exact hR _ _ (Ext.refl _) (rfl) trivial
  case o1 =>
    intro x0 x1 x2 x3 x4 x5 x6 x7 x8 x9 x10 x11 x12 w' hE
    rintro R hR
    simp only [putAll, List.take, List.drop, List.map, Act.put, List.setIfInBounds_toArray, List.set_cons_zero, List.set_cons_succ]
    go_simp
    exact hR _ _ (Ext.refl _) (rfl) trivial
  case o2 =>
    intro x0 x1 x2 x3 x4 x5 x6 x7 x8 x9 x10 x11 x12 w' hE
    rintro rfl R hR
    simp only [putAll, List.take, List.drop, List.map, Act.put, List.setIfInBounds_toArray, List.set_cons_zero, List.set_cons_succ]
    go_simp
    exact hR _ _ (Ext.refl _) (rfl) trivial
  case o3 =>
    intro x0 x1 x2 x3 x4 x5 x6 x7 x8 x9 x10 x11 x12 w' hE
    rintro rfl R hR
    simp only [putAll, List.take, List.drop, List.map, Act.put, List.setIfInBounds_toArray, List.set_cons_zero, List.set_cons_succ]
    go_simp
    exact hR _ _ (Ext.refl _) (rfl) trivial
  case o4 =>
    intro x0 x1 x2 x3 x4 x5 x6 x7 x8 x9 x10 x11 x12 w' hE
    rintro rfl rfl R hR
    simp only [putAll, List.take, List.drop, List.map, Act.put, List.setIfInBounds_toArray, List.set_cons_zero, List.set_cons_succ]
    go_simp
    exact hR _ _ (Ext.refl _) (rfl) trivial
  case o5 =>
    intro x0 x1 x2 x3 x4 x5 x6 x7 x8 x9 x10 x11 x12 w' hE
    rintro rfl R hR
    simp only [putAll, List.take, List.drop, List.map, Act.put, List.setIfInBounds_toArray, List.set_cons_zero, List.set_cons_succ]
    go_simp
    refine (IHL.out _ _ ((BlP a).mono hE Ha.out)).mono ?_
    rintro _ w'' ⟨v, rfl, hv, hb⟩
    exact hR _ _ hb hv trivial
  case o6 =>
    intro x0 x1 x2 x3 x4 x5 x6 x7 x8 x9 x10 x11 x12 w' hE
    rintro R hR
    simp only [putAll, List.take, List.drop, List.map, Act.put, List.setIfInBounds_toArray, List.set_cons_zero, List.set_cons_succ]
    go_simp
    exact hR _ _ (Ext.refl _) (rfl) trivial
  case o7 =>
    intro x0 x1 x2 x3 x4 x5 x6 x7 x8 x9 x10 x11 x12 w' hE
    rintro R hR
    simp only [putAll, List.take, List.drop, List.map, Act.put, List.setIfInBounds_toArray, List.set_cons_zero, List.set_cons_succ]
    go_simp
    exact hR _ _ (Ext.refl _) (rfl) trivial
  case o8 =>
    intro x0 x1 x2 x3 x4 x5 x6 x7 x8 x9 x10 x11 x12 w' hE
    rintro rfl R hR
    simp only [putAll, List.take, List.drop, List.map, Act.put, List.setIfInBounds_toArray, List.set_cons_zero, List.set_cons_succ]
    go_simp
    exact hR _ _ (Ext.refl _) (rfl) trivial
  case o9 =>
    intro x0 x1 x2 x3 x4 x5 x6 x7 x8 x9 x10 x11 x12 w' hE
    rintro rfl R hR
    simp only [putAll, List.take, List.drop, List.map, Act.put, List.setIfInBounds_toArray, List.set_cons_zero, List.set_cons_succ]
    go_simp
    exact hR _ _ (Ext.refl _) (rfl) trivial
  case o10 =>
    intro x0 x1 x2 x3 x4 x5 x6 x7 x8 x9 x10 x11 x12 w' hE
    rintro rfl rfl R hR
    simp only [putAll, List.take, List.drop, List.map, Act.put, List.setIfInBounds_toArray, List.set_cons_zero, List.set_cons_succ]
    go_simp
    exact hR _ _ (Ext.refl _) (rfl) trivial
  case o11 =>
    intro x0 x1 x2 x3 x4 x5 x6 x7 x8 x9 x10 x11 x12 w' hE
    rintro rfl d5 R hR
    simp only [putAll, List.take, List.drop, List.map, Act.put, List.setIfInBounds_toArray, List.set_cons_zero, List.set_cons_succ]
    go_simp
    refine (IHR.out _ _ ((BlP b).mono hE Hb.out)).mono ?_
    rintro _ w'' ⟨v, rfl, hv, hb⟩
    exact hR _ _ hb hv trivial
  case o12 =>
    intro x0 x1 x2 x3 x4 x5 x6 x7 x8 x9 x10 x11 x12 w' hE
    rintro d5 d11 _ R hR
    simp only [putAll, List.take, List.drop, List.map, Act.put, List.setIfInBounds_toArray, List.set_cons_zero, List.set_cons_succ]
    go_simp
    refine (rpair_c d5 d11).mono ?_
    rintro _ w'' ⟨v, rfl, hv, hb⟩
    exact hR _ _ hb hv trivial
  case rest =>
    intro x0 x1 x2 x3 x4 x5 x6 x7 x8 x9 x10 x11 x12 w1 hb
    rintro rfl rfl rfl rfl rfl _ rfl rfl rfl rfl rfl _ r12 hap
    have hx := hb; have s1 := hb.size
    clear hap
    simp only [putAll, List.take, List.drop, List.map, Act.put, List.setIfInBounds_toArray, List.set_cons_zero, List.set_cons_succ]
    go_wp2_with fail
    go_ret
    exact ⟨_, rfl, r12, hx⟩

theorem depth_half (t : T) : t.left.depth ≤ t.depth - 1 ∧ t.right.depth ≤ t.depth - 1 := by cases t <;> simp only [T.left, T.right, T.depth] <;> omega
theorem rof_c : ∀ (n : Nat), n ≤ 19 → ∀ (t : T), t.wf = true → t.depth ≤ n → ∀ (v : Value) (w : World), Bl (hasT t n) v w → Calls Try.prog 45 #[v] w (Ret w (IsRef t).p)
  | 0, _, t, _, hd, v, w, h => by
    have := rof_1 h
    cases t with
    | zero => exact this
    | one => exact this
    | node a b => simp [T.depth] at hd
  | n + 1, hn, t, hw, hd, v, w, h => by
    have d := depth_half t
    have hsz : 2 ^ n ≤ 2 ^ 19 := Nat.pow_le_pow_right (by decide) (by omega)
    have hp := Nat.two_pow_pos n
    have := rof_2 (l := t.left) (r := t.right) h (by rw [has_len, has_len]) (by rw [has_len]; omega) (by rw [has_len]; omega) (rof_c n (by omega) t.left (left_wf hw) (by omega)) (rof_c n (by omega) t.right (right_wf hw) (by omega))
    rw [mk_halves hw] at this
    exact this

end Go.Proofs.Ytkfncjaomgcdgaa
