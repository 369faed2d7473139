/- The document's ids. -/
import Derived.Test.YtkfncjaomgcdgaaW12
set_option linter.all false
namespace Go.Proofs.Ytkfncjaomgcdgaa
open Go.RowKit Go.Facts

/-- The document's id: a pointer to a block of its kind and halves. -/
def RRep (w : World) : T → Option Addr → Prop
  | .zero, p => ∃ k, p = some ⟨k, 0, none⟩ ∧ Blk w k [.int .i64 0, .pointer none, .pointer none] 62
  | .one, p => ∃ k, p = some ⟨k, 0, none⟩ ∧ Blk w k [.int .i64 1, .pointer none, .pointer none] 62
  | .node l r, p => ∃ k pl pr, p = some ⟨k, 0, none⟩ ∧ Blk w k [.int .i64 2, .pointer pl, .pointer pr] 62 ∧ RRep w l pl ∧ RRep w r pr
theorem RRep.imm {w w' : World} (h : Imm TS w w') : ∀ {t : T} {p : Option Addr}, RRep w t p → RRep w' t p
  | .zero, _, ⟨k, hp, hc⟩ => ⟨k, hp, h _ _ _ (by decide) hc⟩
  | .one, _, ⟨k, hp, hc⟩ => ⟨k, hp, h _ _ _ (by decide) hc⟩
  | .node _ _, _, ⟨k, pl, pr, hp, hc, rl, rr⟩ => ⟨k, pl, pr, hp, h _ _ _ (by decide) hc, rl.imm h, rr.imm h⟩
theorem RRep.ext {w w' : World} (h : Ext w w') {t : T} {p : Option Addr} (r : RRep w t p) : RRep w' t p := r.imm (imm_of_ext h)
def IsRef (t : T) : PI := { p := fun v w => ∃ p, v = .pointer p ∧ RRep w t p, mono := fun h ⟨p, hv, hr⟩ => ⟨p, hv, hr.ext h⟩, imm := fun h ⟨p, hv, hr⟩ => ⟨p, hv, hr.imm h⟩ }
/-- every block behind it is new, from B on: not needed; the block's shape alone: its kind -/
def kN : T → Nat
  | .zero => 0
  | .one => 1
  | .node _ _ => 2
theorem RRep.blk {w : World} : ∀ {t : T} {p : Option Addr}, RRep w t p → ∃ k pl pr, p = some ⟨k, 0, none⟩ ∧ Blk w k [.int .i64 (kN t : Nat), .pointer pl, .pointer pr] 62
  | .zero, _, ⟨k, hp, hc⟩ => ⟨k, _, _, hp, hc⟩
  | .one, _, ⟨k, hp, hc⟩ => ⟨k, _, _, hp, hc⟩
  | .node _ _, _, ⟨k, pl, pr, hp, hc, _, _⟩ => ⟨k, pl, pr, hp, hc⟩

set_option maxRecDepth 100000 in
set_option maxHeartbeats 400000 in
theorem rzero_c {w : World} :
    Calls Try.prog 17 #[] w (Ret w (IsRef .zero).p) := by
  go_enter Try.func17, Try.ntmps17
  go_wp2_with fail
  obtain ⟨W, hW, hb, z0, g⟩ := box1 w [.int .i64 0, .pointer none, .pointer none] 62
  rw [hW]; clear hW
  have hx := hb; have s1 := hb.size
  go_ret
  exact ⟨_, rfl, ⟨_, rfl, _, rfl, g⟩, hx⟩

set_option maxRecDepth 100000 in
set_option maxHeartbeats 400000 in
theorem rone_c {w : World} :
    Calls Try.prog 41 #[] w (Ret w (IsRef .one).p) := by
  go_enter Try.func41, Try.ntmps41
  go_wp2_with fail
  obtain ⟨W, hW, hb, z0, g⟩ := box1 w [.int .i64 1, .pointer none, .pointer none] 62
  rw [hW]; clear hW
  have hx := hb; have s1 := hb.size
  go_ret
  exact ⟨_, rfl, ⟨_, rfl, _, rfl, g⟩, hx⟩

theorem kN_lt (t : T) : ((kN t : Nat) : Int) < 2 ↔ (t.isZero = true ∨ t.isOne = true) := by cases t <;> simp [kN, T.isZero, T.isOne]

set_option maxRecDepth 100000 in
set_option maxHeartbeats 1000000 in
theorem rpair_leaf {l r : T} {vl vr : Value} {w : World} (hl : (IsRef l).p vl w) (hr : (IsRef r).p vr w) (he : (((kN l : Nat) : Int) == ((kN r : Nat) : Int)) = true) (h2 : decide (((kN l : Nat) : Int) < 2) = true) :
    Calls Try.prog 40 #[vl, vr] w (Ret w (IsRef l).p) := by
  obtain ⟨pl, rfl, hl⟩ := hl
  obtain ⟨pr, rfl, hr⟩ := hr
  obtain ⟨kl, ll, lr, rfl, gl⟩ := hl.blk
  obtain ⟨kr, rl, rr, rfl, gr⟩ := hr.blk
  go_enter Try.func40, Try.ntmps40
  have gl_0 := gl.c 0 rfl; have glf0 := gl.f 0; have gl_1 := gl.c 1 rfl; have glf1 := gl.f 1; have gl_2 := gl.c 2 rfl; have glf2 := gl.f 2; have gll := gl.lt; have gr_0 := gr.c 0 rfl; have grf0 := gr.f 0; have gr_1 := gr.c 1 rfl; have grf1 := gr.f 1; have gr_2 := gr.c 2 rfl; have grf2 := gr.f 2; have grl := gr.lt
  go_wp2_with fail
  clear gl_0 glf0 gl_1 glf1 gl_2 glf2 gll gr_0 grf0 gr_1 grf1 gr_2 grf2 grl
  have gllt0 := gl.lt
  have grlt0 := gr.lt
  refine wp_facts 16 [] [PP.eq (.pointer (some ⟨kl, 0, none⟩)), PP.eq (.pointer (some ⟨kl, 0, none⟩)), PP.eq (.pointer (some ⟨kl, 0, none⟩)), PP.eq (.int .i64 (kN l : Nat)), PP.eq (.pointer (some ⟨kr, 0, none⟩)), PP.eq (.pointer (some ⟨kr, 0, none⟩)), PP.eq (.pointer (some ⟨kr, 0, none⟩)), PP.eq (.int .i64 (kN r : Nat)), PP.eq (.bool true), PP.eq (.bool true), PP.eq (.pointer (some ⟨kl, 0, none⟩)), PP.eq (.pointer (some ⟨kl, 0, none⟩)), PP.eq (.pointer (some ⟨kl, 0, none⟩)), PP.eq (.int .i64 (kN l : Nat)), PP.eq (.bool true), PP.eq (.bool true)] (by kernel_rfl) (by kernel_rfl) ⟨?o0, ?o1, ?o2, ?o3, ?o4, ?o5, ?o6, ?o7, ?o8, ?o9, ?o10, ?o11, ?o12, ?o13, ?o14, ?o15, trivial⟩ ?rest
  case o0 =>
    intro x0 x1 x2 x3 x4 x5 x6 x7 x8 x9 x10 x11 x12 x13 x14 x15 w' hE
    rintro R hR
    simp only [putAll, List.take, List.drop, List.map, Act.put, List.setIfInBounds_toArray, List.set_cons_zero, List.set_cons_succ]
    go_simp
    exact hR _ _ (Ext.refl _) (rfl) trivial
  case o1 =>
    intro x0 x1 x2 x3 x4 x5 x6 x7 x8 x9 x10 x11 x12 x13 x14 x15 w' hE
    rintro rfl R hR
    simp only [putAll, List.take, List.drop, List.map, Act.put, List.setIfInBounds_toArray, List.set_cons_zero, List.set_cons_succ]
    go_simp
    exact hR _ _ (Ext.refl _) (rfl) trivial
  case o2 =>
    intro x0 x1 x2 x3 x4 x5 x6 x7 x8 x9 x10 x11 x12 x13 x14 x15 w' hE
    rintro rfl R hR
    simp only [putAll, List.take, List.drop, List.map, Act.put, List.setIfInBounds_toArray, List.set_cons_zero, List.set_cons_succ]
    go_simp
    exact hR _ _ (Ext.refl _) (rfl) trivial
  case o3 =>
    intro x0 x1 x2 x3 x4 x5 x6 x7 x8 x9 x10 x11 x12 x13 x14 x15 w' hE
    rintro rfl R hR
    have qgl0 := (gl.ext hE).c 0 rfl
    have qgl1 := (gl.ext hE).c 1 rfl
    have qgl2 := (gl.ext hE).c 2 rfl
    simp only [putAll, List.take, List.drop, List.map, Act.put, List.setIfInBounds_toArray, List.set_cons_zero, List.set_cons_succ]
    go_simp
    exact hR _ _ (Ext.refl _) (rfl) trivial
  case o4 =>
    intro x0 x1 x2 x3 x4 x5 x6 x7 x8 x9 x10 x11 x12 x13 x14 x15 w' hE
    rintro R hR
    simp only [putAll, List.take, List.drop, List.map, Act.put, List.setIfInBounds_toArray, List.set_cons_zero, List.set_cons_succ]
    go_simp
    exact hR _ _ (Ext.refl _) (rfl) trivial
  case o5 =>
    intro x0 x1 x2 x3 x4 x5 x6 x7 x8 x9 x10 x11 x12 x13 x14 x15 w' hE
    rintro rfl R hR
    simp only [putAll, List.take, List.drop, List.map, Act.put, List.setIfInBounds_toArray, List.set_cons_zero, List.set_cons_succ]
    go_simp
    exact hR _ _ (Ext.refl _) (rfl) trivial
  case o6 =>
    intro x0 x1 x2 x3 x4 x5 x6 x7 x8 x9 x10 x11 x12 x13 x14 x15 w' hE
    rintro rfl R hR
    simp only [putAll, List.take, List.drop, List.map, Act.put, List.setIfInBounds_toArray, List.set_cons_zero, List.set_cons_succ]
    go_simp
    exact hR _ _ (Ext.refl _) (rfl) trivial
  case o7 =>
    intro x0 x1 x2 x3 x4 x5 x6 x7 x8 x9 x10 x11 x12 x13 x14 x15 w' hE
    rintro rfl R hR
    have qgr0 := (gr.ext hE).c 0 rfl
    have qgr1 := (gr.ext hE).c 1 rfl
    have qgr2 := (gr.ext hE).c 2 rfl
    simp only [putAll, List.take, List.drop, List.map, Act.put, List.setIfInBounds_toArray, List.set_cons_zero, List.set_cons_succ]
    go_simp
    exact hR _ _ (Ext.refl _) (rfl) trivial
  case o8 =>
    intro x0 x1 x2 x3 x4 x5 x6 x7 x8 x9 x10 x11 x12 x13 x14 x15 w' hE
    rintro rfl rfl R hR
    simp only [putAll, List.take, List.drop, List.map, Act.put, List.setIfInBounds_toArray, List.set_cons_zero, List.set_cons_succ]
    go_simp
    exact hR _ _ (Ext.refl _) (rfl) trivial
  case o9 =>
    intro x0 x1 x2 x3 x4 x5 x6 x7 x8 x9 x10 x11 x12 x13 x14 x15 w' hE
    rintro rfl R hR
    simp only [putAll, List.take, List.drop, List.map, Act.put, List.setIfInBounds_toArray, List.set_cons_zero, List.set_cons_succ]
    go_simp
    exact hR _ _ (Ext.refl _) (rfl) trivial
  case o10 =>
    intro x0 x1 x2 x3 x4 x5 x6 x7 x8 x9 x10 x11 x12 x13 x14 x15 w' hE
    rintro rfl R hR
    simp only [putAll, List.take, List.drop, List.map, Act.put, List.setIfInBounds_toArray, List.set_cons_zero, List.set_cons_succ]
    go_simp
    exact hR _ _ (Ext.refl _) (rfl) trivial
  case o11 =>
    intro x0 x1 x2 x3 x4 x5 x6 x7 x8 x9 x10 x11 x12 x13 x14 x15 w' hE
    rintro rfl rfl R hR
    simp only [putAll, List.take, List.drop, List.map, Act.put, List.setIfInBounds_toArray, List.set_cons_zero, List.set_cons_succ]
    go_simp
    exact hR _ _ (Ext.refl _) (rfl) trivial
  case o12 =>
    intro x0 x1 x2 x3 x4 x5 x6 x7 x8 x9 x10 x11 x12 x13 x14 x15 w' hE
    rintro rfl rfl R hR
    simp only [putAll, List.take, List.drop, List.map, Act.put, List.setIfInBounds_toArray, List.set_cons_zero, List.set_cons_succ]
    go_simp
    exact hR _ _ (Ext.refl _) (rfl) trivial
  case o13 =>
    intro x0 x1 x2 x3 x4 x5 x6 x7 x8 x9 x10 x11 x12 x13 x14 x15 w' hE
    rintro rfl rfl R hR
    have qgl0 := (gl.ext hE).c 0 rfl
    have qgl1 := (gl.ext hE).c 1 rfl
    have qgl2 := (gl.ext hE).c 2 rfl
    simp only [putAll, List.take, List.drop, List.map, Act.put, List.setIfInBounds_toArray, List.set_cons_zero, List.set_cons_succ]
    go_simp
    exact hR _ _ (Ext.refl _) (rfl) trivial
  case o14 =>
    intro x0 x1 x2 x3 x4 x5 x6 x7 x8 x9 x10 x11 x12 x13 x14 x15 w' hE
    rintro rfl rfl R hR
    simp only [putAll, List.take, List.drop, List.map, Act.put, List.setIfInBounds_toArray, List.set_cons_zero, List.set_cons_succ]
    go_simp
    exact hR _ _ (Ext.refl _) (rfl) trivial
  case o15 =>
    intro x0 x1 x2 x3 x4 x5 x6 x7 x8 x9 x10 x11 x12 x13 x14 x15 w' hE
    rintro rfl rfl R hR
    simp only [putAll, List.take, List.drop, List.map, Act.put, List.setIfInBounds_toArray, List.set_cons_zero, List.set_cons_succ]
    go_simp
    exact hR _ _ (Ext.refl _) (rfl) trivial
  case rest =>
    intro x0 x1 x2 x3 x4 x5 x6 x7 x8 x9 x10 x11 x12 x13 x14 x15 w1 hb
    rintro rfl rfl rfl rfl rfl rfl rfl rfl rfl rfl rfl rfl rfl rfl rfl rfl hap
    have hx := hb; replace gl := gl.ext hb; replace gr := gr.ext hb; have s1 := hb.size
    clear hap
    simp only [putAll, List.take, List.drop, List.map, Act.put, List.setIfInBounds_toArray, List.set_cons_zero, List.set_cons_succ]
    have gl_0 := gl.c 0 rfl; have glf0 := gl.f 0; have gl_1 := gl.c 1 rfl; have glf1 := gl.f 1; have gl_2 := gl.c 2 rfl; have glf2 := gl.f 2; have gll := gl.lt; have gr_0 := gr.c 0 rfl; have grf0 := gr.f 0; have gr_1 := gr.c 1 rfl; have grf1 := gr.f 1; have gr_2 := gr.c 2 rfl; have grf2 := gr.f 2; have grl := gr.lt
    go_wp2_with fail
    clear gl_0 glf0 gl_1 glf1 gl_2 glf2 gll gr_0 grf0 gr_1 grf1 gr_2 grf2 grl
    go_ret
    exact ⟨_, rfl, ⟨_, rfl, hl.ext hx⟩, hx⟩

set_option maxRecDepth 100000 in
set_option maxHeartbeats 1000000 in
theorem rpair_ne {l r : T} {vl vr : Value} {w : World} (hl : (IsRef l).p vl w) (hr : (IsRef r).p vr w) (he : (((kN l : Nat) : Int) == ((kN r : Nat) : Int)) = false) :
    Calls Try.prog 40 #[vl, vr] w (Ret w (IsRef (.node l r)).p) := by
  obtain ⟨pl, rfl, hl⟩ := hl
  obtain ⟨pr, rfl, hr⟩ := hr
  obtain ⟨kl, ll, lr, rfl, gl⟩ := hl.blk
  obtain ⟨kr, rl, rr, rfl, gr⟩ := hr.blk
  go_enter Try.func40, Try.ntmps40
  have gl_0 := gl.c 0 rfl; have glf0 := gl.f 0; have gl_1 := gl.c 1 rfl; have glf1 := gl.f 1; have gl_2 := gl.c 2 rfl; have glf2 := gl.f 2; have gll := gl.lt; have gr_0 := gr.c 0 rfl; have grf0 := gr.f 0; have gr_1 := gr.c 1 rfl; have grf1 := gr.f 1; have gr_2 := gr.c 2 rfl; have grf2 := gr.f 2; have grl := gr.lt
  go_wp2_with fail
  clear gl_0 glf0 gl_1 glf1 gl_2 glf2 gll gr_0 grf0 gr_1 grf1 gr_2 grf2 grl
  have gllt0 := gl.lt
  have grlt0 := gr.lt
  refine wp_facts 16 [] [PP.eq (.pointer (some ⟨kl, 0, none⟩)), PP.eq (.pointer (some ⟨kl, 0, none⟩)), PP.eq (.pointer (some ⟨kl, 0, none⟩)), PP.eq (.int .i64 (kN l : Nat)), PP.eq (.pointer (some ⟨kr, 0, none⟩)), PP.eq (.pointer (some ⟨kr, 0, none⟩)), PP.eq (.pointer (some ⟨kr, 0, none⟩)), PP.eq (.int .i64 (kN r : Nat)), PP.eq (.bool false), PP.eq (.bool false), PP.eq (undef), PP.eq (undef), PP.eq (undef), PP.eq (undef), PP.eq (undef), PP.eq (.bool false)] (by kernel_rfl) (by kernel_rfl) ⟨?o0, ?o1, ?o2, ?o3, ?o4, ?o5, ?o6, ?o7, ?o8, ?o9, ?o10, ?o11, ?o12, ?o13, ?o14, ?o15, trivial⟩ ?rest
  case o0 =>
    intro x0 x1 x2 x3 x4 x5 x6 x7 x8 x9 x10 x11 x12 x13 x14 x15 w' hE
    rintro R hR
    simp only [putAll, List.take, List.drop, List.map, Act.put, List.setIfInBounds_toArray, List.set_cons_zero, List.set_cons_succ]
    go_simp
    exact hR _ _ (Ext.refl _) (rfl) trivial
  case o1 =>
    intro x0 x1 x2 x3 x4 x5 x6 x7 x8 x9 x10 x11 x12 x13 x14 x15 w' hE
    rintro rfl R hR
    simp only [putAll, List.take, List.drop, List.map, Act.put, List.setIfInBounds_toArray, List.set_cons_zero, List.set_cons_succ]
    go_simp
    exact hR _ _ (Ext.refl _) (rfl) trivial
  case o2 =>
    intro x0 x1 x2 x3 x4 x5 x6 x7 x8 x9 x10 x11 x12 x13 x14 x15 w' hE
    rintro rfl R hR
    simp only [putAll, List.take, List.drop, List.map, Act.put, List.setIfInBounds_toArray, List.set_cons_zero, List.set_cons_succ]
    go_simp
    exact hR _ _ (Ext.refl _) (rfl) trivial
  case o3 =>
    intro x0 x1 x2 x3 x4 x5 x6 x7 x8 x9 x10 x11 x12 x13 x14 x15 w' hE
    rintro rfl R hR
    have qgl0 := (gl.ext hE).c 0 rfl
    have qgl1 := (gl.ext hE).c 1 rfl
    have qgl2 := (gl.ext hE).c 2 rfl
    simp only [putAll, List.take, List.drop, List.map, Act.put, List.setIfInBounds_toArray, List.set_cons_zero, List.set_cons_succ]
    go_simp
    exact hR _ _ (Ext.refl _) (rfl) trivial
  case o4 =>
    intro x0 x1 x2 x3 x4 x5 x6 x7 x8 x9 x10 x11 x12 x13 x14 x15 w' hE
    rintro R hR
    simp only [putAll, List.take, List.drop, List.map, Act.put, List.setIfInBounds_toArray, List.set_cons_zero, List.set_cons_succ]
    go_simp
    exact hR _ _ (Ext.refl _) (rfl) trivial
  case o5 =>
    intro x0 x1 x2 x3 x4 x5 x6 x7 x8 x9 x10 x11 x12 x13 x14 x15 w' hE
    rintro rfl R hR
    simp only [putAll, List.take, List.drop, List.map, Act.put, List.setIfInBounds_toArray, List.set_cons_zero, List.set_cons_succ]
    go_simp
    exact hR _ _ (Ext.refl _) (rfl) trivial
  case o6 =>
    intro x0 x1 x2 x3 x4 x5 x6 x7 x8 x9 x10 x11 x12 x13 x14 x15 w' hE
    rintro rfl R hR
    simp only [putAll, List.take, List.drop, List.map, Act.put, List.setIfInBounds_toArray, List.set_cons_zero, List.set_cons_succ]
    go_simp
    exact hR _ _ (Ext.refl _) (rfl) trivial
  case o7 =>
    intro x0 x1 x2 x3 x4 x5 x6 x7 x8 x9 x10 x11 x12 x13 x14 x15 w' hE
    rintro rfl R hR
    have qgr0 := (gr.ext hE).c 0 rfl
    have qgr1 := (gr.ext hE).c 1 rfl
    have qgr2 := (gr.ext hE).c 2 rfl
    simp only [putAll, List.take, List.drop, List.map, Act.put, List.setIfInBounds_toArray, List.set_cons_zero, List.set_cons_succ]
    go_simp
    exact hR _ _ (Ext.refl _) (rfl) trivial
  case o8 =>
    intro x0 x1 x2 x3 x4 x5 x6 x7 x8 x9 x10 x11 x12 x13 x14 x15 w' hE
    rintro rfl rfl R hR
    simp only [putAll, List.take, List.drop, List.map, Act.put, List.setIfInBounds_toArray, List.set_cons_zero, List.set_cons_succ]
    go_simp
    exact hR _ _ (Ext.refl _) (rfl) trivial
  case o9 =>
    intro x0 x1 x2 x3 x4 x5 x6 x7 x8 x9 x10 x11 x12 x13 x14 x15 w' hE
    rintro rfl R hR
    simp only [putAll, List.take, List.drop, List.map, Act.put, List.setIfInBounds_toArray, List.set_cons_zero, List.set_cons_succ]
    go_simp
    exact hR _ _ (Ext.refl _) (rfl) trivial
  case o10 =>
    intro x0 x1 x2 x3 x4 x5 x6 x7 x8 x9 x10 x11 x12 x13 x14 x15 w' hE
    rintro rfl R hR
    simp only [putAll, List.take, List.drop, List.map, Act.put, List.setIfInBounds_toArray, List.set_cons_zero, List.set_cons_succ]
    go_simp
    exact hR _ _ (Ext.refl _) (rfl) trivial
  case o11 =>
    intro x0 x1 x2 x3 x4 x5 x6 x7 x8 x9 x10 x11 x12 x13 x14 x15 w' hE
    rintro rfl rfl R hR
    simp only [putAll, List.take, List.drop, List.map, Act.put, List.setIfInBounds_toArray, List.set_cons_zero, List.set_cons_succ]
    go_simp
    exact hR _ _ (Ext.refl _) (rfl) trivial
  case o12 =>
    intro x0 x1 x2 x3 x4 x5 x6 x7 x8 x9 x10 x11 x12 x13 x14 x15 w' hE
    rintro rfl rfl R hR
    simp only [putAll, List.take, List.drop, List.map, Act.put, List.setIfInBounds_toArray, List.set_cons_zero, List.set_cons_succ]
    go_simp
    exact hR _ _ (Ext.refl _) (rfl) trivial
  case o13 =>
    intro x0 x1 x2 x3 x4 x5 x6 x7 x8 x9 x10 x11 x12 x13 x14 x15 w' hE
    rintro rfl rfl R hR
    simp only [putAll, List.take, List.drop, List.map, Act.put, List.setIfInBounds_toArray, List.set_cons_zero, List.set_cons_succ]
    go_simp
    exact hR _ _ (Ext.refl _) (rfl) trivial
  case o14 =>
    intro x0 x1 x2 x3 x4 x5 x6 x7 x8 x9 x10 x11 x12 x13 x14 x15 w' hE
    rintro rfl rfl R hR
    simp only [putAll, List.take, List.drop, List.map, Act.put, List.setIfInBounds_toArray, List.set_cons_zero, List.set_cons_succ]
    go_simp
    exact hR _ _ (Ext.refl _) (rfl) trivial
  case o15 =>
    intro x0 x1 x2 x3 x4 x5 x6 x7 x8 x9 x10 x11 x12 x13 x14 x15 w' hE
    rintro rfl rfl R hR
    simp only [putAll, List.take, List.drop, List.map, Act.put, List.setIfInBounds_toArray, List.set_cons_zero, List.set_cons_succ]
    go_simp
    exact hR _ _ (Ext.refl _) (rfl) trivial
  case rest =>
    intro x0 x1 x2 x3 x4 x5 x6 x7 x8 x9 x10 x11 x12 x13 x14 x15 w1 hb
    rintro rfl rfl rfl rfl rfl rfl rfl rfl rfl rfl rfl rfl rfl rfl rfl rfl hap
    have hx := hb; replace gl := gl.ext hb; replace gr := gr.ext hb; have s1 := hb.size
    clear hap
    simp only [putAll, List.take, List.drop, List.map, Act.put, List.setIfInBounds_toArray, List.set_cons_zero, List.set_cons_succ]
    have gl_0 := gl.c 0 rfl; have glf0 := gl.f 0; have gl_1 := gl.c 1 rfl; have glf1 := gl.f 1; have gl_2 := gl.c 2 rfl; have glf2 := gl.f 2; have gll := gl.lt; have gr_0 := gr.c 0 rfl; have grf0 := gr.f 0; have gr_1 := gr.c 1 rfl; have grf1 := gr.f 1; have gr_2 := gr.c 2 rfl; have grf2 := gr.f 2; have grl := gr.lt
    go_wp2_with fail
    clear gl_0 glf0 gl_1 glf1 gl_2 glf2 gll gr_0 grf0 gr_1 grf1 gr_2 grf2 grl
    have gllt2 := gl.lt
    have grlt2 := gr.lt
    obtain ⟨w2, hW, hb, z2, g⟩ := box1 w1 [.int .i64 2, .pointer (some ⟨kl, 0, none⟩), .pointer (some ⟨kr, 0, none⟩)] 62
    rw [hW]; clear hW
    replace hx := Ext.trans hx hb; replace gl := gl.ext hb; replace gr := gr.ext hb; have s3 := hb.size
    go_ret
    exact ⟨_, rfl, ⟨_, rfl, _, _, _, rfl, g, hl.ext hx, hr.ext hx⟩, hx⟩

set_option maxRecDepth 100000 in
set_option maxHeartbeats 1000000 in
theorem rpair_nn {l r : T} {vl vr : Value} {w : World} (hl : (IsRef l).p vl w) (hr : (IsRef r).p vr w) (he : (((kN l : Nat) : Int) == ((kN r : Nat) : Int)) = true) (h2 : decide (((kN l : Nat) : Int) < 2) = false) :
    Calls Try.prog 40 #[vl, vr] w (Ret w (IsRef (.node l r)).p) := by
  obtain ⟨pl, rfl, hl⟩ := hl
  obtain ⟨pr, rfl, hr⟩ := hr
  obtain ⟨kl, ll, lr, rfl, gl⟩ := hl.blk
  obtain ⟨kr, rl, rr, rfl, gr⟩ := hr.blk
  go_enter Try.func40, Try.ntmps40
  have gl_0 := gl.c 0 rfl; have glf0 := gl.f 0; have gl_1 := gl.c 1 rfl; have glf1 := gl.f 1; have gl_2 := gl.c 2 rfl; have glf2 := gl.f 2; have gll := gl.lt; have gr_0 := gr.c 0 rfl; have grf0 := gr.f 0; have gr_1 := gr.c 1 rfl; have grf1 := gr.f 1; have gr_2 := gr.c 2 rfl; have grf2 := gr.f 2; have grl := gr.lt
  go_wp2_with fail
  clear gl_0 glf0 gl_1 glf1 gl_2 glf2 gll gr_0 grf0 gr_1 grf1 gr_2 grf2 grl
  have gllt0 := gl.lt
  have grlt0 := gr.lt
  refine wp_facts 16 [] [PP.eq (.pointer (some ⟨kl, 0, none⟩)), PP.eq (.pointer (some ⟨kl, 0, none⟩)), PP.eq (.pointer (some ⟨kl, 0, none⟩)), PP.eq (.int .i64 (kN l : Nat)), PP.eq (.pointer (some ⟨kr, 0, none⟩)), PP.eq (.pointer (some ⟨kr, 0, none⟩)), PP.eq (.pointer (some ⟨kr, 0, none⟩)), PP.eq (.int .i64 (kN r : Nat)), PP.eq (.bool true), PP.eq (.bool true), PP.eq (.pointer (some ⟨kl, 0, none⟩)), PP.eq (.pointer (some ⟨kl, 0, none⟩)), PP.eq (.pointer (some ⟨kl, 0, none⟩)), PP.eq (.int .i64 (kN l : Nat)), PP.eq (.bool false), PP.eq (.bool false)] (by kernel_rfl) (by kernel_rfl) ⟨?o0, ?o1, ?o2, ?o3, ?o4, ?o5, ?o6, ?o7, ?o8, ?o9, ?o10, ?o11, ?o12, ?o13, ?o14, ?o15, trivial⟩ ?rest
  case o0 =>
    intro x0 x1 x2 x3 x4 x5 x6 x7 x8 x9 x10 x11 x12 x13 x14 x15 w' hE
    rintro R hR
    simp only [putAll, List.take, List.drop, List.map, Act.put, List.setIfInBounds_toArray, List.set_cons_zero, List.set_cons_succ]
    go_simp
    exact hR _ _ (Ext.refl _) (rfl) trivial
  case o1 =>
    intro x0 x1 x2 x3 x4 x5 x6 x7 x8 x9 x10 x11 x12 x13 x14 x15 w' hE
    rintro rfl R hR
    simp only [putAll, List.take, List.drop, List.map, Act.put, List.setIfInBounds_toArray, List.set_cons_zero, List.set_cons_succ]
    go_simp
    exact hR _ _ (Ext.refl _) (rfl) trivial
  case o2 =>
    intro x0 x1 x2 x3 x4 x5 x6 x7 x8 x9 x10 x11 x12 x13 x14 x15 w' hE
    rintro rfl R hR
    simp only [putAll, List.take, List.drop, List.map, Act.put, List.setIfInBounds_toArray, List.set_cons_zero, List.set_cons_succ]
    go_simp
    exact hR _ _ (Ext.refl _) (rfl) trivial
  case o3 =>
    intro x0 x1 x2 x3 x4 x5 x6 x7 x8 x9 x10 x11 x12 x13 x14 x15 w' hE
    rintro rfl R hR
    have qgl0 := (gl.ext hE).c 0 rfl
    have qgl1 := (gl.ext hE).c 1 rfl
    have qgl2 := (gl.ext hE).c 2 rfl
    simp only [putAll, List.take, List.drop, List.map, Act.put, List.setIfInBounds_toArray, List.set_cons_zero, List.set_cons_succ]
    go_simp
    exact hR _ _ (Ext.refl _) (rfl) trivial
  case o4 =>
    intro x0 x1 x2 x3 x4 x5 x6 x7 x8 x9 x10 x11 x12 x13 x14 x15 w' hE
    rintro R hR
    simp only [putAll, List.take, List.drop, List.map, Act.put, List.setIfInBounds_toArray, List.set_cons_zero, List.set_cons_succ]
    go_simp
    exact hR _ _ (Ext.refl _) (rfl) trivial
  case o5 =>
    intro x0 x1 x2 x3 x4 x5 x6 x7 x8 x9 x10 x11 x12 x13 x14 x15 w' hE
    rintro rfl R hR
    simp only [putAll, List.take, List.drop, List.map, Act.put, List.setIfInBounds_toArray, List.set_cons_zero, List.set_cons_succ]
    go_simp
    exact hR _ _ (Ext.refl _) (rfl) trivial
  case o6 =>
    intro x0 x1 x2 x3 x4 x5 x6 x7 x8 x9 x10 x11 x12 x13 x14 x15 w' hE
    rintro rfl R hR
    simp only [putAll, List.take, List.drop, List.map, Act.put, List.setIfInBounds_toArray, List.set_cons_zero, List.set_cons_succ]
    go_simp
    exact hR _ _ (Ext.refl _) (rfl) trivial
  case o7 =>
    intro x0 x1 x2 x3 x4 x5 x6 x7 x8 x9 x10 x11 x12 x13 x14 x15 w' hE
    rintro rfl R hR
    have qgr0 := (gr.ext hE).c 0 rfl
    have qgr1 := (gr.ext hE).c 1 rfl
    have qgr2 := (gr.ext hE).c 2 rfl
    simp only [putAll, List.take, List.drop, List.map, Act.put, List.setIfInBounds_toArray, List.set_cons_zero, List.set_cons_succ]
    go_simp
    exact hR _ _ (Ext.refl _) (rfl) trivial
  case o8 =>
    intro x0 x1 x2 x3 x4 x5 x6 x7 x8 x9 x10 x11 x12 x13 x14 x15 w' hE
    rintro rfl rfl R hR
    simp only [putAll, List.take, List.drop, List.map, Act.put, List.setIfInBounds_toArray, List.set_cons_zero, List.set_cons_succ]
    go_simp
    exact hR _ _ (Ext.refl _) (rfl) trivial
  case o9 =>
    intro x0 x1 x2 x3 x4 x5 x6 x7 x8 x9 x10 x11 x12 x13 x14 x15 w' hE
    rintro rfl R hR
    simp only [putAll, List.take, List.drop, List.map, Act.put, List.setIfInBounds_toArray, List.set_cons_zero, List.set_cons_succ]
    go_simp
    exact hR _ _ (Ext.refl _) (rfl) trivial
  case o10 =>
    intro x0 x1 x2 x3 x4 x5 x6 x7 x8 x9 x10 x11 x12 x13 x14 x15 w' hE
    rintro rfl R hR
    simp only [putAll, List.take, List.drop, List.map, Act.put, List.setIfInBounds_toArray, List.set_cons_zero, List.set_cons_succ]
    go_simp
    exact hR _ _ (Ext.refl _) (rfl) trivial
  case o11 =>
    intro x0 x1 x2 x3 x4 x5 x6 x7 x8 x9 x10 x11 x12 x13 x14 x15 w' hE
    rintro rfl rfl R hR
    simp only [putAll, List.take, List.drop, List.map, Act.put, List.setIfInBounds_toArray, List.set_cons_zero, List.set_cons_succ]
    go_simp
    exact hR _ _ (Ext.refl _) (rfl) trivial
  case o12 =>
    intro x0 x1 x2 x3 x4 x5 x6 x7 x8 x9 x10 x11 x12 x13 x14 x15 w' hE
    rintro rfl rfl R hR
    simp only [putAll, List.take, List.drop, List.map, Act.put, List.setIfInBounds_toArray, List.set_cons_zero, List.set_cons_succ]
    go_simp
    exact hR _ _ (Ext.refl _) (rfl) trivial
  case o13 =>
    intro x0 x1 x2 x3 x4 x5 x6 x7 x8 x9 x10 x11 x12 x13 x14 x15 w' hE
    rintro rfl rfl R hR
    have qgl0 := (gl.ext hE).c 0 rfl
    have qgl1 := (gl.ext hE).c 1 rfl
    have qgl2 := (gl.ext hE).c 2 rfl
    simp only [putAll, List.take, List.drop, List.map, Act.put, List.setIfInBounds_toArray, List.set_cons_zero, List.set_cons_succ]
    go_simp
    exact hR _ _ (Ext.refl _) (rfl) trivial
  case o14 =>
    intro x0 x1 x2 x3 x4 x5 x6 x7 x8 x9 x10 x11 x12 x13 x14 x15 w' hE
    rintro rfl rfl R hR
    simp only [putAll, List.take, List.drop, List.map, Act.put, List.setIfInBounds_toArray, List.set_cons_zero, List.set_cons_succ]
    go_simp
    exact hR _ _ (Ext.refl _) (rfl) trivial
  case o15 =>
    intro x0 x1 x2 x3 x4 x5 x6 x7 x8 x9 x10 x11 x12 x13 x14 x15 w' hE
    rintro rfl rfl R hR
    simp only [putAll, List.take, List.drop, List.map, Act.put, List.setIfInBounds_toArray, List.set_cons_zero, List.set_cons_succ]
    go_simp
    exact hR _ _ (Ext.refl _) (rfl) trivial
  case rest =>
    intro x0 x1 x2 x3 x4 x5 x6 x7 x8 x9 x10 x11 x12 x13 x14 x15 w1 hb
    rintro rfl rfl rfl rfl rfl rfl rfl rfl rfl rfl rfl rfl rfl rfl rfl rfl hap
    have hx := hb; replace gl := gl.ext hb; replace gr := gr.ext hb; have s1 := hb.size
    clear hap
    simp only [putAll, List.take, List.drop, List.map, Act.put, List.setIfInBounds_toArray, List.set_cons_zero, List.set_cons_succ]
    have gl_0 := gl.c 0 rfl; have glf0 := gl.f 0; have gl_1 := gl.c 1 rfl; have glf1 := gl.f 1; have gl_2 := gl.c 2 rfl; have glf2 := gl.f 2; have gll := gl.lt; have gr_0 := gr.c 0 rfl; have grf0 := gr.f 0; have gr_1 := gr.c 1 rfl; have grf1 := gr.f 1; have gr_2 := gr.c 2 rfl; have grf2 := gr.f 2; have grl := gr.lt
    go_wp2_with fail
    clear gl_0 glf0 gl_1 glf1 gl_2 glf2 gll gr_0 grf0 gr_1 grf1 gr_2 grf2 grl
    have gllt2 := gl.lt
    have grlt2 := gr.lt
    obtain ⟨w2, hW, hb, z2, g⟩ := box1 w1 [.int .i64 2, .pointer (some ⟨kl, 0, none⟩), .pointer (some ⟨kr, 0, none⟩)] 62
    rw [hW]; clear hW
    replace hx := Ext.trans hx hb; replace gl := gl.ext hb; replace gr := gr.ext hb; have s3 := hb.size
    go_ret
    exact ⟨_, rfl, ⟨_, rfl, _, _, _, rfl, g, hl.ext hx, hr.ext hx⟩, hx⟩

theorem rpair_c {l r : T} {vl vr : Value} {w : World} (hl : (IsRef l).p vl w) (hr : (IsRef r).p vr w) : Calls Try.prog 40 #[vl, vr] w (Ret w (IsRef (T.mk l r)).p) := by
  cases l with
  | zero =>
    cases r with
    | zero => exact rpair_leaf hl hr rfl (by decide)
    | one => exact rpair_ne hl hr rfl
    | node a b => exact rpair_ne hl hr rfl
  | one =>
    cases r with
    | zero => exact rpair_ne hl hr rfl
    | one => exact rpair_leaf hl hr rfl (by decide)
    | node a b => exact rpair_ne hl hr rfl
  | node a b =>
    cases r with
    | zero => exact rpair_ne hl hr rfl
    | one => exact rpair_ne hl hr rfl
    | node c d => exact rpair_nn hl hr rfl (by rfl)

set_option maxRecDepth 100000 in
set_option maxHeartbeats 400000 in
theorem rdepth_zero {v : Value} {w : World} (h : (IsRef .zero).p v w) :
    Calls Try.prog 38 #[v] w (Ret w (PP.eq (.int .i64 0)).p) := by
  obtain ⟨p, rfl, k, rfl, g⟩ := h
  go_enter Try.func38, Try.ntmps38
  have g_0 := g.c 0 rfl; have gf0 := g.f 0; have g_1 := g.c 1 rfl; have gf1 := g.f 1; have g_2 := g.c 2 rfl; have gf2 := g.f 2; have gl := g.lt
  go_wp2_with fail
  clear g_0 gf0 g_1 gf1 g_2 gf2 gl
  go_ret
  exact ⟨_, rfl, rfl, Ext.refl _⟩

set_option maxRecDepth 100000 in
set_option maxHeartbeats 400000 in
theorem rdepth_one {v : Value} {w : World} (h : (IsRef .one).p v w) :
    Calls Try.prog 38 #[v] w (Ret w (PP.eq (.int .i64 0)).p) := by
  obtain ⟨p, rfl, k, rfl, g⟩ := h
  go_enter Try.func38, Try.ntmps38
  have g_0 := g.c 0 rfl; have gf0 := g.f 0; have g_1 := g.c 1 rfl; have gf1 := g.f 1; have g_2 := g.c 2 rfl; have gf2 := g.f 2; have gl := g.lt
  go_wp2_with fail
  clear g_0 gf0 g_1 gf1 g_2 gf2 gl
  go_ret
  exact ⟨_, rfl, rfl, Ext.refl _⟩

set_option maxRecDepth 100000 in
set_option maxHeartbeats 1000000 in
theorem rdepth_node {l r : T} {v : Value} {w : World} (h : (IsRef (.node l r)).p v w) (hdl : l.depth ≤ 1000) (hdr : r.depth ≤ 1000) (ihl : ∀ (v : Value) (w : World), (IsRef l).p v w → Calls Try.prog 38 #[v] w (Ret w (PP.eq (.int .i64 (l.depth : Nat))).p)) (ihr : ∀ (v : Value) (w : World), (IsRef r).p v w → Calls Try.prog 38 #[v] w (Ret w (PP.eq (.int .i64 (r.depth : Nat))).p)) :
    Calls Try.prog 38 #[v] w (Ret w (PP.eq (.int .i64 ((T.node l r).depth : Nat))).p) := by
  have IHL := Lib.hid ihl; have IHR := Lib.hid ihr; clear ihl ihr
  obtain ⟨p, rfl, k, pl, pr, rfl, g, hl, hr⟩ := h
  go_enter Try.func38, Try.ntmps38
  have g_0 := g.c 0 rfl; have gf0 := g.f 0; have g_1 := g.c 1 rfl; have gf1 := g.f 1; have g_2 := g.c 2 rfl; have gf2 := g.f 2; have gl := g.lt
  go_wp2_with fail
  clear g_0 gf0 g_1 gf1 g_2 gf2 gl
  have glt0 := g.lt
  refine wp_facts 10 [] [PP.eq (.pointer (some ⟨k, 0, none⟩)), PP.eq (.pointer (some ⟨k, 0, none⟩)), PP.eq (.pointer (some ⟨k, 1, none⟩)), PP.eq (.pointer pl), PP.eq (.int .i64 (l.depth : Nat)), PP.eq (.pointer (some ⟨k, 0, none⟩)), PP.eq (.pointer (some ⟨k, 0, none⟩)), PP.eq (.pointer (some ⟨k, 2, none⟩)), PP.eq (.pointer pr), PP.eq (.int .i64 (r.depth : Nat))] (by kernel_rfl) (by kernel_rfl) ⟨?o0, ?o1, ?o2, ?o3, ?o4, ?o5, ?o6, ?o7, ?o8, ?o9, trivial⟩ ?rest
  case o0 =>
    intro x0 x1 x2 x3 x4 x5 x6 x7 x8 x9 w' hE
    rintro R hR
    simp only [putAll, List.take, List.drop, List.map, Act.put, List.setIfInBounds_toArray, List.set_cons_zero, List.set_cons_succ]
    go_simp
    exact hR _ _ (Ext.refl _) (rfl) trivial
  case o1 =>
    intro x0 x1 x2 x3 x4 x5 x6 x7 x8 x9 w' hE
    rintro rfl R hR
    simp only [putAll, List.take, List.drop, List.map, Act.put, List.setIfInBounds_toArray, List.set_cons_zero, List.set_cons_succ]
    go_simp
    exact hR _ _ (Ext.refl _) (rfl) trivial
  case o2 =>
    intro x0 x1 x2 x3 x4 x5 x6 x7 x8 x9 w' hE
    rintro rfl R hR
    simp only [putAll, List.take, List.drop, List.map, Act.put, List.setIfInBounds_toArray, List.set_cons_zero, List.set_cons_succ]
    go_simp
    exact hR _ _ (Ext.refl _) (rfl) trivial
  case o3 =>
    intro x0 x1 x2 x3 x4 x5 x6 x7 x8 x9 w' hE
    rintro rfl R hR
    have qg0 := (g.ext hE).c 0 rfl
    have qg1 := (g.ext hE).c 1 rfl
    have qg2 := (g.ext hE).c 2 rfl
    simp only [putAll, List.take, List.drop, List.map, Act.put, List.setIfInBounds_toArray, List.set_cons_zero, List.set_cons_succ]
    go_simp
    exact hR _ _ (Ext.refl _) (rfl) trivial
  case o4 =>
    intro x0 x1 x2 x3 x4 x5 x6 x7 x8 x9 w' hE
    rintro rfl R hR
    simp only [putAll, List.take, List.drop, List.map, Act.put, List.setIfInBounds_toArray, List.set_cons_zero, List.set_cons_succ]
    go_simp
    refine (IHL.out _ _ ⟨_, rfl, hl.ext hE⟩).mono ?_
    rintro _ w'' ⟨v, rfl, hv, hb⟩
    exact hR _ _ hb hv trivial
  case o5 =>
    intro x0 x1 x2 x3 x4 x5 x6 x7 x8 x9 w' hE
    rintro R hR
    simp only [putAll, List.take, List.drop, List.map, Act.put, List.setIfInBounds_toArray, List.set_cons_zero, List.set_cons_succ]
    go_simp
    exact hR _ _ (Ext.refl _) (rfl) trivial
  case o6 =>
    intro x0 x1 x2 x3 x4 x5 x6 x7 x8 x9 w' hE
    rintro rfl R hR
    simp only [putAll, List.take, List.drop, List.map, Act.put, List.setIfInBounds_toArray, List.set_cons_zero, List.set_cons_succ]
    go_simp
    exact hR _ _ (Ext.refl _) (rfl) trivial
  case o7 =>
    intro x0 x1 x2 x3 x4 x5 x6 x7 x8 x9 w' hE
    rintro rfl R hR
    simp only [putAll, List.take, List.drop, List.map, Act.put, List.setIfInBounds_toArray, List.set_cons_zero, List.set_cons_succ]
    go_simp
    exact hR _ _ (Ext.refl _) (rfl) trivial
  case o8 =>
    intro x0 x1 x2 x3 x4 x5 x6 x7 x8 x9 w' hE
    rintro rfl R hR
    have qg0 := (g.ext hE).c 0 rfl
    have qg1 := (g.ext hE).c 1 rfl
    have qg2 := (g.ext hE).c 2 rfl
    simp only [putAll, List.take, List.drop, List.map, Act.put, List.setIfInBounds_toArray, List.set_cons_zero, List.set_cons_succ]
    go_simp
    exact hR _ _ (Ext.refl _) (rfl) trivial
  case o9 =>
    intro x0 x1 x2 x3 x4 x5 x6 x7 x8 x9 w' hE
    rintro rfl rfl R hR
    simp only [putAll, List.take, List.drop, List.map, Act.put, List.setIfInBounds_toArray, List.set_cons_zero, List.set_cons_succ]
    go_simp
    refine (IHR.out _ _ ⟨_, rfl, hr.ext hE⟩).mono ?_
    rintro _ w'' ⟨v, rfl, hv, hb⟩
    exact hR _ _ hb hv trivial
  case rest =>
    intro x0 x1 x2 x3 x4 x5 x6 x7 x8 x9 w1 hb
    rintro rfl rfl rfl rfl rfl rfl rfl rfl rfl rfl hap
    have hx := hb; replace g := g.ext hb; have s1 := hb.size
    clear hap
    simp only [putAll, List.take, List.drop, List.map, Act.put, List.setIfInBounds_toArray, List.set_cons_zero, List.set_cons_succ]
    by_cases hlt : r.depth < l.depth
    ·
      have ht : decide ((r.depth : Int) < (l.depth : Int)) = true := by simp; omega
      have g_0 := g.c 0 rfl; have gf0 := g.f 0; have g_1 := g.c 1 rfl; have gf1 := g.f 1; have g_2 := g.c 2 rfl; have gf2 := g.f 2; have gl := g.lt
      go_wp2_with fail
      clear g_0 gf0 g_1 gf1 g_2 gf2 gl
      go_ret
      exact ⟨_, rfl, by simp only [T.depth]; exact congrArg (Value.int .i64) (by omega), hx⟩
    ·
      have ht : decide ((r.depth : Int) < (l.depth : Int)) = false := by simp; omega
      have g_0 := g.c 0 rfl; have gf0 := g.f 0; have g_1 := g.c 1 rfl; have gf1 := g.f 1; have g_2 := g.c 2 rfl; have gf2 := g.f 2; have gl := g.lt
      go_wp2_with fail
      clear g_0 gf0 g_1 gf1 g_2 gf2 gl
      go_ret
      exact ⟨_, rfl, by simp only [T.depth]; exact congrArg (Value.int .i64) (by omega), hx⟩

theorem rdepth_c : ∀ (t : T), t.depth ≤ 1000 → ∀ (v : Value) (w : World), (IsRef t).p v w → Calls Try.prog 38 #[v] w (Ret w (PP.eq (.int .i64 (t.depth : Nat))).p)
  | .zero, _, _, _, h => rdepth_zero h
  | .one, _, _, _, h => rdepth_one h
  | .node l r, hd, _, _, h => by
    simp only [T.depth] at hd
    exact rdepth_node h (by omega) (by omega) (rdepth_c l (by omega)) (rdepth_c r (by omega))

theorem ba_cat {a b c : List UInt8} (h : a ++ b = c) : (⟨a.toArray⟩ : ByteArray) ++ (⟨b.toArray⟩ : ByteArray) = ⟨c.toArray⟩ := by
  subst h
  apply ByteArray.ext
  simp

set_option maxRecDepth 100000 in
set_option maxHeartbeats 400000 in
theorem rtext_zero {v : Value} {w : World} (h : (IsRef .zero).p v w) :
    Calls Try.prog 26 #[v] w (Ret w (PP.eq (sv (textT .zero))).p) := by
  obtain ⟨p, rfl, k, rfl, g⟩ := h
  go_enter Try.func26, Try.ntmps26
  have g_0 := g.c 0 rfl; have gf0 := g.f 0; have g_1 := g.c 1 rfl; have gf1 := g.f 1; have g_2 := g.c 2 rfl; have gf2 := g.f 2; have gl := g.lt
  go_wp2_with fail
  clear g_0 gf0 g_1 gf1 g_2 gf2 gl
  go_ret
  exact ⟨_, rfl, rfl, Ext.refl _⟩

set_option maxRecDepth 100000 in
set_option maxHeartbeats 400000 in
theorem rtext_one {v : Value} {w : World} (h : (IsRef .one).p v w) :
    Calls Try.prog 26 #[v] w (Ret w (PP.eq (sv (textT .one))).p) := by
  obtain ⟨p, rfl, k, rfl, g⟩ := h
  go_enter Try.func26, Try.ntmps26
  have g_0 := g.c 0 rfl; have gf0 := g.f 0; have g_1 := g.c 1 rfl; have gf1 := g.f 1; have g_2 := g.c 2 rfl; have gf2 := g.f 2; have gl := g.lt
  go_wp2_with fail
  clear g_0 gf0 g_1 gf1 g_2 gf2 gl
  go_ret
  exact ⟨_, rfl, rfl, Ext.refl _⟩

set_option maxRecDepth 100000 in
set_option maxHeartbeats 1000000 in
theorem rtext_node {l r : T} {v : Value} {w : World} (h : (IsRef (.node l r)).p v w) (hn : (textT (.node l r)).length ≤ 1000000000) (ihl : ∀ (v : Value) (w : World), (IsRef l).p v w → Calls Try.prog 26 #[v] w (Ret w (PP.eq (sv (textT l))).p)) (ihr : ∀ (v : Value) (w : World), (IsRef r).p v w → Calls Try.prog 26 #[v] w (Ret w (PP.eq (sv (textT r))).p)) :
    Calls Try.prog 26 #[v] w (Ret w (PP.eq (sv (textT (.node l r)))).p) := by
  have IHL := Lib.hid ihl; have IHR := Lib.hid ihr; clear ihl ihr
  obtain ⟨p, rfl, k, pl, pr, rfl, g, hl, hr⟩ := h
  go_enter Try.func26, Try.ntmps26
  have g_0 := g.c 0 rfl; have gf0 := g.f 0; have g_1 := g.c 1 rfl; have gf1 := g.f 1; have g_2 := g.c 2 rfl; have gf2 := g.f 2; have gl := g.lt
  go_wp2_with fail
  clear g_0 gf0 g_1 gf1 g_2 gf2 gl
  have hn2 : (textT l).length + (textT r).length + 3 ≤ 1000000000 := by simp [textT] at hn; omega
  have glt0 := g.lt
  refine wp_facts 14 [] [PP.eq (.pointer (some ⟨k, 0, none⟩)), PP.eq (.pointer (some ⟨k, 0, none⟩)), PP.eq (.pointer (some ⟨k, 1, none⟩)), PP.eq (.pointer pl), PP.eq (sv (textT l)), PP.eq (sv ([40] ++ textT l)), PP.eq (sv ([40] ++ textT l ++ [44])), PP.eq (.pointer (some ⟨k, 0, none⟩)), PP.eq (.pointer (some ⟨k, 0, none⟩)), PP.eq (.pointer (some ⟨k, 2, none⟩)), PP.eq (.pointer pr), PP.eq (sv (textT r)), PP.eq (sv ([40] ++ textT l ++ [44] ++ textT r)), PP.eq (sv ([40] ++ textT l ++ [44] ++ textT r ++ [41]))] (by kernel_rfl) (by kernel_rfl) ⟨?o0, ?o1, ?o2, ?o3, ?o4, ?o5, ?o6, ?o7, ?o8, ?o9, ?o10, ?o11, ?o12, ?o13, trivial⟩ ?rest
  case o0 =>
    intro x0 x1 x2 x3 x4 x5 x6 x7 x8 x9 x10 x11 x12 x13 w' hE
    rintro R hR
    simp only [putAll, List.take, List.drop, List.map, Act.put, List.setIfInBounds_toArray, List.set_cons_zero, List.set_cons_succ]
    go_simp
    exact hR _ _ (Ext.refl _) (rfl) trivial
  case o1 =>
    intro x0 x1 x2 x3 x4 x5 x6 x7 x8 x9 x10 x11 x12 x13 w' hE
    rintro rfl R hR
    simp only [putAll, List.take, List.drop, List.map, Act.put, List.setIfInBounds_toArray, List.set_cons_zero, List.set_cons_succ]
    go_simp
    exact hR _ _ (Ext.refl _) (rfl) trivial
  case o2 =>
    intro x0 x1 x2 x3 x4 x5 x6 x7 x8 x9 x10 x11 x12 x13 w' hE
    rintro rfl R hR
    simp only [putAll, List.take, List.drop, List.map, Act.put, List.setIfInBounds_toArray, List.set_cons_zero, List.set_cons_succ]
    go_simp
    exact hR _ _ (Ext.refl _) (rfl) trivial
  case o3 =>
    intro x0 x1 x2 x3 x4 x5 x6 x7 x8 x9 x10 x11 x12 x13 w' hE
    rintro rfl R hR
    have qg0 := (g.ext hE).c 0 rfl
    have qg1 := (g.ext hE).c 1 rfl
    have qg2 := (g.ext hE).c 2 rfl
    simp only [putAll, List.take, List.drop, List.map, Act.put, List.setIfInBounds_toArray, List.set_cons_zero, List.set_cons_succ]
    go_simp
    exact hR _ _ (Ext.refl _) (rfl) trivial
  case o4 =>
    intro x0 x1 x2 x3 x4 x5 x6 x7 x8 x9 x10 x11 x12 x13 w' hE
    rintro rfl R hR
    simp only [putAll, List.take, List.drop, List.map, Act.put, List.setIfInBounds_toArray, List.set_cons_zero, List.set_cons_succ]
    go_simp
    refine (IHL.out _ _ ⟨_, rfl, hl.ext hE⟩).mono ?_
    rintro _ w'' ⟨v, rfl, hv, hb⟩
    exact hR _ _ hb hv trivial
  case o5 =>
    intro x0 x1 x2 x3 x4 x5 x6 x7 x8 x9 x10 x11 x12 x13 w' hE
    rintro rfl R hR
    simp only [putAll, List.take, List.drop, List.map, Act.put, List.setIfInBounds_toArray, List.set_cons_zero, List.set_cons_succ]
    go_simp
    rw [if_neg (by omega)]
    exact hR _ _ (Ext.refl _) ((congrArg Value.string (ba_cat (by simp)) : Value.string _ = Value.string _)) trivial
  case o6 =>
    intro x0 x1 x2 x3 x4 x5 x6 x7 x8 x9 x10 x11 x12 x13 w' hE
    rintro rfl R hR
    simp only [putAll, List.take, List.drop, List.map, Act.put, List.setIfInBounds_toArray, List.set_cons_zero, List.set_cons_succ]
    go_simp
    rw [if_neg (by omega)]
    exact hR _ _ (Ext.refl _) ((congrArg Value.string (ba_cat (by simp)) : Value.string _ = Value.string _)) trivial
  case o7 =>
    intro x0 x1 x2 x3 x4 x5 x6 x7 x8 x9 x10 x11 x12 x13 w' hE
    rintro R hR
    simp only [putAll, List.take, List.drop, List.map, Act.put, List.setIfInBounds_toArray, List.set_cons_zero, List.set_cons_succ]
    go_simp
    exact hR _ _ (Ext.refl _) (rfl) trivial
  case o8 =>
    intro x0 x1 x2 x3 x4 x5 x6 x7 x8 x9 x10 x11 x12 x13 w' hE
    rintro rfl R hR
    simp only [putAll, List.take, List.drop, List.map, Act.put, List.setIfInBounds_toArray, List.set_cons_zero, List.set_cons_succ]
    go_simp
    exact hR _ _ (Ext.refl _) (rfl) trivial
  case o9 =>
    intro x0 x1 x2 x3 x4 x5 x6 x7 x8 x9 x10 x11 x12 x13 w' hE
    rintro rfl R hR
    simp only [putAll, List.take, List.drop, List.map, Act.put, List.setIfInBounds_toArray, List.set_cons_zero, List.set_cons_succ]
    go_simp
    exact hR _ _ (Ext.refl _) (rfl) trivial
  case o10 =>
    intro x0 x1 x2 x3 x4 x5 x6 x7 x8 x9 x10 x11 x12 x13 w' hE
    rintro rfl R hR
    have qg0 := (g.ext hE).c 0 rfl
    have qg1 := (g.ext hE).c 1 rfl
    have qg2 := (g.ext hE).c 2 rfl
    simp only [putAll, List.take, List.drop, List.map, Act.put, List.setIfInBounds_toArray, List.set_cons_zero, List.set_cons_succ]
    go_simp
    exact hR _ _ (Ext.refl _) (rfl) trivial
  case o11 =>
    intro x0 x1 x2 x3 x4 x5 x6 x7 x8 x9 x10 x11 x12 x13 w' hE
    rintro rfl rfl R hR
    simp only [putAll, List.take, List.drop, List.map, Act.put, List.setIfInBounds_toArray, List.set_cons_zero, List.set_cons_succ]
    go_simp
    refine (IHR.out _ _ ⟨_, rfl, hr.ext hE⟩).mono ?_
    rintro _ w'' ⟨v, rfl, hv, hb⟩
    exact hR _ _ hb hv trivial
  case o12 =>
    intro x0 x1 x2 x3 x4 x5 x6 x7 x8 x9 x10 x11 x12 x13 w' hE
    rintro rfl rfl R hR
    simp only [putAll, List.take, List.drop, List.map, Act.put, List.setIfInBounds_toArray, List.set_cons_zero, List.set_cons_succ]
    go_simp
    rw [if_neg (by omega)]
    exact hR _ _ (Ext.refl _) ((congrArg Value.string (ba_cat (by simp)) : Value.string _ = Value.string _)) trivial
  case o13 =>
    intro x0 x1 x2 x3 x4 x5 x6 x7 x8 x9 x10 x11 x12 x13 w' hE
    rintro rfl R hR
    simp only [putAll, List.take, List.drop, List.map, Act.put, List.setIfInBounds_toArray, List.set_cons_zero, List.set_cons_succ]
    go_simp
    rw [if_neg (by omega)]
    exact hR _ _ (Ext.refl _) ((congrArg Value.string (ba_cat (by simp)) : Value.string _ = Value.string _)) trivial
  case rest =>
    intro x0 x1 x2 x3 x4 x5 x6 x7 x8 x9 x10 x11 x12 x13 w1 hb
    rintro rfl rfl rfl rfl rfl rfl rfl rfl rfl rfl rfl rfl rfl rfl hap
    have hx := hb; replace g := g.ext hb; have s1 := hb.size
    clear hap
    simp only [putAll, List.take, List.drop, List.map, Act.put, List.setIfInBounds_toArray, List.set_cons_zero, List.set_cons_succ]
    have g_0 := g.c 0 rfl; have gf0 := g.f 0; have g_1 := g.c 1 rfl; have gf1 := g.f 1; have g_2 := g.c 2 rfl; have gf2 := g.f 2; have gl := g.lt
    go_wp2_with fail
    clear g_0 gf0 g_1 gf1 g_2 gf2 gl
    go_ret
    exact ⟨_, rfl, (show sv _ = sv _ by simp [textT]), hx⟩

theorem rtext_c : ∀ (t : T), (textT t).length ≤ 1000000000 → ∀ (v : Value) (w : World), (IsRef t).p v w → Calls Try.prog 26 #[v] w (Ret w (PP.eq (sv (textT t))).p)
  | .zero, _, _, _, h => rtext_zero h
  | .one, _, _, _, h => rtext_one h
  | .node l r, hd, _, _, h => by
    have : (textT l).length + (textT r).length + 3 ≤ 1000000000 := by simp [textT] at hd; omega
    exact rtext_node h hd (rtext_c l (by omega)) (rtext_c r (by omega))

end Go.Proofs.Ytkfncjaomgcdgaa
