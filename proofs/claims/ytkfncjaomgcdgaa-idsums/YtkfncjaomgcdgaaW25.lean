/- The document's Sum. -/
import Derived.Test.YtkfncjaomgcdgaaW24
set_option linter.all false
namespace Go.Proofs.Ytkfncjaomgcdgaa
open Go.RowKit Go.Facts

/-- the row x while it takes in the row y -/
def mix (k : Nat) (x y : List Bool) : List Bool := (List.zipWith (fun p q => p || q) x y).take k ++ x.drop k
theorem mix_zero (x y : List Bool) : mix 0 x y = x := by simp [mix]
theorem mix_all {M : Nat} {x y : List Bool} (hx : x.length = M) (hy : y.length = M) : mix M x y = List.zipWith (fun p q => p || q) x y := by
  unfold mix
  rw [List.drop_eq_nil_of_le (by omega), List.take_of_length_le (by simp; omega), List.append_nil]
theorem mix_len {k : Nat} {x y : List Bool} (h : x.length = y.length) (hk : k ≤ x.length) : (mix k x y).length = x.length := by simp [mix]; omega
theorem mix_get {k : Nat} {x y : List Bool} (h : x.length = y.length) (hk : k < x.length) : (mix k x y)[k]? = x[k]? := by
  unfold mix
  rw [List.getElem?_append_right (by simp; omega)]
  simp [List.getElem?_drop]
  congr 1
  omega
theorem mix_step {k : Nat} {x y : List Bool} {u v : Bool} (h : x.length = y.length) (hk : k < x.length) (hu : x[k]? = some u) (hv : y[k]? = some v) : (mix k x y).set k (u || v) = mix (k + 1) x y := by
  apply List.ext_getElem?
  intro j
  rw [List.getElem?_set]
  have hz : (List.zipWith (fun p q => p || q) x y)[k]? = some (u || v) := by rw [List.getElem?_zipWith, hu, hv]
  split
  · rename_i e
    subst e
    rw [if_pos (by rw [mix_len h (by omega)]; exact hk)]
    unfold mix
    rw [List.getElem?_append_left (by simp; omega), List.getElem?_take, if_pos (by omega), hz]
  · unfold mix
    by_cases hj : j < k
    · rw [List.getElem?_append_left (by simp; omega), List.getElem?_append_left (by simp; omega), List.getElem?_take, List.getElem?_take, if_pos hj, if_pos (by omega)]
    · rw [List.getElem?_append_right (by simp; omega), List.getElem?_append_right (by simp; omega), List.getElem?_drop, List.getElem?_drop]
      congr 1
      simp
      omega
theorem take_set {cs : List Value} {n k : Nat} {u : Value} (hk : k < n) : (cs.set k u).take n = (cs.take n).set k u := by
  rw [List.take_set]
theorem bls_set (l : List Bool) (k : Nat) (u : Bool) : (bls l).set k (.bool u) = bls (l.set k u) := by simp [bls, List.map_set]
def SumRel (w : World) (M gx gy cx : Nat) (x y : List Bool) (csy : List Value) (wr : World) (kv : Value) (m : Nat) : Prop :=
  ∃ (k : Nat) (cs : List Value), kv = .int .i64 k ∧ k ≤ M ∧ m = M - k ∧ Ext w wr ∧ Blk wr gx cs 4 ∧ Blk wr gy csy 4 ∧ cs.length = cx ∧ cs.take M = bls (mix k x y)

set_option maxRecDepth 100000 in
set_option maxHeartbeats 2000000 in
theorem rsum_c {a b : T} {va vb : Value} {w : World} (ha : (IsRef a).p va w) (hb' : (IsRef b).p vb w) (wa : a.wf = true) (wb : b.wf = true) (hda : a.depth ≤ 18) (hdb : b.depth ≤ 18) :
    Calls Try.prog 27 #[va, vb] w (Ret w (IsRef (unionT a b)).p) := by
  go_enter Try.func27, Try.ntmps27
  go_wp2_with fail
  refine (rdeepest_c ha hb' (by omega) (by omega)).mono ?_
  rintro _ w1 ⟨_, rfl, rfl, hb⟩
  have hx := hb; replace ha := (IsRef a).mono hb ha; replace hb' := (IsRef b).mono hb hb'; have s0 := hb.size
  go_wp2_with fail
  obtain ⟨n, hn⟩ : ∃ n, max a.depth b.depth = n := ⟨_, rfl⟩
  have hn2 : n ≤ 18 := by omega
  have HU := Lib.hid (has_union n a b (by omega) (by omega))
  have hud := union_depth a b
  have hof := rof_c n (by omega) (unionT a b) (union_wf wa wb) (by omega)
  rw [HU.out] at hof
  have HO := Lib.hid hof; clear hof hud HU
  rw [hn]
  clear hn
  refine (rhas_c n (by omega) a _ _ ha).mono ?_
  rintro _ w2 ⟨rxv, rfl, rx, hb⟩
  replace hx := Ext.trans hx hb; replace ha := (IsRef a).mono hb ha; replace hb' := (IsRef b).mono hb hb'; have s1 := hb.size
  have HGL : Hid (∀ g, rxv.ownBlock = some g → g < w2.heap.size) := fun g hg => (World.ownsRow.lt rx g hg).2
  go_wp2_with fail
  refine (rhas_c n (by omega) b _ _ hb').mono ?_
  rintro _ w3 ⟨ryv, rfl, ry, hb⟩
  replace hx := Ext.trans hx hb; replace ha := (IsRef a).mono hb ha; replace hb' := (IsRef b).mono hb hb'; replace rx := (BRow w1.heap.size (hasT a n)).mono hb rx; have s2 := hb.size
  have hpos := Nat.two_pow_pos n
  have hsz : 2 ^ n ≤ 2 ^ 18 := Nat.pow_le_pow_right (by decide) hn2
  have lx := has_len a n; have ly := has_len b n
  generalize 2 ^ n = M at *
  generalize hasT a n = x at *
  generalize hasT b n = y at *
  obtain ⟨gx, cx, csx, rfl, hgx, bx, hcx, hmx, hlx, htx⟩ := row_open rx (by omega)
  obtain ⟨gy, cy, csy, rfl, hgy, by', hcy, hmy, hly, hty⟩ := row_open ry (by omega)
  have hgne : gy ≠ gx := by have := HGL.out gx rfl; omega
  rw [lx] at hcx htx
  rw [ly] at hcy
  rw [lx, ly]
  have LX := Lib.hid lx; have LY := Lib.hid ly
  clear rx ry ha hb'
  have HTX := Lib.hid htx; have HTY := Lib.hid hty; clear htx hty lx ly
  unfold maxLen at hmx hmy
  go_wp2_with fail
  have hgw : w.heap.size ≤ gx := by omega
  go_loopg [20] M (fun m kv wr => SumRel w M gx gy cx x y csy wr kv m)
  case atStart => exact ⟨0, csx, rfl, by omega, by omega, hx, bx, by', hlx, by rw [mix_zero]; exact HTX.out⟩
  case round =>
    clear bx by' hx hlx
    obtain ⟨k, cs, rfl, hk, hm, hx, bx, by', hlx, htk⟩ := hrel
    have Hm := Lib.hid hm; have HK := Lib.hid htk; clear hm htk
    by_cases hlt : k < M
    ·
      obtain ⟨u, hu⟩ : ∃ u, x[k]? = some u := ⟨_, List.getElem?_eq_getElem (by have := LX.out; omega)⟩
      obtain ⟨v, hv⟩ : ∃ v, y[k]? = some v := ⟨_, List.getElem?_eq_getElem (by have := LY.out; omega)⟩
      have hxy : x.length = y.length := by have := LX.out; have := LY.out; omega
      have hkx : k < x.length := by have := LX.out; omega
      have hml : (mix k x y).length = M := by rw [mix_len hxy (by omega)]; exact LX.out
      have hcu : wr.cell? ⟨gx, k, none⟩ = some (.bool u) := row_cell bx (l := mix k x y) (by rw [hml]; exact HK.out) (by rw [mix_get hxy hkx]; exact hu)
      have hcv : wr.cell? ⟨gy, k, none⟩ = some (.bool v) := row_cell by' (l := y) HTY.out hv
      have hcf := bx.f k
      have Hstep : Hid ((cs.set k (.bool (u || v))).take M = bls (mix (k + 1) x y)) := by unfold Hid; rw [take_set hlt, HK.out, bls_set, mix_step hxy hkx hu hv]
      have hltd : decide ((k : Int) < (M : Int)) = true := by simp; omega
      clear hu hv hxy hkx hml
      cases u <;> cases v
      ·
        go_wp2_with fail
        have st := stored1 bx k (.bool false)
        go_roundg (M - (k + 1))
        case measure => have := Hm.out; omega
        case rel =>
          exact ⟨k + 1, _, by go_num, by omega, rfl, st.below hx (by omega), st.blk, st.keep by' hgne, by rw [List.length_set]; exact hlx, Hstep.out⟩
      ·
        go_wp2_with fail
        have st := stored1 bx k (.bool true)
        go_roundg (M - (k + 1))
        case measure => have := Hm.out; omega
        case rel =>
          exact ⟨k + 1, _, by go_num, by omega, rfl, st.below hx (by omega), st.blk, st.keep by' hgne, by rw [List.length_set]; exact hlx, Hstep.out⟩
      ·
        go_wp2_with fail
        have st := stored1 bx k (.bool true)
        go_roundg (M - (k + 1))
        case measure => have := Hm.out; omega
        case rel =>
          exact ⟨k + 1, _, by go_num, by omega, rfl, st.below hx (by omega), st.blk, st.keep by' hgne, by rw [List.length_set]; exact hlx, Hstep.out⟩
      ·
        go_wp2_with fail
        have st := stored1 bx k (.bool true)
        go_roundg (M - (k + 1))
        case measure => have := Hm.out; omega
        case rel =>
          exact ⟨k + 1, _, by go_num, by omega, rfl, st.below hx (by omega), st.blk, st.keep by' hgne, by rw [List.length_set]; exact hlx, Hstep.out⟩
    ·
      have hkM : k = M := by omega
      subst hkM
      have hltd : decide ((k : Int) < (k : Int)) = false := by simp
      have hbl : Bl (List.zipWith (fun p q => p || q) x y) (.slice (some ⟨gx, 0, none⟩) k cx) wr := by
        have hz : (List.zipWith (fun p q => p || q) x y).length = k := by have := LX.out; have := LY.out; simp; omega
        refine ⟨gx, 0, cx, by rw [hz], by omega, by unfold maxLen; omega, fun j z hj => ?_⟩
        rw [Nat.zero_add]
        exact row_cell bx (l := List.zipWith (fun p q => p || q) x y) (by rw [hz, HK.out, mix_all LX.out LY.out]) hj
      go_wp2_with fail
      refine (HO.out _ _ hbl).mono ?_
      rintro _ w5 ⟨zv, rfl, z, hb⟩
      go_wp2_with fail
      go_ret
      exact ⟨_, rfl, z, Ext.trans hx hb⟩

end Go.Proofs.Ytkfncjaomgcdgaa
