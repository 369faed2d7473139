/- The document's Disjoint, Covers. -/
import Derived.Test.YtkfncjaomgcdgaaW23
set_option linter.all false
namespace Go.Proofs.Ytkfncjaomgcdgaa
open Go.RowKit Go.Facts

theorem app_all {P : Option Bool → Option Bool → Prop} {x1 x2 y1 y2 : List Bool} (h : x1.length = y1.length) (hn : P none none) :
    (∀ j : Nat, P (x1 ++ x2)[j]? (y1 ++ y2)[j]?) ↔ (∀ j : Nat, P x1[j]? y1[j]?) ∧ (∀ j : Nat, P x2[j]? y2[j]?) := by
  constructor
  · intro h'
    refine ⟨fun j => ?_, fun j => ?_⟩
    · by_cases hj : j < x1.length
      · have := h' j
        rw [List.getElem?_append_left hj, List.getElem?_append_left (by omega)] at this
        exact this
      · rw [List.getElem?_eq_none (by omega), List.getElem?_eq_none (by omega)]; exact hn
    · have := h' (x1.length + j)
      rw [List.getElem?_append_right (by omega), List.getElem?_append_right (by omega), show x1.length + j - x1.length = j by omega, show x1.length + j - y1.length = j by omega] at this
      exact this
  · rintro ⟨h1, h2⟩ j
    by_cases hj : j < x1.length
    · rw [List.getElem?_append_left hj, List.getElem?_append_left (by omega)]; exact h1 j
    · rw [List.getElem?_append_right (by omega), List.getElem?_append_right (by omega), ← h]; exact h2 _
theorem one_all {P : Option Bool → Option Bool → Prop} {x y : Bool} (hn : P none none) : (∀ j : Nat, P [x][j]? [y][j]?) ↔ P (some x) (some y) := by
  constructor
  · intro h; exact h 0
  · intro h j; cases j with
    | zero => exact h
    | succ j => exact hn
theorem leaf_of {t : T} (h : t.depth ≤ 0) : t = .zero ∨ t = .one := by
  cases t with
  | zero => exact .inl rfl
  | one => exact .inr rfl
  | node a b => simp [T.depth] at h
theorem disj_has : ∀ (n : Nat) (a b : T), a.wf = true → b.wf = true → a.depth ≤ n → b.depth ≤ n → (disjT a b = true ↔ ∀ j : Nat, ¬ ((hasT a n)[j]? = some true ∧ (hasT b n)[j]? = some true))
  | 0, a, b, _, _, ha, hb => by
    rw [hasT, hasT, one_all (P := fun x y => ¬ (x = some true ∧ y = some true)) (by simp)]
    rcases leaf_of ha with rfl | rfl <;> rcases leaf_of hb with rfl | rfl <;> simp [disjT, T.isOne]
  | n + 1, a, b, wa, wb, ha, hb => by
    have da := depth_half a; have db := depth_half b
    rw [hasT, hasT, app_all (P := fun x y => ¬ (x = some true ∧ y = some true)) (by rw [has_len, has_len]) (by simp), disj_half wa wb, Bool.and_eq_true,
      disj_has n a.left b.left (left_wf wa) (left_wf wb) (by omega) (by omega), disj_has n a.right b.right (right_wf wa) (right_wf wb) (by omega) (by omega)]
theorem cover_has : ∀ (n : Nat) (a b : T), a.wf = true → b.wf = true → a.depth ≤ n → b.depth ≤ n → (coverT a b = true ↔ ∀ j : Nat, ¬ ((hasT b n)[j]? = some true ∧ (hasT a n)[j]? = some false))
  | 0, a, b, _, _, ha, hb => by
    rw [hasT, hasT, one_all (P := fun y x => ¬ (y = some true ∧ x = some false)) (by simp)]
    rcases leaf_of ha with rfl | rfl <;> rcases leaf_of hb with rfl | rfl <;> simp [coverT, T.isOne]
  | n + 1, a, b, wa, wb, ha, hb => by
    have da := depth_half a; have db := depth_half b
    rw [hasT, hasT, app_all (P := fun y x => ¬ (y = some true ∧ x = some false)) (by rw [has_len, has_len]) (by simp), cover_half wa wb, Bool.and_eq_true,
      cover_has n a.left b.left (left_wf wa) (left_wf wb) (by omega) (by omega), cover_has n a.right b.right (right_wf wa) (right_wf wb) (by omega) (by omega)]
theorem union_or (a : T) : unionT a .one = .one := by cases a <;> rfl
theorem union_zr (a : T) : unionT a .zero = a := by cases a <;> rfl
theorem union_ol (b : T) : unionT .one b = .one := by cases b <;> rfl
theorem mk_left (x y : T) : (T.mk x y).left = x := by cases x <;> cases y <;> rfl
theorem mk_right (x y : T) : (T.mk x y).right = y := by cases x <;> cases y <;> rfl
theorem union_left (a b : T) : (unionT a b).left = unionT a.left b.left := by
  cases a with
  | zero => rfl
  | one => rw [union_ol]; exact (union_ol _).symm
  | node l r =>
    cases b with
    | zero => exact (union_zr _).symm
    | one => exact (union_or _).symm
    | node l' r' => exact mk_left _ _
theorem union_right (a b : T) : (unionT a b).right = unionT a.right b.right := by
  cases a with
  | zero => rfl
  | one => rw [union_ol]; exact (union_ol _).symm
  | node l r =>
    cases b with
    | zero => exact (union_zr _).symm
    | one => exact (union_or _).symm
    | node l' r' => exact mk_right _ _
theorem has_union : ∀ (n : Nat) (a b : T), a.depth ≤ n → b.depth ≤ n → hasT (unionT a b) n = List.zipWith (fun p q => p || q) (hasT a n) (hasT b n)
  | 0, a, b, ha, hb => by
    rcases leaf_of ha with rfl | rfl <;> rcases leaf_of hb with rfl | rfl <;> rfl
  | n + 1, a, b, ha, hb => by
    have da := depth_half a; have db := depth_half b
    rw [hasT, hasT, hasT, union_left, union_right, has_union n _ _ (by omega) (by omega), has_union n _ _ (by omega) (by omega), List.zipWith_append (by rw [has_len, has_len])]
theorem row_open {B : Nat} {l : List Bool} {v : Value} {w : World} (h : (BRow B l).p v w) (hl : 1 ≤ l.length) : ∃ g cap cs, v = .slice (some ⟨g, 0, none⟩) l.length cap ∧ B ≤ g ∧ Blk w g cs 4 ∧ l.length ≤ cap ∧ cap ≤ maxLen ∧ cs.length = cap ∧ cs.take l.length = bls l := by
  obtain ⟨h1, h2⟩ := h
  rcases h2 with ⟨_, h0⟩ | ⟨g, cap, cur, hv, hg, hh, hc, hm, hs, ht⟩
  · omega
  · exact ⟨g, cap, cur.toList, hv, hg, hh, hc, hm, by simpa using hs, by simpa using ht⟩
theorem row_cell {l : List Bool} {g : Nat} {cs : List Value} {w : World} (hb : Blk w g cs 4) (ht : cs.take l.length = bls l) {j : Nat} {x : Bool} (hj : l[j]? = some x) : w.cell? ⟨g, j, none⟩ = some (.bool x) := by
  apply hb.c
  have hl := (List.getElem?_eq_some_iff.1 hj).1
  have : (cs.take l.length)[j]? = some (.bool x) := by rw [ht, bls, List.getElem?_map, hj]; rfl
  rw [List.getElem?_take, if_pos hl] at this
  exact this
def RowRel (M : Nat) (x y : List Bool) (p q : Bool) (w3 : World) (wr : World) (kv : Value) (m : Nat) : Prop :=
  ∃ k : Nat, kv = .int .i64 k ∧ k ≤ M ∧ m = M - k ∧ wr = w3 ∧ ∀ j : Nat, j < k → ¬ (x[j]? = some p ∧ y[j]? = some q)

set_option maxRecDepth 100000 in
set_option maxHeartbeats 2000000 in
theorem rdisj_c {a b : T} {va vb : Value} {w : World} (ha : (IsRef a).p va w) (hb' : (IsRef b).p vb w) (wa : a.wf = true) (wb : b.wf = true) (hda : a.depth ≤ 18) (hdb : b.depth ≤ 18) :
    Calls Try.prog 23 #[va, vb] w (Ret w (PP.eq (.bool (disjT a b))).p) := by
  go_enter Try.func23, Try.ntmps23
  go_wp2_with fail
  refine (rdeepest_c ha hb' (by omega) (by omega)).mono ?_
  rintro _ w1 ⟨_, rfl, rfl, hb⟩
  have hx := hb; replace ha := (IsRef a).mono hb ha; replace hb' := (IsRef b).mono hb hb'; have s0 := hb.size
  go_wp2_with fail
  obtain ⟨n, hn⟩ : ∃ n, max a.depth b.depth = n := ⟨_, rfl⟩
  have hn2 : n ≤ 18 := by omega
  have HH := Lib.hid (disj_has n a b wa wb (by omega) (by omega))
  rw [hn]
  clear hn
  refine (rhas_c n (by omega) a _ _ ha).mono ?_
  rintro _ w2 ⟨rxv, rfl, rx, hb⟩
  replace hx := Ext.trans hx hb; replace ha := (IsRef a).mono hb ha; replace hb' := (IsRef b).mono hb hb'; have s1 := hb.size
  go_wp2_with fail
  refine (rhas_c n (by omega) b _ _ hb').mono ?_
  rintro _ w3 ⟨ryv, rfl, ry, hb⟩
  replace hx := Ext.trans hx hb; replace ha := (IsRef a).mono hb ha; replace hb' := (IsRef b).mono hb hb'; replace rx := (BRow w1.heap.size (hasT a n)).mono hb rx; have s2 := hb.size
  have hpos := Nat.two_pow_pos n
  have hsz : 2 ^ n ≤ 2 ^ 18 := Nat.pow_le_pow_right (by decide) hn2
  have lx := has_len a n; have ly := has_len b n
  generalize 2 ^ n = M at *
  generalize hasT a n = x at *
  generalize hasT b n = y at *
  obtain ⟨gx, cx, csx, rfl, hgx, bx, hcx, hmx, hlx, htx⟩ := row_open rx (by omega)
  obtain ⟨gy, cy, csy, rfl, hgy, by', hcy, hmy, hly, hty⟩ := row_open ry (by omega)
  have CX : Hid (∀ j v, x[j]? = some v → w3.cell? ⟨gx, j, none⟩ = some (.bool v)) := fun j v hj => row_cell bx htx hj
  have CY : Hid (∀ j v, y[j]? = some v → w3.cell? ⟨gy, j, none⟩ = some (.bool v)) := fun j v hj => row_cell by' hty hj
  rw [lx] at hcx
  rw [ly] at hcy
  rw [lx, ly]
  have LX := Lib.hid lx; have LY := Lib.hid ly
  clear lx ly
  clear htx hty bx by' hlx hly rx ry
  go_wp2_with fail
  go_loopg [20] M (fun m kv wr => RowRel M x y true true w3 wr kv m)
  case atStart => exact ⟨0, rfl, by omega, by omega, rfl, fun j hj => absurd hj (by omega)⟩
  case round =>
    obtain ⟨k, rfl, hk, hm, rfl, hall⟩ := hrel
    have Hm := Lib.hid hm; have HA := Lib.hid hall; clear hm hall
    by_cases hlt : k < M
    ·
      obtain ⟨u, hu⟩ : ∃ u, x[k]? = some u := ⟨_, List.getElem?_eq_getElem (by have := LX.out; omega)⟩
      obtain ⟨v, hv⟩ : ∃ v, y[k]? = some v := ⟨_, List.getElem?_eq_getElem (by have := LY.out; omega)⟩
      have hcu := CX.out k u hu
      have hcv := CY.out k v hv
      have Hu := Lib.hid hu; have Hv := Lib.hid hv; clear hu hv
      have hltd : decide ((k : Int) < (M : Int)) = true := by simp; omega
      cases u <;> cases v
      ·
        go_wp2_with fail
        go_roundg (M - (k + 1))
        case measure => have := Hm.out; omega
        case rel =>
          refine ⟨k + 1, by go_num, by omega, rfl, rfl, fun j hj => ?_⟩
          by_cases hjk : j = k
          · subst hjk; intro hh; have h1 := Hu.out; have h2 := Hv.out; rw [h1, h2] at hh; simp at hh
          · exact HA.out j (by omega)
      ·
        go_wp2_with fail
        go_roundg (M - (k + 1))
        case measure => have := Hm.out; omega
        case rel =>
          refine ⟨k + 1, by go_num, by omega, rfl, rfl, fun j hj => ?_⟩
          by_cases hjk : j = k
          · subst hjk; intro hh; have h1 := Hu.out; have h2 := Hv.out; rw [h1, h2] at hh; simp at hh
          · exact HA.out j (by omega)
      ·
        go_wp2_with fail
        go_roundg (M - (k + 1))
        case measure => have := Hm.out; omega
        case rel =>
          refine ⟨k + 1, by go_num, by omega, rfl, rfl, fun j hj => ?_⟩
          by_cases hjk : j = k
          · subst hjk; intro hh; have h1 := Hu.out; have h2 := Hv.out; rw [h1, h2] at hh; simp at hh
          · exact HA.out j (by omega)
      ·
        go_wp2_with fail
        go_ret
        exact ⟨_, rfl, by cases hD : disjT a b; rfl; exact absurd (⟨Hu.out, Hv.out⟩) (HH.out.1 hD k), hx⟩
    ·
      have hkM : k = M := by omega
      subst hkM
      have hltd : decide ((k : Int) < (k : Int)) = false := by simp
      go_wp2_with fail
      go_ret
      exact ⟨_, rfl, by rw [show disjT a b = true from HH.out.2 fun j hh => HA.out j (by have := (List.getElem?_eq_some_iff.1 hh.1).1; have := LX.out; have := LY.out; omega) hh]; rfl, hx⟩

set_option maxRecDepth 100000 in
set_option maxHeartbeats 2000000 in
theorem rcov_c {a b : T} {va vb : Value} {w : World} (ha : (IsRef a).p va w) (hb' : (IsRef b).p vb w) (wa : a.wf = true) (wb : b.wf = true) (hda : a.depth ≤ 18) (hdb : b.depth ≤ 18) :
    Calls Try.prog 25 #[va, vb] w (Ret w (PP.eq (.bool (coverT a b))).p) := by
  go_enter Try.func25, Try.ntmps25
  go_wp2_with fail
  refine (rdeepest_c ha hb' (by omega) (by omega)).mono ?_
  rintro _ w1 ⟨_, rfl, rfl, hb⟩
  have hx := hb; replace ha := (IsRef a).mono hb ha; replace hb' := (IsRef b).mono hb hb'; have s0 := hb.size
  go_wp2_with fail
  obtain ⟨n, hn⟩ : ∃ n, max a.depth b.depth = n := ⟨_, rfl⟩
  have hn2 : n ≤ 18 := by omega
  have HH := Lib.hid (cover_has n a b wa wb (by omega) (by omega))
  rw [hn]
  clear hn
  refine (rhas_c n (by omega) a _ _ ha).mono ?_
  rintro _ w2 ⟨rxv, rfl, rx, hb⟩
  replace hx := Ext.trans hx hb; replace ha := (IsRef a).mono hb ha; replace hb' := (IsRef b).mono hb hb'; have s1 := hb.size
  go_wp2_with fail
  refine (rhas_c n (by omega) b _ _ hb').mono ?_
  rintro _ w3 ⟨ryv, rfl, ry, hb⟩
  replace hx := Ext.trans hx hb; replace ha := (IsRef a).mono hb ha; replace hb' := (IsRef b).mono hb hb'; replace rx := (BRow w1.heap.size (hasT a n)).mono hb rx; have s2 := hb.size
  have hpos := Nat.two_pow_pos n
  have hsz : 2 ^ n ≤ 2 ^ 18 := Nat.pow_le_pow_right (by decide) hn2
  have lx := has_len a n; have ly := has_len b n
  generalize 2 ^ n = M at *
  generalize hasT a n = x at *
  generalize hasT b n = y at *
  obtain ⟨gx, cx, csx, rfl, hgx, bx, hcx, hmx, hlx, htx⟩ := row_open rx (by omega)
  obtain ⟨gy, cy, csy, rfl, hgy, by', hcy, hmy, hly, hty⟩ := row_open ry (by omega)
  have CX : Hid (∀ j v, x[j]? = some v → w3.cell? ⟨gx, j, none⟩ = some (.bool v)) := fun j v hj => row_cell bx htx hj
  have CY : Hid (∀ j v, y[j]? = some v → w3.cell? ⟨gy, j, none⟩ = some (.bool v)) := fun j v hj => row_cell by' hty hj
  rw [lx] at hcx
  rw [ly] at hcy
  rw [lx, ly]
  have LX := Lib.hid lx; have LY := Lib.hid ly
  clear lx ly
  clear htx hty bx by' hlx hly rx ry
  go_wp2_with fail
  go_loopg [20] M (fun m kv wr => RowRel M x y false true w3 wr kv m)
  case atStart => exact ⟨0, rfl, by omega, by omega, rfl, fun j hj => absurd hj (by omega)⟩
  case round =>
    obtain ⟨k, rfl, hk, hm, rfl, hall⟩ := hrel
    have Hm := Lib.hid hm; have HA := Lib.hid hall; clear hm hall
    by_cases hlt : k < M
    ·
      obtain ⟨u, hu⟩ : ∃ u, x[k]? = some u := ⟨_, List.getElem?_eq_getElem (by have := LX.out; omega)⟩
      obtain ⟨v, hv⟩ : ∃ v, y[k]? = some v := ⟨_, List.getElem?_eq_getElem (by have := LY.out; omega)⟩
      have hcu := CX.out k u hu
      have hcv := CY.out k v hv
      have Hu := Lib.hid hu; have Hv := Lib.hid hv; clear hu hv
      have hltd : decide ((k : Int) < (M : Int)) = true := by simp; omega
      cases u <;> cases v
      ·
        go_wp2_with fail
        go_roundg (M - (k + 1))
        case measure => have := Hm.out; omega
        case rel =>
          refine ⟨k + 1, by go_num, by omega, rfl, rfl, fun j hj => ?_⟩
          by_cases hjk : j = k
          · subst hjk; intro hh; have h1 := Hu.out; have h2 := Hv.out; rw [h1, h2] at hh; simp at hh
          · exact HA.out j (by omega)
      ·
        go_wp2_with fail
        go_ret
        exact ⟨_, rfl, by cases hD : coverT a b; rfl; exact absurd (⟨Hv.out, Hu.out⟩) (HH.out.1 hD k), hx⟩
      ·
        go_wp2_with fail
        go_roundg (M - (k + 1))
        case measure => have := Hm.out; omega
        case rel =>
          refine ⟨k + 1, by go_num, by omega, rfl, rfl, fun j hj => ?_⟩
          by_cases hjk : j = k
          · subst hjk; intro hh; have h1 := Hu.out; have h2 := Hv.out; rw [h1, h2] at hh; simp at hh
          · exact HA.out j (by omega)
      ·
        go_wp2_with fail
        go_roundg (M - (k + 1))
        case measure => have := Hm.out; omega
        case rel =>
          refine ⟨k + 1, by go_num, by omega, rfl, rfl, fun j hj => ?_⟩
          by_cases hjk : j = k
          · subst hjk; intro hh; have h1 := Hu.out; have h2 := Hv.out; rw [h1, h2] at hh; simp at hh
          · exact HA.out j (by omega)
    ·
      have hkM : k = M := by omega
      subst hkM
      have hltd : decide ((k : Int) < (k : Int)) = false := by simp
      go_wp2_with fail
      go_ret
      exact ⟨_, rfl, by rw [show coverT a b = true from HH.out.2 fun j hh => HA.out j (by have := (List.getElem?_eq_some_iff.1 hh.1).1; have := LX.out; have := LY.out; omega) ⟨hh.2, hh.1⟩]; rfl, hx⟩

end Go.Proofs.Ytkfncjaomgcdgaa
