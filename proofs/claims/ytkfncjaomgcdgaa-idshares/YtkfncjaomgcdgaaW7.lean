/- The scanner: leaf. -/
import Derived.Test.YtkfncjaomgcdgaaW6
set_option linter.all false
namespace Go.Proofs.Ytkfncjaomgcdgaa
open Go.RowKit Go.Facts

theorem stored_keeps {w W : World} {k B : Nat} {cs0 cs : List Value} {t : TypeId} {ts : List TypeId} (g : Blk w k cs0 t) (st : Stored w W k cs t) (ht : t ∈ ts) (hB : B ≤ k) : Keeps B ts w W :=
  ⟨st.below (Below.refl _ _) hB, fun hb hn => st.keep hb (hb.ne g (fun e => hn (e ▸ ht)))⟩
theorem keeps_more {B : Nat} {ts us : List TypeId} {w w' : World} (h : Keeps B ts w w') (hsub : ∀ t, t ∈ ts → t ∈ us) : Keeps B us w w' :=
  ⟨h.below, fun hb hn => h.keep hb (fun hm => hn (hsub _ hm))⟩
theorem own_keeps {w w' : World} {B B' : Nat} {ts : List TypeId} {e : TypeId} {size : Nat} {v : Value} {n : Nat} {xs : List Value} (h : w.ownsRow B e size v n xs) (x : Keeps B' ts w w') (he : e ∉ ts) : w'.ownsRow B e size v n xs := by
  obtain ⟨h1, h2⟩ := h
  refine ⟨h1, ?_⟩
  rcases h2 with h2 | ⟨g, cap, cur, hv, hg, hh, r⟩
  · exact .inl h2
  · have hb : Blk w g cur.toList e := by unfold Blk; simpa using hh
    have := x.keep hb he
    unfold Blk at this
    exact .inr ⟨g, cap, cur, hv, hg, by simpa using this, r⟩

theorem own_slice {w : World} {B : Nat} {e : TypeId} {size : Nat} {v : Value} {n : Nat} {xs : List Value} (h : w.ownsRow B e size v n xs) : ∃ ao cap, v = .slice ao n cap := by
  obtain ⟨_, ⟨rfl, rfl⟩ | ⟨g, cap, cur, rfl, _⟩⟩ := h
  · exact ⟨_, _, rfl⟩
  · exact ⟨_, _, rfl⟩

def Scan (w : World) (k B : Nat) (s : ByteArray) (i : Nat) (st : List UInt8) (d : Nat) : Prop :=
  ∃ L, Blk w k [.string s, .int .i64 (i : Nat), L, .int .i64 (d : Nat)] 79 ∧ w.ownsRow B 5 1 L st.length (bvs st.reverse) ∧ i ≤ s.size ∧ st.length ≤ i ∧ d ≤ i

theorem Scan.ext {w w' : World} {k B : Nat} {s : ByteArray} {i : Nat} {st : List UInt8} {d : Nat} (h : Scan w k B s i st d) (x : Ext w w') : Scan w' k B s i st d :=
  let ⟨L, g, o, r⟩ := h; ⟨L, g.ext x, own_ext o x, r⟩

def leafP : List UInt8 → List UInt8 → Nat → Option UInt8 × List UInt8 × List UInt8 × Nat
  | [], st, d => (none, [], st, d)
  | x :: r, st, d => if x = 40 then leafP r (32 :: st) (max d (st.length + 1)) else if x = 48 ∨ x = 49 then (some x, r, st, d) else (none, x :: r, st, d)

def LeafPost (w : World) (k B : Nat) (s : ByteArray) (o : Option UInt8 × List UInt8 × List UInt8 × Nat) (e : Ending) (w' : World) : Prop :=
  e = .returned (.tuple #[bv (o.1.getD 49), .bool o.1.isSome]) ∧ (∃ i', s.data.toList.drop i' = o.2.1 ∧ Scan w' k B s i' o.2.2.1 o.2.2.2) ∧ Keeps B [79, 5] w w'

def LeafRel (w : World) (k B : Nat) (s : ByteArray) (o : Option UInt8 × List UInt8 × List UInt8 × Nat) (n : Nat) (wr : World) : Prop :=
  ∃ i st d, n = s.size - i ∧ Scan wr k B s i st d ∧ leafP (s.data.toList.drop i) st d = o ∧ Keeps B [79, 5] w wr

set_option maxRecDepth 100000 in
set_option maxHeartbeats 2000000 in
theorem leaf_c {k B i d : Nat} {s : ByteArray} {st : List UInt8} {w : World} (h : Scan w k B s i st d) (hB : B ≤ k) (hs : s.size ≤ 1000000000) :
    Calls Try.prog 52 #[.pointer (some ⟨k, 0, none⟩)] w (LeafPost w k B s (leafP (s.data.toList.drop i) st d)) := by
  obtain ⟨i0, hi0, hz0, hz1, hz2⟩ := info_parts Try.info5
  generalize ho : leafP (s.data.toList.drop i) st d = o
  go_enter Try.func52, Try.ntmps52
  go_wp2_with fail
  go_loopg [] (s.size - i) (fun n wr => LeafRel w k B s o n wr)
  case atStart => exact ⟨i, st, d, rfl, h, ho, Keeps.refl _ _ _⟩
  case round =>
    obtain ⟨i, st, d, hn, ⟨L, g, own, hi, hst, hd⟩, hl, K⟩ := hrel
    have HN := Lib.hid hn; clear hn
    have HL := Lib.hid hl; clear hl
    go_wp2_with fail
    by_cases hx : ∃ r, s.data.toList.drop i = 40 :: r
    · obtain ⟨r, hr⟩ := hx
      obtain ⟨hlt, _, hr'⟩ := drop_cons hr
      refine (take_y g (by omega) hr rfl).mono ?_
      rintro e w1 ⟨rfl, st1⟩
      have HR := Lib.hid hr; have HR' := Lib.hid hr'; clear hr hr'
      have k1 : Keeps B [79] wr w1 := stored_keeps g st1 (by decide) hB
      replace own := own_keeps own k1 (by decide)
      have K1 := K.trans (keeps_more k1 (by decide)); clear K k1
      replace g := st1.blk; clear st1
      have glt := g.lt
      have e2 := g.c 2 rfl
      go_wp2_with (at_builtin; refine wpList_append_own _ rfl _ _ 22 rfl B 5 i0 (.int .u8 0) 1 1 Try.underlying22 hi0 hz0 hz1 hz2 rfl (by decide) _ _ _ rfl (own.alloc _) ⟨w1.heap.size, 0, none⟩ 1 1 [.int .u8 32] rfl rfl (cell_one_new _ _ _) (fun x hx => by simp at hx; subst hx; rfl) (by unfold maxLen; omega) (by omega) (by simp; omega) ?_; intro L2 w2 own2 hg hnil; have kp := keeps_append own (by omega) hg; clear hg hnil; obtain ⟨ao, cp, rfl⟩ := own_slice own2; have g2 := kp.keep g (by decide); have q2 := g2.c 2 rfl; have f2 := g2.f 2; have g2l := g2.lt)
      obtain ⟨w3, hW, st3⟩ : ∃ W, w2.setCell ⟨k, 2, none⟩ (.slice ao (st.length + 1) cp) = W ∧ Stored w2 W k _ 79 := ⟨_, rfl, stored1 g2 2 _⟩
      rw [hW]; clear hW
      have k3 : Keeps B [79] w2 w3 := stored_keeps g2 st3 (by decide) hB
      replace own2 := own_keeps own2 k3 (by decide)
      have K3 := (K1.trans (keeps_more kp (by decide))).trans (keeps_more k3 (by decide))
      have g3 := st3.blk; clear K1 kp k3 st3 e2 q2 f2 g2 own g
      simp only [List.set_cons_zero, List.set_cons_succ] at g3
      have q2 := g3.c 2 rfl; have q3 := g3.c 3 rfl; have f3 := g3.f 3
      go_region
      rw [show (if (d : Int) < (st.length : Int) + 1 then (st.length : Int) + 1 else (d : Int)) = ((max d (st.length + 1) : Nat) : Int) from by split <;> omega]
      clear q2 q3 f3
      obtain ⟨w4, hW, st4⟩ : ∃ W, w3.setCell ⟨k, 3, none⟩ (.int .i64 ((max d (st.length + 1) : Nat) : Int)) = W ∧ Stored w3 W k _ 79 := ⟨_, rfl, stored1 g3 3 _⟩
      rw [hW]; clear hW
      have k4 : Keeps B [79] w3 w4 := stored_keeps g3 st4 (by decide) hB
      replace own2 := own_keeps own2 k4 (by decide)
      have K4 := K3.trans (keeps_more k4 (by decide))
      have g4 := st4.blk; clear K3 k4 st4 g3
      simp only [List.set_cons_zero, List.set_cons_succ] at g4
      have hb4 : Ext w4 w4.drew := (Ext.refl _).drew
      replace K4 := K4.trans (Keeps.of_ext hb4 (by have := g4.lt; omega))
      replace g4 := g4.ext hb4
      replace own2 := own_ext own2 hb4
      go_wp2_with fail
      go_roundg (s.size - (i + 1))
      case measure => rw [HN.out]; omega
      case rel =>
        refine ⟨i + 1, 32 :: st, max d (st.length + 1), rfl, ⟨_, g4, ?_, by omega, by simp; omega, by omega⟩, ?_, K4⟩
        · simp only [List.length_cons, List.reverse_cons, bvs_append]; exact own2
        · rw [HR'.out, ← HL.out, HR.out, leafP, if_pos rfl]
    · have hne : ∀ x r, s.data.toList.drop i = x :: r → (x.toNat : Int) ≠ 40 := fun x r h e => hx ⟨r, by rw [h, show x = 40 from UInt8.toNat_inj.1 (by simpa using (show x.toNat = 40 by omega))]⟩
      refine (take_n g (by omega) hi hne).mono ?_
      rintro e w1 ⟨rfl, hb⟩
      have HX := Lib.hid hx; clear hx hne
      replace K := K.trans (Keeps.of_ext hb (by have := g.lt; omega))
      replace g := g.ext hb; replace own := own_ext own hb; clear hb
      go_wp2_with fail
      by_cases h0 : ∃ r, s.data.toList.drop i = 48 :: r
      · obtain ⟨r, hr⟩ := h0
        obtain ⟨hlt, _, hr'⟩ := drop_cons hr
        refine (take_y g (by omega) hr rfl).mono ?_
        rintro e w2 ⟨rfl, st1⟩
        have HR := Lib.hid hr; have HR' := Lib.hid hr'; clear hr hr'
        have k1 : Keeps B [79] w1 w2 := stored_keeps g st1 (by decide) hB
        replace own := own_keeps own k1 (by decide)
        have K1 := K.trans (keeps_more k1 (by decide)); clear K k1
        replace g := st1.blk; clear st1
        go_wp2_with fail
        go_ret2
        have hl : o = (some 48, r, st, d) := by rw [← HL.out, HR.out]; rfl
        rw [hl]
        exact ⟨rfl, ⟨i + 1, HR'.out, ⟨_, g, own, by omega, Nat.le_succ_of_le hst, Nat.le_succ_of_le hd⟩⟩, K1⟩
      · have hne : ∀ x r, s.data.toList.drop i = x :: r → (x.toNat : Int) ≠ 48 := fun x r h e => h0 ⟨r, by rw [h, show x = 48 from UInt8.toNat_inj.1 (by simpa using (show x.toNat = 48 by omega))]⟩
        refine (take_n g (by omega) hi hne).mono ?_
        rintro e w2 ⟨rfl, hb⟩
        have H0 := Lib.hid h0; clear h0 hne
        replace K := K.trans (Keeps.of_ext hb (by have := g.lt; omega))
        replace g := g.ext hb; replace own := own_ext own hb; clear hb
        go_wp2_with fail
        by_cases h1 : ∃ r, s.data.toList.drop i = 49 :: r
        · obtain ⟨r, hr⟩ := h1
          obtain ⟨hlt, _, hr'⟩ := drop_cons hr
          refine (take_y g (by omega) hr rfl).mono ?_
          rintro e w3 ⟨rfl, st1⟩
          have HR := Lib.hid hr; have HR' := Lib.hid hr'; clear hr hr'
          have k1 : Keeps B [79] w2 w3 := stored_keeps g st1 (by decide) hB
          replace own := own_keeps own k1 (by decide)
          have K1 := K.trans (keeps_more k1 (by decide)); clear K k1
          replace g := st1.blk; clear st1
          go_wp2_with fail
          go_ret2
          have hl : o = (some 49, r, st, d) := by rw [← HL.out, HR.out]; rfl
          rw [hl]
          exact ⟨rfl, ⟨i + 1, HR'.out, ⟨_, g, own, by omega, Nat.le_succ_of_le hst, Nat.le_succ_of_le hd⟩⟩, K1⟩
        · have hne : ∀ x r, s.data.toList.drop i = x :: r → (x.toNat : Int) ≠ 49 := fun x r h e => h1 ⟨r, by rw [h, show x = 49 from UInt8.toNat_inj.1 (by simpa using (show x.toNat = 49 by omega))]⟩
          refine (take_n g (by omega) hi hne).mono ?_
          rintro e w3 ⟨rfl, hb⟩
          have H1 := Lib.hid h1; clear h1 hne
          replace K := K.trans (Keeps.of_ext hb (by have := g.lt; omega))
          replace g := g.ext hb; replace own := own_ext own hb; clear hb
          go_wp2_with fail
          go_ret2
          have hl : o = (none, s.data.toList.drop i, st, d) := by
            rw [← HL.out]
            cases hc : s.data.toList.drop i with
            | nil => rfl
            | cons x r =>
              rw [leafP, if_neg (fun e => HX.out ⟨r, by rw [hc, e]⟩), if_neg (fun e => e.elim (fun e => H0.out ⟨r, by rw [hc, e]⟩) (fun e => H1.out ⟨r, by rw [hc, e]⟩))]
          rw [hl]
          exact ⟨rfl, ⟨i, rfl, ⟨_, g, own, hi, hst, hd⟩⟩, K⟩
  

end Go.Proofs.Ytkfncjaomgcdgaa
