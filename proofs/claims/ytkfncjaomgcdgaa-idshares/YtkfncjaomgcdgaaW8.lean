/- The scanner: closePairs. -/
import Derived.Test.YtkfncjaomgcdgaaW7
set_option linter.all false
namespace Go.Proofs.Ytkfncjaomgcdgaa
open Go.RowKit Go.Facts

theorem own_at {w : World} {B : Nat} {L : Value} {n : Nat} {xs : List Value} (h : w.ownsRow B 5 1 L n xs) (hn : 0 < n) : ∃ g cap, L = .slice (some ⟨g, 0, none⟩) n cap ∧ n ≤ cap ∧ B ≤ g ∧ ∀ j v, xs[j]? = some v → w.cell? ⟨g, j, none⟩ = some v := by
  obtain ⟨h1, ⟨rfl, rfl⟩ | ⟨g, cap, cur, rfl, hg, hh, hc, _, hs, ht⟩⟩ := h
  · omega
  · refine ⟨g, cap, rfl, hc, hg, fun j v hv => ?_⟩
    unfold World.cell?
    rw [show w.heap[(⟨g, j, none⟩ : Addr).block]? = _ from hh]
    rw [← ht, List.getElem?_take] at hv
    split at hv
    · simpa using hv
    · cases hv
theorem own_take {w : World} {B : Nat} {g cap n m : Nat} {xs : List Value} (h : w.ownsRow B 5 1 (.slice (some ⟨g, 0, none⟩) n cap) n xs) (hm : m ≤ n) : w.ownsRow B 5 1 (.slice (some ⟨g, 0, none⟩) m cap) m (xs.take m) := by
  obtain ⟨h1, ⟨h0, _⟩ | ⟨g', cap', cur, hv, hg, hh, hc, hM, hs, ht⟩⟩ := h
  · cases h0
  · simp only [Value.slice.injEq, Option.some.injEq, Addr.mk.injEq] at hv
    obtain ⟨⟨rfl, _⟩, _, rfl⟩ := hv
    refine ⟨by simp; omega, .inr ⟨g, cap, cur, rfl, hg, hh, by omega, hM, hs, ?_⟩⟩
    rw [← ht, List.take_take]
    congr 1; omega

theorem bvs_last (l : UInt8) (st : List UInt8) : (bvs (l :: st).reverse)[st.length]? = some (bv l) := by
  rw [List.reverse_cons, bvs_append, List.getElem?_append_right (by simp [bvs_length])]; simp [bvs_length, bvs]
theorem bvs_init (l : UInt8) (st : List UInt8) : (bvs (l :: st).reverse).take st.length = bvs st.reverse := by
  rw [List.reverse_cons, bvs_append, List.take_append_of_le_length (by simp [bvs_length]), List.take_of_length_le (by simp [bvs_length])]

def closeP : UInt8 → List UInt8 → List UInt8 → Option (UInt8 × List UInt8 × List UInt8)
  | half, rest, [] => some (half, rest, [])
  | half, rest, l :: st => if l = 32 then some (half, rest, l :: st) else match rest with
    | [] => none
    | x :: r => if x = 41 ∧ mayB l half = true then closeP 40 r st else none

theorem closeP_32 {h l : UInt8} {rest st : List UInt8} (hl : l = 32) : closeP h rest (l :: st) = some (h, rest, l :: st) := by
  cases rest <;> simp [closeP, hl]
theorem closeP_ne {h l : UInt8} {rest st : List UInt8} (hl : l ≠ 32) : closeP h rest (l :: st) = match rest with
    | [] => none
    | x :: r => if x = 41 ∧ mayB l h = true then closeP 40 r st else none := by
  cases rest <;> simp [closeP, hl]

def ClosePost (w : World) (k B : Nat) (s : ByteArray) (d : Nat) (o : Option (UInt8 × List UInt8 × List UInt8)) (e : Ending) (w' : World) : Prop :=
  (match o with
   | some (h, r, st) => e = .returned (.tuple #[bv h, .bool true]) ∧ ∃ i', s.data.toList.drop i' = r ∧ Scan w' k B s i' st d
   | none => e = .returned (.tuple #[bv 32, .bool false])) ∧ Keeps B [79, 5] w w'

def CloseRel (w : World) (k B : Nat) (s : ByteArray) (d : Nat) (o : Option (UInt8 × List UInt8 × List UInt8)) (n : Nat) (a b : Value) (wr : World) : Prop :=
  ∃ i h st, n = st.length ∧ a = bv h ∧ b = .int .i64 ((st.length : Int) - 1) ∧ Scan wr k B s i st d ∧ closeP h (s.data.toList.drop i) st = o ∧ Keeps B [79, 5] w wr

set_option maxRecDepth 100000 in
set_option maxHeartbeats 2000000 in
theorem close_c {k B i d : Nat} {s : ByteArray} {st : List UInt8} {h : UInt8} {w : World} (hS : Scan w k B s i st d) (hB : B ≤ k) (hs : s.size ≤ 1000000000) :
    Calls Try.prog 53 #[.pointer (some ⟨k, 0, none⟩), bv h] w (ClosePost w k B s d (closeP h (s.data.toList.drop i) st)) := by
  generalize ho : closeP h (s.data.toList.drop i) st = o
  obtain ⟨L, g, own, hi, hst, hd⟩ := hS
  obtain ⟨ao, cp, rfl⟩ := own_slice own
  have e2 := g.c 2 rfl
  unfold bv
  go_enter Try.func53, Try.ntmps53
  go_wp2_with fail
  go_loopg [1, 6] st.length (fun n a b wr => CloseRel w k B s d o n a b wr)
  case atStart => exact ⟨i, h, st, rfl, rfl, rfl, ⟨_, g, own, hi, hst, hd⟩, ho, Keeps.refl _ _ _⟩
  case round =>
    clear own g e2 hi hst ho
    obtain ⟨i, h, st, hn, rfl, rfl, ⟨L, g, own, hi, hst, hd⟩, hl, K⟩ := hrel
    have HN := Lib.hid hn; clear hn
    have HL := Lib.hid hl; clear hl
    cases st with
    | nil =>
      have hneg : decide ((0 : Int) ≤ (([] : List UInt8).length : Int) - 1) = false := by simp
      go_wp2_with fail
      go_ret2
      have hl : o = some (h, s.data.toList.drop i, []) := by rw [← HL.out, closeP]
      rw [hl]
      exact ⟨⟨rfl, i, rfl, ⟨_, g, own, hi, hst, hd⟩⟩, K⟩
    | cons l st =>
      rw [show (((l :: st).length : Int) - 1) = ((st.length : Nat) : Int) from by simp]
      obtain ⟨gr, cp, rfl, hcap, hBg, hcell⟩ := own_at own (by simp)
      have hc := hcell st.length (bv l) (bvs_last l st)
      have Hcell := Lib.hid hcell; clear hcell
      unfold bv at hc
      have e2 := g.c 2 rfl
      have hub : (st.length : Int) ≤ 1000000000 := by simp only [List.length_cons] at hst; omega
      have hge : (0 : Int) ≤ (st.length : Int) := by omega
      have hlt : (st.length : Int) < ((st.length + 1 : Nat) : Int) := by omega
      simp only [List.length_cons] at e2 own
      by_cases h32 : l = 32
      · have hb : ((l.toNat : Int) != 32) = false := by rw [h32]; rfl
        go_wp2_with fail
        go_ret2
        have hl : o = some (h, s.data.toList.drop i, l :: st) := by rw [← HL.out, closeP_32 h32]
        rw [hl]
        exact ⟨⟨rfl, i, rfl, ⟨_, g, own, hi, hst, hd⟩⟩, K⟩
      · have hb : ((l.toNat : Int) != 32) = true := by rw [bne_iff_ne]; intro e; exact h32 (UInt8.toNat_inj.1 (by simpa using (show l.toNat = 32 by omega)))
        go_wp2_with fail
        by_cases hx : ∃ r, s.data.toList.drop i = 41 :: r
        · obtain ⟨r, hr⟩ := hx
          obtain ⟨hlt', _, hr'⟩ := drop_cons hr
          refine (take_y g (by omega) hr rfl).mono ?_
          rintro e w1 ⟨rfl, st1⟩
          have HR := Lib.hid hr; have HR' := Lib.hid hr'; clear hr hr' e2 hc
          have k1 : Keeps B [79] wr w1 := stored_keeps g st1 (by decide) hB
          replace own := own_keeps own k1 (by decide)
          have K1 := K.trans (keeps_more k1 (by decide)); clear K k1
          replace g := st1.blk; clear st1
          simp only [List.length_cons] at g
          have e2 := g.c 2 rfl; have f2 := g.f 2
          have hc : w1.cell? ⟨gr, st.length, none⟩ = some (bv l) := by
            obtain ⟨gr', cp', hv, _, _, hcell⟩ := own_at own (by omega)
            simp only [Value.slice.injEq, Option.some.injEq, Addr.mk.injEq] at hv
            rw [hv.1.1]; exact hcell _ _ (bvs_last l st)
          unfold bv at hc
          go_wp2_with fail
          refine (mayPair_c l h _).mono ?_
          rintro e w2 ⟨rfl, rfl⟩
          by_cases hm : mayB l h = true
          · have hcap' : (st.length : Int) ≤ (cp : Int) := by simp only [List.length_cons] at hcap; omega
            go_wp2_with fail
            obtain ⟨w3, hW, st3⟩ : ∃ W, w1.setCell ⟨k, 2, none⟩ (.slice (some ⟨gr, 0, none⟩) st.length cp) = W ∧ Stored w1 W k _ 79 := ⟨_, rfl, stored1 g 2 _⟩
            rw [hW]; clear hW
            have k3 : Keeps B [79] w1 w3 := stored_keeps g st3 (by decide) hB
            have own3 := own_keeps (own_take own (m := st.length) (by omega)) k3 (by decide)
            have K3 := K1.trans (keeps_more k3 (by decide))
            have g3 := st3.blk
            simp only [List.set_cons_zero, List.set_cons_succ] at g3
            go_roundg st.length
            case measure => rw [HN.out]; simp
            case rel =>
              refine ⟨i + 1, 40, st, rfl, rfl, by go_num, ⟨_, g3, ?_, by omega, by simp only [List.length_cons] at hst; omega, by omega⟩, ?_, K3⟩
              · rw [← bvs_init l st]; exact own3
              · rw [HR'.out, ← HL.out, HR.out, closeP_ne h32]; simp [hm]
          · have hm' : mayB l h = false := by simpa using hm
            go_wp2_with fail
            go_ret2
            have hl : o = none := by rw [← HL.out, HR.out, closeP_ne h32]; simp [hm']
            rw [hl]
            exact ⟨rfl, K1⟩
        · have hne : ∀ x r, s.data.toList.drop i = x :: r → (x.toNat : Int) ≠ 41 := fun x r h e => hx ⟨r, by rw [h, show x = 41 from UInt8.toNat_inj.1 (by simpa using (show x.toNat = 41 by omega))]⟩
          refine (take_n g (by omega) hi hne).mono ?_
          rintro e w1 ⟨rfl, hb1⟩
          have HX := Lib.hid hx; clear hx hne
          replace K := K.trans (Keeps.of_ext hb1 (by have := g.lt; omega))
          go_wp2_with fail
          go_ret2
          have hl : o = none := by
            rw [← HL.out, closeP_ne h32]
            cases hcs : s.data.toList.drop i with
            | nil => rfl
            | cons x r => simp only []; rw [if_neg (fun e => HX.out ⟨r, by rw [hcs, e.1]⟩)]
          rw [hl]
          exact ⟨rfl, K⟩

end Go.Proofs.Ytkfncjaomgcdgaa
