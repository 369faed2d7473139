/- scan. -/
import Derived.Test.YtkfncjaomgcdgaaW8
set_option linter.all false
namespace Go.Proofs.Ytkfncjaomgcdgaa
open Go.RowKit Go.Facts

theorem leafP_len : ∀ (rest st : List UInt8) (d : Nat) {x : UInt8} {o : List UInt8 × List UInt8 × Nat}, leafP rest st d = (some x, o) → o.1.length < rest.length
  | [], st, d, x, o, h => by simp [leafP] at h
  | y :: r, st, d, x, o, h => by
    rw [leafP] at h
    split at h
    · have := leafP_len r _ _ h; simp; omega
    · split at h
      · simp only [Prod.mk.injEq] at h; rw [← h.2]; simp
      · simp at h
theorem closeP_len : ∀ (st : List UInt8) (h : UInt8) (rest : List UInt8) {o : UInt8 × List UInt8 × List UInt8}, closeP h rest st = some o → o.2.1.length ≤ rest.length
  | [], h, rest, o, e => by simp [closeP] at e; rw [← e]; exact Nat.le_refl _
  | l :: st, h, rest, o, e => by
    by_cases hl : l = 32
    · rw [closeP_32 hl] at e; simp at e; rw [← e]; exact Nat.le_refl _
    · rw [closeP_ne hl] at e
      split at e
      · cases e
      · split at e
        · have := closeP_len st 40 _ e; simp; omega
        · cases e
theorem closeP_top : ∀ (st : List UInt8) (h : UInt8) (rest : List UInt8) {x : UInt8} {r : List UInt8} {l : UInt8} {st2 : List UInt8}, closeP h rest st = some (x, r, l :: st2) → l = 32
  | [], h, rest, x, r, l, st2, e => by simp [closeP] at e
  | l' :: st, h, rest, x, r, l, st2, e => by
    by_cases hl : l' = 32
    · rw [closeP_32 hl] at e; simp at e; rw [← e.2.2.1]; exact hl
    · rw [closeP_ne hl] at e
      split at e
      · cases e
      · split at e
        · exact closeP_top st 40 _ e
        · cases e

def scanL : Nat → List UInt8 → List UInt8 → Nat → Nat × Bool
  | 0, _, _, _ => (0, false)
  | n + 1, rest, st, d => match leafP rest st d with
    | (none, _) => (0, false)
    | (some x, r, st1, d1) => match closeP x r st1 with
      | none => (0, false)
      | some (_, r2, []) => (d1, r2.isEmpty)
      | some (h, r2, _ :: st2) => match r2 with
        | [] => (0, false)
        | y :: r3 => if y = 44 then scanL n r3 (h :: st2) d1 else (0, false)

theorem own_set {w : World} {B : Nat} {g cap n j : Nat} {xs : List Value} (h : w.ownsRow B 5 1 (.slice (some ⟨g, 0, none⟩) n cap) n xs) (hj : j < n) (u : Value) :
    (w.setCell ⟨g, j, none⟩ u).ownsRow B 5 1 (.slice (some ⟨g, 0, none⟩) n cap) n (xs.set j u) ∧ Keeps B [5] w (w.setCell ⟨g, j, none⟩ u) ∧ w.frozen? ⟨g, j, none⟩ = false ∧ ∃ v, w.cell? ⟨g, j, none⟩ = some v := by
  obtain ⟨h1, ⟨h0, _⟩ | ⟨g', cap', cur, hv, hg, hh, hc, hM, hs, ht⟩⟩ := h
  · cases h0
  · simp only [Value.slice.injEq, Option.some.injEq, Addr.mk.injEq] at hv
    obtain ⟨⟨rfl, _⟩, _, rfl⟩ := hv
    have hb : Blk w g cur.toList 5 := by unfold Blk; simpa using hh
    refine ⟨⟨by simpa using h1, .inr ⟨g, cap, cur.setIfInBounds j u, rfl, hg, ?_, hc, hM, by simpa using hs, ?_⟩⟩, stored_keeps hb (stored1 hb j u) (by decide) hg, hb.f j, ?_⟩
    · have := blk_set hb j u
      unfold Blk at this
      rw [this]; congr 2; apply Array.ext'; simp
    · rw [← ht]; simp [List.take_set]
    · have hlt : j < cur.toList.length := by simp; omega
      exact ⟨_, hb.c j (List.getElem?_eq_getElem hlt)⟩

theorem bvs_setlast (l h : UInt8) (st : List UInt8) : (bvs (l :: st).reverse).set st.length (bv h) = bvs (h :: st).reverse := by
  rw [List.reverse_cons, List.reverse_cons, bvs_append, bvs_append, List.set_append, if_neg (by simp [bvs_length])]
  simp [bvs_length, bvs]

def ScanRel (w : World) (k B : Nat) (s : ByteArray) (o : Nat × Bool) (n : Nat) (wr : World) : Prop :=
  ∃ i st d, (s.data.toList.drop i).length < n ∧ Scan wr k B s i st d ∧ scanL n (s.data.toList.drop i) st d = o ∧ Keeps B [79, 5] w wr

set_option maxRecDepth 100000 in
set_option maxHeartbeats 4000000 in
theorem scan_c {s : ByteArray} {w : World} (hs : s.size ≤ 1000000000) :
    Calls Try.prog 46 #[.string s] w (Ret w (PP.eq (.tuple #[.int .i64 ((scanL (s.size + 1) s.data.toList [] 0).1 : Nat), .bool (scanL (s.size + 1) s.data.toList [] 0).2])).p) := by
  generalize ho : scanL (s.size + 1) s.data.toList [] 0 = o
  go_enter Try.func46, Try.ntmps46
  go_wp2_with fail
  obtain ⟨W, hW, hx, z0, g⟩ := box1 w [.string s, .int .i64 0, .slice none 0 0, .int .i64 0] 79
  rw [hW]; clear hW
  generalize hk : w.heap.size = k
  have Hk := Lib.hid hk; clear hk
  rw [Hk.out] at g
  have FIN : Hid (∀ w', Keeps k [79, 5] W w' → Ext w w') := fun w' K => Below.trans hx (by rw [Hk.out]; exact K.below)
  have hkW : k < W.heap.size := g.lt
  go_loopg [] (s.size + 1) (fun n wr => ScanRel W k k s o n wr)
  case atStart => exact ⟨0, [], 0, by simp, ⟨_, g, World.ownsRow_nil _ _ _ _, by omega, by simp, by omega⟩, ho, Keeps.refl _ _ _⟩
  case round =>
    clear g ho
    obtain ⟨i, st, d, hlen, hS, hl, K⟩ := hrel
    have HL := Lib.hid hl; clear hl
    have HLen := Lib.hid hlen; clear hlen
    go_wp2_with fail
    refine (leaf_c hS (Nat.le_refl _) hs).mono ?_
    generalize hlf : leafP (s.data.toList.drop i) st d = lf
    rintro e w1 ⟨rfl, ⟨i1, hr1, hS1⟩, k1⟩
    obtain ⟨x, r1, st1, d1⟩ := lf
    have Hlf := Lib.hid hlf; clear hlf
    have Hr1 := Lib.hid hr1; clear hr1
    replace K := K.trans k1; clear k1 hS
    cases x with
    | none =>
      go_wp2_with fail
      go_ret2
      have hl : o = (0, false) := by
        rw [← HL.out]
        cases gk with
        | zero => rfl
        | succ n => rw [scanL, Hlf.out]
      rw [hl]
      exact ⟨_, rfl, rfl, FIN.out _ K⟩
    | some x =>
      go_wp2_with fail
      refine (close_c hS1 (Nat.le_refl _) hs).mono ?_
      rw [Hr1.out]
      generalize hcl : closeP x r1 st1 = cl
      rintro e w2 ⟨hcase, k2⟩
      have Hcl := Lib.hid hcl; clear hcl
      replace K := K.trans k2; clear k2 hS1
      cases cl with
      | none =>
        subst hcase
        go_wp2_with fail
        go_ret2
        have hl : o = (0, false) := by
          rw [← HL.out]
          cases gk with
          | zero => rfl
          | succ n => rw [scanL, Hlf.out]; simp only [Hcl.out]
        rw [hl]
        exact ⟨_, rfl, rfl, FIN.out _ K⟩
      | some cl =>
        obtain ⟨h, r2, st2⟩ := cl
        obtain ⟨rfl, i2, hr2, L, g, own, hi2, hst2, hd2⟩ := hcase
        obtain ⟨ao, cp, rfl⟩ := own_slice own
        have e2 := g.c 2 rfl; have e1 := g.c 1 rfl; have e3 := g.c 3 rfl
        cases st2 with
        | nil =>
          have hq : ((i2 : Int) == (s.size : Int)) = r2.isEmpty := by
            rw [Bool.eq_iff_iff, beq_iff_eq, List.isEmpty_iff, ← hr2]
            constructor
            · intro h; simp; omega
            · intro h; have := drop_nil h; omega
          have Hr2 := Lib.hid hr2; clear hr2
          go_wp2_with fail
          go_region
          go_wp2_with fail
          go_ret2
          have hl : o = (d1, r2.isEmpty) := by
            rw [← HL.out]
            cases gk with
            | zero => have := HLen.out; omega
            | succ n => rw [scanL, Hlf.out]; simp only [Hcl.out]
          rw [hl]
          exact ⟨_, rfl, rfl, (FIN.out _ K).drew⟩
        | cons l st2 =>
          have hl32 := closeP_top _ _ _ Hcl.out
          simp only [List.length_cons] at hst2
          have hub : (st2.length : Int) ≤ 1000000000 := by omega
          have hge : (0 : Int) ≤ (st2.length : Int) := by omega
          obtain ⟨gr, cp', hv, hcap, hBg, hcell⟩ := own_at own (by simp)
          obtain ⟨rfl, rfl⟩ : ao = some ⟨gr, 0, none⟩ ∧ cp = cp' := by simpa using hv
          clear hv hcell
          obtain ⟨own3, k3, f3, u3', c3⟩ := own_set own (j := st2.length) (by simp) (bv h)
          rw [bvs_setlast] at own3
          have hlt : (st2.length : Int) < ((st2.length + 1 : Nat) : Int) := by omega
          simp only [List.length_cons] at e2
          unfold bv at k3 own3 ⊢
          have Hr2 := Lib.hid hr2; clear hr2
          go_wp2_with fail
          obtain ⟨w3, hW⟩ : ∃ W3, w2.setCell ⟨gr, st2.length, none⟩ (.int .u8 (h.toNat : Int)) = W3 := ⟨_, rfl⟩
          rw [hW] at own3 k3 ⊢; clear hW
          replace g := k3.keep g (by decide)
          replace K := K.trans (keeps_more k3 (by decide))
          clear own e1 e2 e3 f3 c3 k3
          by_cases hx2 : ∃ r, s.data.toList.drop i2 = 44 :: r
          · obtain ⟨r, hr⟩ := hx2
            obtain ⟨hlt', _, hr'⟩ := drop_cons hr
            refine (take_y g (by omega) hr rfl).mono ?_
            rintro e w4 ⟨rfl, st4⟩
            have HR := Lib.hid hr; have HR' := Lib.hid hr'; clear hr hr'
            have k4 : Keeps k [79] w3 w4 := stored_keeps g st4 (by decide) (Nat.le_refl _)
            replace own3 := own_keeps own3 k4 (by decide)
            replace K := K.trans (keeps_more k4 (by decide)); clear k4
            replace g := st4.blk; clear st4
            go_wp2_with fail
            go_roundg (gk - 1)
            case measure => have := HLen.out; omega
            case rel =>
              have e1 := leafP_len _ _ _ Hlf.out
              have e2 := closeP_len _ _ _ Hcl.out
              have e3 := HLen.out
              have e4 : r2 = 44 :: r := by rw [← Hr2.out, HR.out]
              rw [e4] at e2
              simp only [List.length_cons] at e1 e2
              refine ⟨i2 + 1, h :: st2, d1, ?_, ⟨_, g, own3, by omega, by simp only [List.length_cons]; omega, by omega⟩, ?_, K⟩
              · rw [HR'.out]; omega
              · rw [HR'.out, ← HL.out]
                cases gk with
                | zero => omega
                | succ n => rw [scanL, Hlf.out]; simp only [Hcl.out, e4, if_true]; rfl
          · have hne : ∀ x r, s.data.toList.drop i2 = x :: r → (x.toNat : Int) ≠ 44 := fun x r h e => hx2 ⟨r, by rw [h, show x = 44 from UInt8.toNat_inj.1 (by simpa using (show x.toNat = 44 by omega))]⟩
            refine (take_n g (by omega) hi2 hne).mono ?_
            rintro e w4 ⟨rfl, hb4⟩
            replace K := K.trans (Keeps.of_ext hb4 (by have := g.lt; omega))
            have HX := Lib.hid hx2; clear hx2 hne
            go_wp2_with fail
            go_ret2
            have hl : o = (0, false) := by
              rw [← HL.out]
              cases gk with
              | zero => rfl
              | succ n =>
                rw [scanL, Hlf.out]; simp only [Hcl.out]
                cases hc : r2 with
                | nil => rfl
                | cons y r3 => simp only []; rw [if_neg (fun e => HX.out ⟨r3, by rw [Hr2.out, hc, e]⟩)]
            rw [hl]
            exact ⟨_, rfl, rfl, FIN.out _ K⟩

end Go.Proofs.Ytkfncjaomgcdgaa
