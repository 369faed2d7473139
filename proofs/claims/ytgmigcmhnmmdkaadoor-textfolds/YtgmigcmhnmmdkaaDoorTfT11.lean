/- The library's fields are the words. -/
import Derived.Test.YtgmigcmhnmmdkaaDoorTfT10
set_option linter.all false
set_option maxRecDepth 100000
namespace Go.Proofs.YtgmigcmhnmmdkaaDoor
open Go.RowKit Go.Sep Go.Lib
def pB (r : Nat) : Bool := decide (r = 32)
def piece (l : List UInt8) (x : Nat × Nat) : List UInt8 := (l.drop x.1).take (x.2 - x.1)
def stL (l : List UInt8) (pos : Nat) : Option Nat → List UInt8
  | some a => piece l (a, pos)
  | none => []
theorem piece_ne {l : List UInt8} {a pos : Nat} (h : a < pos) (h2 : pos ≤ l.length) : piece l (a, pos) ≠ [] := fun e => by
  have := congrArg List.length e
  simp [piece] at this; omega
theorem piece_more {l : List UInt8} {a pos w : Nat} (h : a ≤ pos) : piece l (a, pos + w) = piece l (a, pos) ++ (l.drop pos).take w := by
  unfold piece
  dsimp only
  rw [show pos + w - a = (pos - a) + w by omega, List.take_add, List.drop_drop, show a + (pos - a) = pos by omega]
theorem sgn_no32 {l : List UInt8} {pos : Nat} (h : pos < l.length) (hr : ¬ (decodeL (l.drop pos)).1 = 32) : ∀ b ∈ (l.drop pos).take (decodeL (l.drop pos)).2, b ≠ 32 := by
  intro b hb e
  obtain ⟨k, hk, hbk⟩ := List.getElem_of_mem hb
  rw [List.length_take] at hk
  have hk2 : k < (decodeL (l.drop pos)).2 := by omega
  have hg : (l.drop pos).getD k 0 = 32 := by
    have h3 : k < (l.drop pos).length := by omega
    have h4 : (l.drop pos)[k] = b := by rw [← hbk, List.getElem_take]
    rw [← e, ← h4, List.getD, List.getElem?_eq_getElem h3]; rfl
  by_cases hk0 : k = 0
  · subst hk0
    exact hr (by rw [dec_32 (by rw [hg]; rfl)])
  · cases hbad : badD (decodeL (l.drop pos)) with
    | true => have := dec_one hbad; omega
    | false =>
      have := dec_byte hk2 hbad (by omega)
      rw [hg] at this; exact absurd this (by decide)
theorem getD_drop0 (l : List UInt8) (pos : Nat) : (l.drop pos).getD 0 0 = l.getD pos 0 := by simp [List.getD, List.getElem?_drop]
set_option maxHeartbeats 1000000 in
theorem spans_wd (l : List UInt8) : ∀ (f pos : Nat) (st : Option Nat) (acc : List (Nat × Nat)), l.length ≤ pos + f → (∀ a, st = some a → a < pos) → pos ≤ l.length →
    (closeSpans ⟨l.toArray⟩ (spansFromP pB ⟨l.toArray⟩ f pos st acc)).map (piece l) = acc.map (piece l) ++ wd (stL l pos st) (l.drop pos)
  | 0, pos, st, acc, hf, hs, hp => by
    have hpl : pos = l.length := by omega
    rw [List.drop_of_length_le (by omega)]
    cases st with
    | none => simp [spansFromP, closeSpans, stL, wd]
    | some a =>
      have hne := piece_ne (hs a rfl) hp
      show ((acc ++ [(a, l.length)]).map (piece l)) = _
      rw [← hpl]
      show _ = acc.map (piece l) ++ (if piece l (a, pos) = [] then [] else [piece l (a, pos)])
      rw [if_neg hne]; simp
  | f + 1, pos, st, acc, hf, hs, hp => by
    by_cases hlt : pos < l.length
    · have hsz : pos < (⟨l.toArray⟩ : ByteArray).size := hlt
      have hw := dW_pos l pos
      have hle := dW_le hlt
      unfold spansFromP
      rw [if_pos hsz, dec_at]
      by_cases hr : (decodeL (l.drop pos)).1 = 32
      · rw [show pB (decodeL (l.drop pos)).1 = true from decide_eq_true hr]
        have h32 := dec_is32 hr
        have hd : decodeL (l.drop pos) = (32, 1) := dec_32 h32
        have hb : l.getD pos 0 = 32 := by rw [← getD_drop0]; exact UInt8.toNat_inj.1 h32
        have hdr : l.drop pos = 32 :: l.drop (pos + 1) := by rw [drop_cons hlt, hb]
        rw [if_pos rfl, hd]
        cases st with
        | none =>
          dsimp only
          rw [spans_wd l f (pos + 1) none acc (by omega) (by simp) (by omega), hdr]
          simp [stL, wd]
        | some a =>
          dsimp only
          have hne := piece_ne (hs a rfl) hp
          rw [spans_wd l f (pos + 1) none (acc ++ [(a, pos)]) (by omega) (by simp) (by omega), hdr]
          show _ = acc.map (piece l) ++ (if (32 : UInt8) = 32 then (if piece l (a, pos) = [] then _ else piece l (a, pos) :: wd [] (l.drop (pos + 1))) else _)
          rw [if_pos rfl, if_neg hne]
          simp [stL]
      · rw [show pB (decodeL (l.drop pos)).1 = false from decide_eq_false hr]
        have hno := sgn_no32 hlt hr
        have hsp : l.drop pos = (l.drop pos).take (decodeL (l.drop pos)).2 ++ l.drop (pos + (decodeL (l.drop pos)).2) := by
          rw [← List.drop_drop, List.take_append_drop]
        have e2 : (decodeL (l.drop pos)).2 = dW l pos := rfl
        rw [if_neg (by simp)]
        cases st with
        | none =>
          dsimp only
          rw [spans_wd l f (pos + (decodeL (l.drop pos)).2) (some pos) acc (by omega) (fun a ha => by cases ha; omega) (by omega)]
          conv => rhs; rw [hsp, wd_plain _ _ _ hno]
          rw [show stL l (pos + (decodeL (l.drop pos)).2) (some pos) = piece l (pos, pos + (decodeL (l.drop pos)).2) from rfl, piece_more (Nat.le_refl _)]
          rw [show piece l (pos, pos) = [] by simp [piece]]
          rfl
        | some a =>
          dsimp only
          have ha := hs a rfl
          rw [spans_wd l f (pos + (decodeL (l.drop pos)).2) (some a) acc (by omega) (fun a' ha' => by cases ha'; omega) (by omega)]
          conv => rhs; rw [hsp, wd_plain _ _ _ hno]
          rw [show stL l (pos + (decodeL (l.drop pos)).2) (some a) = piece l (a, pos + (decodeL (l.drop pos)).2) from rfl, piece_more (by omega)]
          rfl
    · have hpl : pos = l.length := by omega
      rw [spansFromP_end pB ⟨l.toArray⟩ (f + 1) pos st acc hlt, List.drop_of_length_le (by omega)]
      cases st with
      | none => simp [closeSpans, stL, wd]
      | some a =>
        have hne := piece_ne (hs a rfl) hp
        show ((acc ++ [(a, l.length)]).map (piece l)) = _
        rw [← hpl]
        show _ = acc.map (piece l) ++ (if piece l (a, pos) = [] then [] else [piece l (a, pos)])
        rw [if_neg hne]; simp
theorem fields_wd (l : List UInt8) : (goFieldsP pB ⟨l.toArray⟩).map (·.data.toList) = wd [] l := by
  unfold goFieldsP spansOfP
  rw [List.map_map]
  have h := spans_wd l l.length 0 none [] (by omega) (by simp) (by omega)
  have e : ((·.data.toList) ∘ fun x : Nat × Nat => (⟨l.toArray⟩ : ByteArray).extract x.1 x.2) = piece l := by
    funext x
    show ((⟨l.toArray⟩ : ByteArray).extract x.1 x.2).data.toList = _
    rw [mid_string]; rfl
  rw [e]
  rw [List.map_nil, List.nil_append, List.drop_zero] at h
  exact h
end Go.Proofs.YtgmigcmhnmmdkaaDoor
