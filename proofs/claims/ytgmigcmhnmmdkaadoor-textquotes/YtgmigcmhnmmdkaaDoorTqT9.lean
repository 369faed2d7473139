/- A sign's place among the digits. -/
import Derived.Test.YtgmigcmhnmmdkaaDoorTqT8
import Derived.Test.YtgmigcmhnmmdkaaDoorTqX6
import Derived.Test.YtgmigcmhnmmdkaaDoorTqShelfC
set_option linter.all false
set_option maxRecDepth 100000
namespace Go.Proofs.YtgmigcmhnmmdkaaDoor
open Go.RowKit Go.Sep
def idxH (c : Nat) : Int := Lib.indexByte hexS (UInt8.ofNat c)
theorem index_c {I : IM} {c : Nat} : Fun Tryd.prog 112 #[.string ⟨hexS.toArray⟩, .int .u8 ((c : Nat) : Int)] I (fun v J => v = .int .i64 (idxH c)) := fun w hw =>
  (Tryd.strings_IndexByte ⟨hexS.toArray⟩ ((c : Nat) : Int) w).mono fun e w' ⟨he, hw'⟩ => by subst he; subst hw'; exact ⟨_, I, [], rfl, St.start hw, rfl⟩
theorem idx_dig : ∀ c : Fin 256, IntKind.wrap .u8 (idxH c.val) = ((digP c.val : Nat) : Int) := by decide +kernel
theorem conv_dig {w : World} {c : Nat} (hc : c < 256) : (convert 3 5 (.int .i64 (idxH c))).run Tryd.prog w = .ok (.int .u8 ((digP c : Nat) : Int)) w := by
  rw [← idx_dig ⟨c, hc⟩]; kernel_rfl
/-- the document's digit -/
def dgt (c : Nat) : Nat := if 48 ≤ c ∧ c ≤ 57 then c - 48 else if 97 ≤ c ∧ c ≤ 102 then c - 97 + 10 else 16
theorem dgt_lt (c : Nat) : dgt c ≤ 16 := by
  unfold dgt
  split
  · omega
  · split <;> omega
theorem dg1 {c : Nat} (h : 48 ≤ c ∧ c ≤ 57) : Value.int .u8 ((c - 48 : Nat) : Int) = .int .u8 ((dgt c : Nat) : Int) := by unfold dgt; rw [if_pos h]
theorem dg2 {c : Nat} (h : ¬ (48 ≤ c ∧ c ≤ 57)) (h2 : 97 ≤ c ∧ c ≤ 102) : Value.int .u8 ((c - 97 + 10 : Nat) : Int) = .int .u8 ((dgt c : Nat) : Int) := by unfold dgt; rw [if_neg h, if_pos h2]
theorem dg3 {c : Nat} (h : ¬ (48 ≤ c ∧ c ≤ 57)) (h2 : ¬ (97 ≤ c ∧ c ≤ 102)) : Value.int .u8 16 = .int .u8 ((dgt c : Nat) : Int) := by unfold dgt; rw [if_neg h, if_neg h2]; rfl
theorem fs1 {l : List UInt8} (h : ¬ (l.getD 0 0).toNat = 92) : (l.getD 0 0).toNat = fstP l := by unfold fstP; rw [decide_eq_false h]; rfl
theorem fs2 {l : List UInt8} (h : (l.getD 0 0).toNat = 92) (h2 : l.length < 3 ∨ (l.getD 1 0).toNat = 92) : 92 = fstP l := by
  unfold fstP; rw [decide_eq_true h]
  have : (decide (l.length < 3) || decide ((l.getD 1 0).toNat = 92)) = true := by simpa using h2
  rw [this]; rfl
theorem fs3 {l : List UInt8} (h : (l.getD 0 0).toNat = 92) (h2 : ¬ l.length < 3) (h3 : ¬ (l.getD 1 0).toNat = 92) : bor 8 (bshl 8 (digP (l.getD 1 0).toNat) 4) (digP (l.getD 2 0).toNat) = fstP l := by
  unfold fstP; rw [decide_eq_true h, decide_eq_false h2, decide_eq_false h3]; rfl
/-- one digit of sixteen, cut out -/
theorem hex_mid : ∀ k : Fin 16, (hexS.drop k.val).take (k.val + 1 - k.val) = [hexS.getD k.val 0] := by decide +kernel
theorem mid_one {l : List UInt8} {i : Nat} (h : i < l.length) : (l.drop i).take (i + 1 - i) = [l.getD i 0] := by
  rw [Nat.add_sub_cancel_left, drop_cons h]; rfl
theorem rq_92 {l : List UInt8} {i : Nat} (h : i < l.length) (e : (l.getD i 0).toNat = 92) : quoL (l.take i) ++ [92, 92] = quoL (l.take (i + 1)) := by
  rw [← quoL_snoc h, quo_0 e]
theorem rq_esc {l : List UInt8} {i : Nat} (h : i < l.length) (e : ¬ (l.getD i 0).toNat = 92) (e2 : (l.getD i 0).toNat ≤ 32 ∨ 127 ≤ (l.getD i 0).toNat ∨ (l.getD i 0).toNat = 34 ∨ (l.getD i 0).toNat = 59) :
    quoL (l.take i) ++ (([92] ++ ((hexS.drop ((l.getD i 0).toNat / 16)).take ((l.getD i 0).toNat / 16 + 1 - (l.getD i 0).toNat / 16))) ++ ((hexS.drop ((l.getD i 0).toNat % 16)).take ((l.getD i 0).toNat % 16 + 1 - (l.getD i 0).toNat % 16))) = quoL (l.take (i + 1)) := by
  have hb := byte_lt (l.getD i 0)
  rw [← quoL_snoc h, ← quo_1 e (esc_t e2)]
  have h1 := hex_mid ⟨(l.getD i 0).toNat / 16, by omega⟩
  have h2 := hex_mid ⟨(l.getD i 0).toNat % 16, by omega⟩
  dsimp only at h1 h2
  rw [h1, h2]; rfl
theorem rq_pl {l : List UInt8} {i : Nat} (h : i < l.length) (e : ¬ (l.getD i 0).toNat = 92) (e2 : ¬ ((l.getD i 0).toNat ≤ 32 ∨ 127 ≤ (l.getD i 0).toNat ∨ (l.getD i 0).toNat = 34 ∨ (l.getD i 0).toNat = 59)) :
    quoL (l.take i) ++ ((l.drop i).take (i + 1 - i)) = quoL (l.take (i + 1)) := by
  rw [← quoL_snoc h, ← quo_2 e (esc_f e2), mid_one h, ofNat_toNat]
/-- the document's way -/
def RI (l out : List UInt8) (i : Nat) : Prop := ∀ o, quoL o = l → ∃ o', o = out ++ o' ∧ quoL o' = l.drop i
theorem ri_0 (l : List UInt8) : RI l [] 0 := fun o h => ⟨o, rfl, h⟩
theorem ri_d {l out : List UInt8} {i : Nat} (h : RI l out i) (hi : i < l.length) {o : List UInt8} (ho : quoL o = l) : ∃ d o', o = out ++ d :: o' ∧ quo d.toNat ++ quoL o' = l.drop i := by
  obtain ⟨o', e1, e2⟩ := h o ho
  cases o' with
  | nil => exact absurd e2.symm (drop_ne hi)
  | cons d o' => exact ⟨d, o', e1, by rw [← e2, quoL_cons]⟩
theorem drop_at {l x y : List UInt8} {i : Nat} (h : x ++ y = l.drop i) : ∀ k, k < x.length → l.getD (i + k) 0 = x.getD k 0 := fun k hk => by
  have : (l.drop i).getD k 0 = l.getD (i + k) 0 := by simp [List.getD, List.getElem?_drop]
  rw [← this, ← h]; simp [List.getD, List.getElem?_append, hk]
theorem drop_more {l x y : List UInt8} {i : Nat} (h : x ++ y = l.drop i) : l.drop (i + x.length) = y := by
  rw [← List.drop_drop, ← h]; simp
theorem quo_h0 {c : Nat} (h : ¬ c = 92) (e : escB c = false) : quo c = [UInt8.ofNat c] := (quo_2 h e).symm
theorem ri_1 {l out : List UInt8} {i : Nat} (h : RI l out i) (hi : i < l.length) (e : ¬ (l.getD i 0).toNat = 92) : RI l (out ++ [UInt8.ofNat (l.getD i 0).toNat]) (i + 1) := fun o ho => by
  obtain ⟨d, o', e1, e2⟩ := ri_d h hi ho
  have h0 := drop_at e2 0 (quo_pos _)
  rw [Nat.add_zero] at h0
  have hd : ¬ d.toNat = 92 := fun q => e (by rw [h0, q]; rfl)
  have he : escB d.toNat = false := by
    cases q : escB d.toNat with
    | false => rfl
    | true => exact absurd (by rw [h0, ← quo_1 hd q]; rfl) e
  have hq := quo_h0 hd he
  rw [hq, ofNat_toNat] at h0 e2
  have h3 := drop_more e2
  refine ⟨o', ?_, h3.symm⟩
  rw [ofNat_toNat, h0, e1]; simp
theorem ri_2 {l out : List UInt8} {i : Nat} (h : RI l out i) (hi : i < l.length) (e : (l.getD i 0).toNat = 92) (h1 : i + 1 < l.length) (e1 : (l.getD (i + 1) 0).toNat = 92) : RI l (out ++ [92]) (i + 2) := fun o ho => by
  obtain ⟨d, o', e3, e2⟩ := ri_d h hi ho
  have hd : d.toNat = 92 := by
    refine Decidable.byContradiction fun q => ?_
    cases q2 : escB d.toNat with
    | false =>
      have h0 := drop_at e2 0 (quo_pos _)
      rw [Nat.add_zero, quo_h0 q q2, ofNat_toNat] at h0
      rw [h0] at e; exact q e
    | true =>
      rw [← quo_1 q q2] at e2
      have h0 := drop_at e2 1 (by simp)
      rw [h0] at e1
      exact hex_ne ⟨d.toNat, byte_lt d⟩ e1
  rw [hd, ← quo_0 rfl] at e2
  have h3 := drop_more e2
  refine ⟨o', ?_, h3.symm⟩
  rw [e3, show (92 : UInt8) = d from UInt8.toNat_inj.1 hd.symm]; simp
theorem hex_dgt : ∀ k : Fin 16, dgt (hexS.getD k.val 0).toNat = k.val := by decide +kernel
theorem ri_e {l out : List UInt8} {i : Nat} (h : RI l out i) (hi : i < l.length) (e : (l.getD i 0).toNat = 92) (h1 : ¬ (i + 1 < l.length ∧ (l.getD (i + 1) 0).toNat = 92)) {o : List UInt8} (ho : quoL o = l) :
    ∃ d o', o = out ++ d :: o' ∧ i + 2 < l.length ∧ dgt (l.getD (i + 1) 0).toNat = d.toNat / 16 ∧ dgt (l.getD (i + 2) 0).toNat = d.toNat % 16 ∧ l.drop (i + 3) = quoL o' := by
  obtain ⟨d, o', e3, e2⟩ := ri_d h hi ho
  have hl := congrArg List.length e2
  rw [List.length_append, List.length_drop] at hl
  have hd : ¬ d.toNat = 92 := fun q => h1 (by
    rw [q, ← quo_0 rfl] at e2 hl
    have h0 := drop_at e2 1 (by simp)
    refine ⟨by simp at hl; omega, ?_⟩
    rw [h0]; rfl)
  cases q2 : escB d.toNat with
  | false =>
    have h0 := drop_at e2 0 (quo_pos _)
    rw [Nat.add_zero, quo_h0 hd q2, ofNat_toNat] at h0
    rw [h0] at e; exact absurd e hd
  | true =>
    rw [← quo_1 hd q2] at e2 hl
    have hb := byte_lt d
    refine ⟨d, o', e3, by simp at hl; omega, ?_, ?_, drop_more e2⟩
    · rw [drop_at e2 1 (by simp)]; exact hex_dgt ⟨d.toNat / 16, by omega⟩
    · rw [drop_at e2 2 (by simp)]; exact hex_dgt ⟨d.toNat % 16, by omega⟩
theorem ri_3 {l out : List UInt8} {i : Nat} (h : RI l out i) (hi : i < l.length) (e : (l.getD i 0).toNat = 92) (h1 : ¬ (i + 1 < l.length ∧ (l.getD (i + 1) 0).toNat = 92)) : RI l (out ++ [UInt8.ofNat (16 * dgt (l.getD (i + 1) 0).toNat + dgt (l.getD (i + 2) 0).toNat)]) (i + 3) := fun o ho => by
  obtain ⟨d, o', e3, _, e4, e5, e6⟩ := ri_e h hi e h1 ho
  refine ⟨o', ?_, e6.symm⟩
  rw [e3, e4, e5, show 16 * (d.toNat / 16) + d.toNat % 16 = d.toNat by omega, ofNat_toNat]; simp
theorem ri_no {l out : List UInt8} {i : Nat} (hl : ¬ l = [92, 45]) (h : RI l out i) (hi : i < l.length) (e : (l.getD i 0).toNat = 92) (h1 : ¬ (i + 1 < l.length ∧ (l.getD (i + 1) 0).toNat = 92)) (h2 : l.length ≤ i + 2 ∨ 15 < dgt (l.getD (i + 1) 0).toNat ∨ 15 < dgt (l.getD (i + 2) 0).toNat) : UQ l [] false := by
  refine .inr ⟨rfl, rfl, fun x hx => ?_⟩
  obtain ⟨ho, _⟩ := no_e hl hx
  obtain ⟨d, o', _, e3, e4, e5, _⟩ := ri_e h hi e h1 ho
  have := byte_lt d
  omega
theorem ri_end {l out : List UInt8} {i : Nat} (hl : ¬ l = [92, 45]) (h : RI l out i) (hi : ¬ i < l.length) (hq : ¬ quoteS out = l) : UQ l [] false := by
  refine .inr ⟨rfl, rfl, fun x hx => ?_⟩
  obtain ⟨ho, _⟩ := no_e hl hx
  obtain ⟨o', e1, e2⟩ := h x ho
  rw [List.drop_of_length_le (by omega)] at e2
  rw [quoL_none e2, List.append_nil] at e1
  rw [e1] at hx; exact hq hx
theorem ri_yes {l out : List UInt8} (hq : quoteS out = l) : UQ l out true := .inl ⟨rfl, hq⟩
end Go.Proofs.YtgmigcmhnmmdkaaDoor
