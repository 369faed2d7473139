/- The document's Parse. -/
import Derived.Test.YtkfncjaomgcdgaaW20
set_option linter.all false
namespace Go.Proofs.Ytkfncjaomgcdgaa
open Go.RowKit Go.Facts

theorem rp_c : ∀ (n : Nat) (s : List UInt8), s.length < n → s.length ≤ 1000000000 → ∀ w : World, Calls Try.prog 48 #[sv s] w (Ret w (RP (parseT n s)).p)
  | 0, _, h, _, _ => absurd h (by omega)
  | n + 1, [], _, _, _ => rp_nil
  | n + 1, x :: s, h, hl, w => by
    have hsz : (⟨(x :: s).toArray⟩ : ByteArray).size ≤ 1000000000 := by rw [ba_size (sv_data (x :: s))]; exact hl
    simp only [List.length_cons] at h hl
    have ihl := fun w => rp_c n s (by omega) (by omega) w
    rw [parseT]
    split
    · rename_i hx; subst hx; exact rp_z (sv_data _) hsz
    · rename_i h48
      split
      · rename_i hx; subst hx; exact rp_o (sv_data _) hsz
      · rename_i h49
        split
        · rename_i hx
          subst hx
          cases hpl : parseT n s with
          | none => rw [hpl] at ihl; exact rp_l0 (sv_data _) hsz ihl
          | some o =>
            obtain ⟨l, r⟩ := o
            rw [hpl] at ihl
            cases r with
            | nil => exact rp_l1 (sv_data _) hsz ihl
            | cons y r2 =>
              have l1 := parseT_len _ _ hpl
              simp only [List.length_cons] at l1
              by_cases hy : y = 44
              · subst hy
                simp only [if_true]
                have hl1 : (44 :: r2 : List UInt8).length ≤ 1000000000 := by simp only [List.length_cons]; omega
                have ihr := fun w => rp_c n r2 (by omega) (by omega) w
                cases hpq : parseT n r2 with
                | none => rw [hpq] at ihr; exact rp_r0 (sv_data _) hsz hl1 ihl ihr
                | some o =>
                  obtain ⟨q, r3⟩ := o
                  rw [hpq] at ihr
                  cases r3 with
                  | nil => exact rp_r1 (sv_data _) hsz hl1 ihl ihr
                  | cons z r4 =>
                    have l2 := parseT_len _ _ hpq
                    simp only [List.length_cons] at l2
                    have hl2 : (41 :: r4 : List UInt8).length ≤ 1000000000 := by simp only [List.length_cons]; omega
                    by_cases hz : z = 41
                    · subst hz
                      simp only [true_and]
                      cases l with
                      | zero =>
                        cases q with
                        | zero => exact rp_same (sv_data _) hsz hl1 hl2 rfl rfl ihl ihr
                        | one => exact rp_ne (sv_data _) hsz hl1 hl2 rfl ihl ihr
                        | node a b => exact rp_ne (sv_data _) hsz hl1 hl2 rfl ihl ihr
                      | one =>
                        cases q with
                        | zero => exact rp_ne (sv_data _) hsz hl1 hl2 rfl ihl ihr
                        | one => exact rp_same (sv_data _) hsz hl1 hl2 rfl rfl ihl ihr
                        | node a b => exact rp_ne (sv_data _) hsz hl1 hl2 rfl ihl ihr
                      | node c d =>
                        cases q with
                        | zero => exact rp_ne (sv_data _) hsz hl1 hl2 rfl ihl ihr
                        | one => exact rp_ne (sv_data _) hsz hl1 hl2 rfl ihl ihr
                        | node a b => exact rp_nn (sv_data _) hsz hl1 hl2 rfl rfl ihl ihr
                    · simp only [hz, false_and, if_false]
                      exact rp_r2 (sv_data _) hsz hl1 hz ihl ihr
              · simp only [hy, if_false]
                exact rp_l2 (sv_data _) hsz hy ihl
        · rename_i h40
          exact rp_x (sv_data _) hsz h48 h49 h40

set_option maxRecDepth 100000 in
set_option maxHeartbeats 1000000 in
theorem rparse_none {l : List UInt8} {w : World} (ih : ∀ w : World, Calls Try.prog 48 #[sv l] w (Ret w (RP (none)).p)) :
    Calls Try.prog 33 #[sv l] w (Ret w (Two (IsRef .zero).toPP (PP.eq (.int .i64 6))).p) := by
  have IH := Lib.hid ih; clear ih
  go_enter Try.func33, Try.ntmps33
  go_wp2_with fail
  refine (IH.out _).mono ?_
  rintro _ w1 ⟨_, rfl, hc, hb⟩
  have hx := hb; have s0 := hb.size
  obtain ⟨cv, cr, rfl, c⟩ := hc
  go_wp2_with fail
  refine (rzero_c).mono ?_
  rintro _ w2 ⟨zzv, rfl, zz, hb⟩
  replace hx := Ext.trans hx hb; have s1 := hb.size
  go_wp2_with fail
  exact ret_of (.tuple #[zzv, .int .i64 6]) (by simp [results, Try.results33, go_sem]) rfl ⟨_, _, rfl, zz, rfl⟩ hx

set_option maxRecDepth 100000 in
set_option maxHeartbeats 1000000 in
theorem rparse_rest {l : List UInt8} {w : World} {t : T} {y : UInt8} {r : List UInt8} (ih : ∀ w : World, Calls Try.prog 48 #[sv l] w (Ret w (RP (some (t, y :: r))).p)) :
    Calls Try.prog 33 #[sv l] w (Ret w (Two (IsRef .zero).toPP (PP.eq (.int .i64 6))).p) := by
  have IH := Lib.hid ih; clear ih
  obtain ⟨S2, hs2⟩ : ∃ S2 : ByteArray, S2 = ⟨(y :: r).toArray⟩ := ⟨_, rfl⟩
  have hp2 : S2.data.toList = y :: r := by rw [hs2]
  have Hs2 : Hid (sv (y :: r) = .string S2) := by unfold Hid; rw [hs2]
  have h02 : 0 < S2.size := by rw [ba_size hp2]; simp
  clear hs2 hp2
  go_enter Try.func33, Try.ntmps33
  go_wp2_with fail
  refine (IH.out _).mono ?_
  rintro _ w1 ⟨_, rfl, hc, hb⟩
  have hx := hb; have s0 := hb.size
  obtain ⟨cv, rfl, c⟩ := hc
  rw [Hs2.out]
  go_wp2_with fail
  refine (rzero_c).mono ?_
  rintro _ w2 ⟨zzv, rfl, zz, hb⟩
  replace hx := Ext.trans hx hb; replace c := (IsRef t).mono hb c; have s1 := hb.size
  go_wp2_with fail
  exact ret_of (.tuple #[zzv, .int .i64 6]) (by simp [results, Try.results33, go_sem]) rfl ⟨_, _, rfl, zz, rfl⟩ hx

set_option maxRecDepth 100000 in
set_option maxHeartbeats 1000000 in
theorem rparse_deep {l : List UInt8} {w : World} {t : T} (ht : 16 < t.depth) (ht2 : t.depth ≤ 1000) (ih : ∀ w : World, Calls Try.prog 48 #[sv l] w (Ret w (RP (some (t, []))).p)) :
    Calls Try.prog 33 #[sv l] w (Ret w (Two (IsRef .zero).toPP (PP.eq (.int .i64 3))).p) := by
  have IH := Lib.hid ih; clear ih
  obtain ⟨S2, hs2⟩ : ∃ S2 : ByteArray, S2 = ⟨([] : List UInt8).toArray⟩ := ⟨_, rfl⟩
  have Hs2 : Hid (sv [] = .string S2) := by unfold Hid; rw [hs2]
  have h02 : ¬ 0 < S2.size := by rw [hs2]; decide
  clear hs2
  have h16 : decide ((16 : Int) < (t.depth : Int)) = true := by simp; omega
  go_enter Try.func33, Try.ntmps33
  go_wp2_with fail
  refine (IH.out _).mono ?_
  rintro _ w1 ⟨_, rfl, hc, hb⟩
  have hx := hb; have s0 := hb.size
  obtain ⟨cv, rfl, c⟩ := hc
  rw [Hs2.out]
  go_wp2_with fail
  refine (rdepth_c t (by omega) _ _ c).mono ?_
  rintro _ w2 ⟨_, rfl, rfl, hb⟩
  replace hx := Ext.trans hx hb; replace c := (IsRef t).mono hb c; have s1 := hb.size
  go_wp2_with fail
  refine (rzero_c).mono ?_
  rintro _ w3 ⟨zzv, rfl, zz, hb⟩
  replace hx := Ext.trans hx hb; replace c := (IsRef t).mono hb c; have s2 := hb.size
  go_wp2_with fail
  exact ret_of (.tuple #[zzv, .int .i64 3]) (by simp [results, Try.results33, go_sem]) rfl ⟨_, _, rfl, zz, rfl⟩ hx

set_option maxRecDepth 100000 in
set_option maxHeartbeats 1000000 in
theorem rparse_ok {l : List UInt8} {w : World} {t : T} (ht : t.depth ≤ 16) (ih : ∀ w : World, Calls Try.prog 48 #[sv l] w (Ret w (RP (some (t, []))).p)) :
    Calls Try.prog 33 #[sv l] w (Ret w (Two (IsRef t).toPP (PP.eq (.int .i64 0))).p) := by
  have IH := Lib.hid ih; clear ih
  obtain ⟨S2, hs2⟩ : ∃ S2 : ByteArray, S2 = ⟨([] : List UInt8).toArray⟩ := ⟨_, rfl⟩
  have Hs2 : Hid (sv [] = .string S2) := by unfold Hid; rw [hs2]
  have h02 : ¬ 0 < S2.size := by rw [hs2]; decide
  clear hs2
  have h16 : decide ((16 : Int) < (t.depth : Int)) = false := by simp; omega
  go_enter Try.func33, Try.ntmps33
  go_wp2_with fail
  refine (IH.out _).mono ?_
  rintro _ w1 ⟨_, rfl, hc, hb⟩
  have hx := hb; have s0 := hb.size
  obtain ⟨cv, rfl, c⟩ := hc
  rw [Hs2.out]
  go_wp2_with fail
  refine (rdepth_c t (by omega) _ _ c).mono ?_
  rintro _ w2 ⟨_, rfl, rfl, hb⟩
  replace hx := Ext.trans hx hb; replace c := (IsRef t).mono hb c; have s1 := hb.size
  go_wp2_with fail
  exact ret_of (.tuple #[cv, .int .i64 0]) (by simp [results, Try.results33, go_sem]) rfl ⟨_, _, rfl, c, rfl⟩ hx

theorem rparse_c (l : List UInt8) (w : World) (hl : l.length ≤ 1000) : Calls Try.prog 33 #[sv l] w (Ret w (Two (IsRef (parseR l).1).toPP (PP.eq (.int .i64 (((parseR l).2 : Nat) : Int)))).p) := by
  have ih := fun w => rp_c (l.length + 1) l (by omega) (by omega) w
  unfold parseR
  cases hp : parseT (l.length + 1) l with
  | none => rw [hp] at ih; exact rparse_none ih
  | some o =>
    obtain ⟨t, r⟩ := o
    rw [hp] at ih
    cases r with
    | cons y r => exact rparse_rest ih
    | nil =>
      have hd := parse_depth _ _ hp
      by_cases h : 16 < t.depth
      · simp only [if_pos h]; exact rparse_deep h (by omega) ih
      · simp only [if_neg h]; exact rparse_ok (by omega) ih

theorem parse_text : ∀ (n : Nat) (s : List UInt8) {t : T} {r : List UInt8}, parseT n s = some (t, r) → s = textT t ++ r
  | 0, _, _, _, h => by simp [parseT] at h
  | n + 1, [], _, _, h => by simp [parseT] at h
  | n + 1, x :: s, t, r, h => by
    rw [parseT] at h
    split at h
    · rename_i hx; simp at h; obtain ⟨rfl, rfl⟩ := h; subst hx; rfl
    · split at h
      · rename_i hx; simp at h; obtain ⟨rfl, rfl⟩ := h; subst hx; rfl
      · split at h
        · rename_i hx
          subst hx
          split at h
          · rename_i l y r2 hl
            split at h
            · rename_i hy
              subst hy
              split at h
              · rename_i q z r4 hq
                split at h
                · rename_i hz
                  simp at h; obtain ⟨rfl, rfl⟩ := h
                  obtain ⟨rfl, _⟩ := hz
                  rw [parse_text n _ hl, parse_text n _ hq]
                  simp [textT]
                · cases h
              · cases h
            · cases h
          · cases h
        · cases h
theorem parseR_ok {l : List UInt8} (h : (parseR l).2 = 0) : textT (parseR l).1 = l := by
  unfold parseR at *
  cases hp : parseT (l.length + 1) l with
  | none => rw [hp] at h; simp at h
  | some o =>
    obtain ⟨t, r⟩ := o
    rw [hp] at h
    have := parse_text _ _ hp
    cases r with
    | cons y r => simp at h
    | nil =>
      by_cases hd : 16 < t.depth
      · simp only [if_pos hd] at h; simp at h
      · simp only [if_neg hd]; rw [this]; simp
theorem parseR_depth (l : List UInt8) : (parseR l).1.depth ≤ 16 := by
  unfold parseR
  split
  · split
    · simp [T.depth]
    · simp only; omega
  · simp [T.depth]
theorem parseR_code (l : List UInt8) : (parseR l).2 = 0 ∨ ((parseR l).2 ≠ 0 ∧ (parseR l).2 < 1000) := by
  unfold parseR
  split
  · split
    · exact .inr ⟨by decide, by decide⟩
    · exact .inl rfl
  · exact .inr ⟨by decide, by decide⟩

end Go.Proofs.Ytkfncjaomgcdgaa
