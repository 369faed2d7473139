/- Make, made. -/
import Derived.Test.YtkfncjaomgcdgaaW14
set_option linter.all false
namespace Go.Proofs.Ytkfncjaomgcdgaa
open Go.RowKit Go.Facts

/-- A slice of bytes that is only read: its elements. -/
def Bsl (l : List UInt8) (v : Value) (w : World) : Prop := ∃ a cap, v = .slice a l.length cap ∧ l.length ≤ cap ∧ cap ≤ maxLen ∧ ∀ j x, l[j]? = some x → ∃ b o, a = some ⟨b, o, none⟩ ∧ w.cell? ⟨b, o + j, none⟩ = some (bv x)
def BslP (l : List UInt8) : PP := ⟨Bsl l, fun h ⟨a, cap, hv, hc, hm, hr⟩ => ⟨a, cap, hv, hc, hm, fun j x hj => let ⟨b, o, ha, hx⟩ := hr j x hj; ⟨b, o, ha, (h.cell (p := ⟨b, o + j, none⟩) (World.block_lt_of_cell? _ _ hx)).trans hx⟩⟩⟩

/-- Some id of the document in its form, not deeper than m; and some bytes. -/
def MakeP (m : Nat) : PP := ⟨fun v w => ∃ (t : T) (l : List UInt8) (a b : Value), v = .tuple #[a, b] ∧ t.wf = true ∧ t.depth ≤ m ∧ (IsRef t).p a w ∧ Bsl l b w,
  fun h ⟨t, l, a, b, hv, hw, hd, ha, hb⟩ => ⟨t, l, a, b, hv, hw, hd, (IsRef t).mono h ha, (BslP l).mono h hb⟩⟩
theorem bsl_nil (w : World) : Bsl [] (.slice none 0 0) w := ⟨none, 0, rfl, Nat.le_refl _, Nat.zero_le _, fun j x h => by simp at h⟩
/-- the slice, written out, its first byte, and what is behind it -/
theorem bsl_cons {x : UInt8} {l : List UInt8} {v : Value} {w : World} (h : Bsl (x :: l) v w) : ∃ b o cap, v = .slice (some ⟨b, o, none⟩) (l.length + 1) cap ∧ l.length + 1 ≤ cap ∧ cap ≤ maxLen ∧ w.cell? ⟨b, o, none⟩ = some (bv x) ∧
    Bsl l (.slice (if cap = 1 then some ⟨b, o, none⟩ else some ⟨b, o + 1, none⟩) l.length (cap - 1)) w := by
  obtain ⟨a, cap, hv, hc, hm, hr⟩ := h
  obtain ⟨b, o, ha, hx⟩ := hr 0 x (by simp)
  subst ha
  refine ⟨b, o, cap, by simpa using hv, by simpa using hc, hm, by simpa using hx, _, _, rfl, ?_, ?_, fun j y hj => ?_⟩
  · simp only [List.length_cons] at hc; omega
  · have : cap - 1 ≤ cap := Nat.sub_le _ _; exact Nat.le_trans this hm
  · obtain ⟨b', o', ha', hy⟩ := hr (j + 1) y (by simpa using hj)
    simp only [Option.some.injEq, Addr.mk.injEq] at ha'
    obtain ⟨rfl, rfl, _⟩ := ha'
    have hlt : j < l.length := by
      rcases Nat.lt_or_ge j l.length with h | h
      · exact h
      · rw [List.getElem?_eq_none h] at hj; cases hj
    simp only [List.length_cons] at hc
    rw [if_neg (by omega)]
    exact ⟨b, o + 1, rfl, by rw [show o + 1 + j = o + (j + 1) from by omega]; exact hy⟩
theorem bsl_take {l : List UInt8} {a : Option Addr} {cap n : Nat} {w : World} (h : Bsl l (.slice a l.length cap) w) (hn : n ≤ l.length) : Bsl (l.take n) (.slice a n cap) w := by
  obtain ⟨a', cap', hv, hc, hm, hr⟩ := h
  simp only [Value.slice.injEq] at hv
  obtain ⟨rfl, _, rfl⟩ := hv
  refine ⟨a, cap, by rw [List.length_take, Nat.min_eq_left hn], by rw [List.length_take]; omega, hm, fun j x hj => hr j x ?_⟩
  rw [List.getElem?_take] at hj
  split at hj
  · exact hj
  · cases hj

set_option maxRecDepth 100000 in
set_option maxHeartbeats 400000 in
theorem make_nil {m : Nat} {v : Value} {w : World} (h : Bsl [] v w) :
    Calls Try.prog 35 #[v, .int .i64 (m : Nat)] w (Ret w (MakeP m).p) := by
  obtain ⟨a, cap, rfl, hc, hm, hr⟩ := h
  clear hr
  simp only [List.length_nil]
  go_enter Try.func35, Try.ntmps35
  go_wp2_with fail
  refine (rzero_c).mono ?_
  rintro _ w1 ⟨zv, rfl, z, hb⟩
  have hx := hb; have s0 := hb.size
  go_wp2_with fail
  go_ret2
  exact ⟨_, rfl, ⟨.zero, [], _, _, rfl, rfl, by simp [T.depth], z, bsl_nil _⟩, hx⟩

theorem u8_b (x : UInt8) : 0 ≤ ((x.toNat : Int)) ∧ (x.toNat : Int) ≤ 255 := by have := x.toNat_lt; omega
theorem make_fin {x : UInt8} {m : Nat} {l : List UInt8} {s : Value} {w : World} (h : Bsl l s w) :
    (MakeP m).p (.tuple #[.pointer (some ⟨w.heap.size, 0, none⟩), s]) (w.alloc (.cells #[.int .i64 ((x.toNat : Int) % 2), .pointer none, .pointer none] 62)) := by
  have hx := (Ext.refl w).alloc (.cells #[.int .i64 ((x.toNat : Int) % 2), .pointer none, .pointer none] 62)
  have hb := blk_alloc w [.int .i64 ((x.toNat : Int) % 2), .pointer none, .pointer none] 62
  rcases (show (x.toNat : Int) % 2 = 0 ∨ (x.toNat : Int) % 2 = 1 from by omega) with h2 | h2
  · refine ⟨.zero, l, _, _, rfl, rfl, by simp [T.depth], ⟨_, rfl, _, rfl, ?_⟩, (BslP l).mono hx h⟩
    rw [h2] at hb ⊢; exact hb
  · refine ⟨.one, l, _, _, rfl, rfl, by simp [T.depth], ⟨_, rfl, _, rfl, ?_⟩, (BslP l).mono hx h⟩
    rw [h2] at hb ⊢; exact hb

set_option maxRecDepth 100000 in
set_option maxHeartbeats 1000000 in
theorem make_leaf1 {m : Nat} {x : UInt8} {l : List UInt8} {v : Value} {w : World} (h : Bsl (x :: l) v w) (hm10 : m ≤ 100) (hleaf : m = 0 ∨ (x.toNat : Int) % 4 < 2) (hcap : ∀ b o cap, v = .slice (some ⟨b, o, none⟩) (l.length + 1) cap → cap = 1) :
    Calls Try.prog 35 #[v, .int .i64 (m : Nat)] w (Ret w (MakeP m).p) := by
  obtain ⟨b, o, cap, rfl, hc, hmx, hcell, hrest⟩ := bsl_cons h
  replace hcap := hcap _ _ _ rfl
  clear h
  unfold bv at hcell
  obtain ⟨hx0, hx1⟩ := u8_b x
  unfold maxLen at hmx
  rw [if_pos hcap] at hrest
  subst hcap
  obtain rfl : l = [] := by cases l <;> simp_all
  simp only [List.length_nil] at *
  go_enter Try.func35, Try.ntmps35
  go_wp2_with fail
  all_goals (go_ret2; exact ⟨_, rfl, make_fin hrest, (Ext.refl _).alloc _⟩)

set_option maxRecDepth 100000 in
set_option maxHeartbeats 1000000 in
theorem make_leaf0 {m : Nat} {x : UInt8} {l : List UInt8} {v : Value} {w : World} (h : Bsl (x :: l) v w) (hm10 : m ≤ 100) (hleaf : m = 0 ∨ (x.toNat : Int) % 4 < 2) (hcap : ∀ b o cap, v = .slice (some ⟨b, o, none⟩) (l.length + 1) cap → cap ≠ 1) :
    Calls Try.prog 35 #[v, .int .i64 (m : Nat)] w (Ret w (MakeP m).p) := by
  obtain ⟨b, o, cap, rfl, hc, hmx, hcell, hrest⟩ := bsl_cons h
  replace hcap := hcap _ _ _ rfl
  clear h
  unfold bv at hcell
  obtain ⟨hx0, hx1⟩ := u8_b x
  unfold maxLen at hmx
  rw [if_neg hcap] at hrest
  have hcap1 : ¬ cap = 1 := hcap
  have hc1 : (1 : Int) ≤ (cap : Int) := by omega
  have hln : (l.length : Int) ≤ 9223372036854775807 := by omega
  go_enter Try.func35, Try.ntmps35
  go_wp2_with fail
  all_goals (go_ret2; exact ⟨_, rfl, make_fin hrest, (Ext.refl _).alloc _⟩)

set_option maxRecDepth 100000 in
set_option maxHeartbeats 1000000 in
theorem make_node1 {m : Nat} {x : UInt8} {l : List UInt8} {v : Value} {w : World} (h : Bsl (x :: l) v w) (hm10 : m ≤ 100) (hnl : 2 ≤ (x.toNat : Int) % 4) (ih : ∀ (l : List UInt8) (v : Value) (w : World), Bsl l v w → Calls Try.prog 35 #[v, .int .i64 (m : Nat)] w (Ret w (MakeP m).p)) (hcap : ∀ b o cap, v = .slice (some ⟨b, o, none⟩) (l.length + 1) cap → cap = 1) :
    Calls Try.prog 35 #[v, .int .i64 ((m + 1 : Nat) : Int)] w (Ret w (MakeP (m + 1)).p) := by
  obtain ⟨b, o, cap, rfl, hc, hmx, hcell, hrest⟩ := bsl_cons h
  replace hcap := hcap _ _ _ rfl
  clear h
  unfold bv at hcell
  obtain ⟨hx0, hx1⟩ := u8_b x
  unfold maxLen at hmx
  rw [if_pos hcap] at hrest
  subst hcap
  obtain rfl : l = [] := by cases l <;> simp_all
  simp only [List.length_nil] at *
  have IH := Lib.hid ih; clear ih
  have hm0 : (((m : Int) + 1) == 0) = false := beq_eq_false_iff_ne.2 (by omega)
  have hq4 : decide ((x.toNat : Int) % 4 < 2) = false := by simp; omega
  go_enter Try.func35, Try.ntmps35
  go_wp2_with fail
  refine (IH.out _ _ _ hrest).mono ?_
  rintro _ w1 ⟨_, rfl, ⟨tl, l1, a1, b1, rfl, hw1, hd1, ha1, hb1⟩, hb⟩
  have hx := hb; have s0 := hb.size
  obtain ⟨ap1, cp1, rfl, hh1⟩ := id hb1
  clear hh1
  go_wp2_with fail
  refine (IH.out _ _ _ hb1).mono ?_
  rintro _ w2 ⟨_, rfl, ⟨tr, l2, a2, b2, rfl, hw2, hd2, ha2, hb2⟩, hb⟩
  replace hx := Ext.trans hx hb; have s1 := hb.size
  replace ha1 := (IsRef tl).mono hb ha1
  go_wp2_with fail
  refine (rpair_c ha1 ha2).mono ?_
  rintro _ w3 ⟨pv, rfl, hp, hb⟩
  replace hx := Ext.trans hx hb; have s2 := hb.size
  replace hb2 := (BslP l2).mono hb hb2
  go_wp2_with fail
  go_ret2
  exact ⟨_, rfl, ⟨T.mk tl tr, l2, _, _, rfl, mk_wf hw1 hw2, by have := mk_depth tl tr; omega, hp, hb2⟩, hx⟩

set_option maxRecDepth 100000 in
set_option maxHeartbeats 1000000 in
theorem make_node0 {m : Nat} {x : UInt8} {l : List UInt8} {v : Value} {w : World} (h : Bsl (x :: l) v w) (hm10 : m ≤ 100) (hnl : 2 ≤ (x.toNat : Int) % 4) (ih : ∀ (l : List UInt8) (v : Value) (w : World), Bsl l v w → Calls Try.prog 35 #[v, .int .i64 (m : Nat)] w (Ret w (MakeP m).p)) (hcap : ∀ b o cap, v = .slice (some ⟨b, o, none⟩) (l.length + 1) cap → cap ≠ 1) :
    Calls Try.prog 35 #[v, .int .i64 ((m + 1 : Nat) : Int)] w (Ret w (MakeP (m + 1)).p) := by
  obtain ⟨b, o, cap, rfl, hc, hmx, hcell, hrest⟩ := bsl_cons h
  replace hcap := hcap _ _ _ rfl
  clear h
  unfold bv at hcell
  obtain ⟨hx0, hx1⟩ := u8_b x
  unfold maxLen at hmx
  rw [if_neg hcap] at hrest
  have hcap1 : ¬ cap = 1 := hcap
  have hc1 : (1 : Int) ≤ (cap : Int) := by omega
  have hln : (l.length : Int) ≤ 9223372036854775807 := by omega
  have IH := Lib.hid ih; clear ih
  have hm0 : (((m : Int) + 1) == 0) = false := beq_eq_false_iff_ne.2 (by omega)
  have hq4 : decide ((x.toNat : Int) % 4 < 2) = false := by simp; omega
  go_enter Try.func35, Try.ntmps35
  go_wp2_with fail
  refine (IH.out _ _ _ hrest).mono ?_
  rintro _ w1 ⟨_, rfl, ⟨tl, l1, a1, b1, rfl, hw1, hd1, ha1, hb1⟩, hb⟩
  have hx := hb; have s0 := hb.size
  obtain ⟨ap1, cp1, rfl, hh1⟩ := id hb1
  clear hh1
  go_wp2_with fail
  refine (IH.out _ _ _ hb1).mono ?_
  rintro _ w2 ⟨_, rfl, ⟨tr, l2, a2, b2, rfl, hw2, hd2, ha2, hb2⟩, hb⟩
  replace hx := Ext.trans hx hb; have s1 := hb.size
  replace ha1 := (IsRef tl).mono hb ha1
  go_wp2_with fail
  refine (rpair_c ha1 ha2).mono ?_
  rintro _ w3 ⟨pv, rfl, hp, hb⟩
  replace hx := Ext.trans hx hb; have s2 := hb.size
  replace hb2 := (BslP l2).mono hb hb2
  go_wp2_with fail
  go_ret2
  exact ⟨_, rfl, ⟨T.mk tl tr, l2, _, _, rfl, mk_wf hw1 hw2, by have := mk_depth tl tr; omega, hp, hb2⟩, hx⟩

theorem make_c : ∀ (m : Nat), m ≤ 100 → ∀ (l : List UInt8) (v : Value) (w : World), Bsl l v w → Calls Try.prog 35 #[v, .int .i64 (m : Nat)] w (Ret w (MakeP m).p)
  | _, _, [], _, _, h => make_nil h
  | m, hm, x :: l, v, w, h => by
    have hsplit : (∀ b o cap, v = .slice (some ⟨b, o, none⟩) (l.length + 1) cap → cap = 1) ∨ (∀ b o cap, v = .slice (some ⟨b, o, none⟩) (l.length + 1) cap → cap ≠ 1) := by
      obtain ⟨b, o, cap, rfl, _⟩ := bsl_cons h
      by_cases hc : cap = 1
      · left; intro b' o' cap' e; simp only [Value.slice.injEq] at e; rw [← e.2.2]; exact hc
      · right; intro b' o' cap' e; simp only [Value.slice.injEq] at e; rw [← e.2.2]; exact hc
    by_cases hleaf : m = 0 ∨ (x.toNat : Int) % 4 < 2
    · rcases hsplit with hs | hs
      · exact make_leaf1 h hm hleaf hs
      · exact make_leaf0 h hm hleaf hs
    · obtain ⟨k, rfl⟩ : ∃ k, m = k + 1 := ⟨m - 1, by omega⟩
      rcases hsplit with hs | hs
      · exact make_node1 h (by omega) (by omega) (make_c k (by omega)) hs
      · exact make_node0 h (by omega) (by omega) (make_c k (by omega)) hs

/-- Some id in its form, not deeper than 7; and the document's. -/
def MadeP : PP := ⟨fun v w => ∃ (t : T) (a b : Value), v = .tuple #[a, b] ∧ t.wf = true ∧ t.depth ≤ 7 ∧ (IsId t).p a w ∧ (IsRef t).p b w,
  fun h ⟨t, a, b, hv, hw, hd, ha, hb⟩ => ⟨t, a, b, hv, hw, hd, (IsId t).mono h ha, (IsRef t).mono h hb⟩⟩

set_option maxRecDepth 100000 in
set_option maxHeartbeats 1000000 in
theorem made_1 {l : List UInt8} {v : Value} {w : World} (h : Bsl l v w) (hlen : 60 < l.length) :
    Calls Try.prog 11 #[v] w (Ret w (MadeP).p) := by
  obtain ⟨a, cap, rfl, hc, hmx, hh⟩ := id h
  clear hh
  unfold maxLen at hmx
  have hc0 : (l.length : Int) ≤ (cap : Int) := by omega
  have hl0 : (l.length : Int) ≤ 9223372036854775807 := by omega
  have h60 : (60 : Int) ≤ (cap : Int) := by omega
  have hif : (60 : Int) < (l.length : Int) := by omega
  replace h := bsl_take h (n := 60) (by omega)
  go_enter Try.func11, Try.ntmps11
  go_wp2_with fail
  obtain ⟨W, hW, hb, z0, gz⟩ := box1 w [.bool false, .pointer none] 26
  rw [hW]; clear hW
  have hx := hb; have s1 := hb.size
  have hmk := make_c 7 (by omega) _ _ _ ((BslP _).mono hx h)
  refine Calls.mono hmk ?_
  clear hmk
  rintro _ w1 ⟨_, rfl, ⟨t, l1, a1, b1, rfl, hw1, hd1, ha1, hb1⟩, hb⟩
  replace hx := Ext.trans hx hb; replace gz := gz.ext hb; have s2 := hb.size
  have gz_0 := gz.c 0 rfl; have gzf0 := gz.f 0; have gz_1 := gz.c 1 rfl; have gzf1 := gz.f 1; have gzl := gz.lt
  go_wp2_with fail
  clear gz_0 gzf0 gz_1 gzf1 gzl
  refine (own_c t hw1 (by omega) _ _ ha1).mono ?_
  rintro _ w2 ⟨qv, rfl, q, hb⟩
  replace hx := Ext.trans hx hb; replace gz := gz.ext hb; replace ha1 := (IsRef t).mono hb ha1; have s3 := hb.size
  obtain ⟨qb, qp, rfl, qr⟩ := q
  obtain ⟨xp, rfl, xr⟩ := id ha1
  have gz_0 := gz.c 0 rfl; have gzf0 := gz.f 0; have gz_1 := gz.c 1 rfl; have gzf1 := gz.f 1; have gzl := gz.lt
  go_wp2_with fail
  clear gz_0 gzf0 gz_1 gzf1 gzl
  obtain ⟨y1, hW, st⟩ := ex2 gz (.bool qb) (.pointer qp)
  rw [hW]; clear hW
  replace hx : Ext w y1 := st.below hx (by omega); replace gz := st.blk; replace ha1 := (IsRef t).imm (st.imm TS (by decide)) ha1; replace qr := (PRep t qb qp).imm (st.imm TS (by decide)) qr; have s4 := st.size
  have e0 := gz.c 0 rfl; have e1 := gz.c 1 rfl
  exact ret_of (.tuple #[idv qb qp, .pointer xp]) (by simp [results, Try.results11, go_sem, e0, e1]) rfl ⟨t, _, _, rfl, hw1, hd1, PRep.is qr, ha1⟩ hx

set_option maxRecDepth 100000 in
set_option maxHeartbeats 1000000 in
theorem made_0 {l : List UInt8} {v : Value} {w : World} (h : Bsl l v w) (hlen : l.length ≤ 60) :
    Calls Try.prog 11 #[v] w (Ret w (MadeP).p) := by
  obtain ⟨a, cap, rfl, hc, hmx, hh⟩ := id h
  clear hh
  unfold maxLen at hmx
  have hc0 : (l.length : Int) ≤ (cap : Int) := by omega
  have hl0 : (l.length : Int) ≤ 9223372036854775807 := by omega
  have hif : ¬ (60 : Int) < (l.length : Int) := by omega
  replace h := bsl_take h (n := l.length) (Nat.le_refl _)
  go_enter Try.func11, Try.ntmps11
  go_wp2_with fail
  obtain ⟨W, hW, hb, z0, gz⟩ := box1 w [.bool false, .pointer none] 26
  rw [hW]; clear hW
  have hx := hb; have s1 := hb.size
  have hmk := make_c 7 (by omega) _ _ _ ((BslP _).mono hx h)
  refine Calls.mono hmk ?_
  clear hmk
  rintro _ w1 ⟨_, rfl, ⟨t, l1, a1, b1, rfl, hw1, hd1, ha1, hb1⟩, hb⟩
  replace hx := Ext.trans hx hb; replace gz := gz.ext hb; have s2 := hb.size
  have gz_0 := gz.c 0 rfl; have gzf0 := gz.f 0; have gz_1 := gz.c 1 rfl; have gzf1 := gz.f 1; have gzl := gz.lt
  go_wp2_with fail
  clear gz_0 gzf0 gz_1 gzf1 gzl
  refine (own_c t hw1 (by omega) _ _ ha1).mono ?_
  rintro _ w2 ⟨qv, rfl, q, hb⟩
  replace hx := Ext.trans hx hb; replace gz := gz.ext hb; replace ha1 := (IsRef t).mono hb ha1; have s3 := hb.size
  obtain ⟨qb, qp, rfl, qr⟩ := q
  obtain ⟨xp, rfl, xr⟩ := id ha1
  have gz_0 := gz.c 0 rfl; have gzf0 := gz.f 0; have gz_1 := gz.c 1 rfl; have gzf1 := gz.f 1; have gzl := gz.lt
  go_wp2_with fail
  clear gz_0 gzf0 gz_1 gzf1 gzl
  obtain ⟨y1, hW, st⟩ := ex2 gz (.bool qb) (.pointer qp)
  rw [hW]; clear hW
  replace hx : Ext w y1 := st.below hx (by omega); replace gz := st.blk; replace ha1 := (IsRef t).imm (st.imm TS (by decide)) ha1; replace qr := (PRep t qb qp).imm (st.imm TS (by decide)) qr; have s4 := st.size
  have e0 := gz.c 0 rfl; have e1 := gz.c 1 rfl
  exact ret_of (.tuple #[idv qb qp, .pointer xp]) (by simp [results, Try.results11, go_sem, e0, e1]) rfl ⟨t, _, _, rfl, hw1, hd1, PRep.is qr, ha1⟩ hx

theorem made_c {l : List UInt8} {v : Value} {w : World} (h : Bsl l v w) : Calls Try.prog 11 #[v] w (Ret w MadeP.p) := by
  by_cases hlen : 60 < l.length
  · exact made_1 h hlen
  · exact made_0 h (by omega)

end Go.Proofs.Ytkfncjaomgcdgaa
