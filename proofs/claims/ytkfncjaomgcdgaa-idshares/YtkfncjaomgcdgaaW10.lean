/- build, Parse. -/
import Derived.Test.YtkfncjaomgcdgaaPure
import Derived.Test.YtkfncjaomgcdgaaLate
set_option linter.all false
namespace Go.Proofs.Ytkfncjaomgcdgaa
open Go.RowKit Go.Facts

abbrev sv (l : List UInt8) : Value := .string ⟨l.toArray⟩
theorem ba_ext {s : ByteArray} {l : List UInt8} (h : s.data.toList = l) : s = ⟨l.toArray⟩ := by
  apply ByteArray.ext; apply Array.ext'; simpa using h
theorem ba_size {s : ByteArray} {l : List UInt8} (h : s.data.toList = l) : s.size = l.length := by rw [← h, Array.length_toList]; rfl
theorem ba_tail {s : ByteArray} {x : UInt8} {r : List UInt8} (h : s.data.toList = x :: r) : s.extract 1 s.size = ⟨r.toArray⟩ := by
  apply ba_ext
  have := ba_size h
  obtain ⟨⟨l⟩⟩ := s
  simp only [] at h
  subst h
  rw [ByteArray.extract_mk, this]
  simp
theorem ba_head {s : ByteArray} {x : UInt8} {r : List UInt8} (h : s.data.toList = x :: r) (h0 : 0 < s.size) : s[0] = x := by
  have : s.data.toList.drop 0 = x :: r := by simpa using h
  obtain ⟨_, e, _⟩ := drop_cons this
  exact e

set_option maxRecDepth 100000 in
set_option maxHeartbeats 1000000 in
theorem build_z {s : ByteArray} {r : List UInt8} {w : World} (hp : s.data.toList = 48 :: r) (hs : s.size ≤ 1000000000) :
    Calls Try.prog 47 #[(.string s)] w (Ret w (Two (IsId .zero).toPP (PP.eq (sv r))).p) := by
  have h0 : 0 < s.size := by rw [ba_size hp]; simp
  have h1 : (1 : Int) ≤ (s.size : Int) := by omega
  have hex := ba_tail hp
  have hd := ba_head hp h0
  have hq : ((s[0].toNat : Int) == 48) = true := by rw [hd]; rfl
  have hq2 : ((s[0].toNat : Int) == 49) = false := by rw [hd]; rfl
  have Hp := Lib.hid hp; clear hp hd
  go_enter Try.func47, Try.ntmps47
  go_wp2_with fail
  obtain ⟨W, hW, hb, z0, gz⟩ := box1 w [.bool false, .pointer none] 26
  rw [hW]; clear hW
  have hx := hb; have s1 := hb.size
  have gzlt2 := gz.lt
  refine wp_late 3 [1, 2] [] [(IsId .zero).toPP, PP.eq (.string s), PP.eq (sv r)] (by kernel_rfl) (by kernel_rfl) (fun _ _ d _ _ h => by cases d <;> exact h) ⟨?o0, ?o1, ?o2, trivial⟩ ⟨?l1, ?l2, trivial⟩ (by decide) ?rest
  case l1 =>
    intro x0 x1 x2 w' hE
    refine ⟨(.string s), rfl, fun w'' => ?_⟩
    simp only [putAll, List.take, List.drop, List.map, Act.put, List.setIfInBounds_toArray, List.set_cons_zero, List.set_cons_succ]
    go_simp
  case l2 =>
    intro x0 x1 x2 w' hE
    rintro rfl
    refine ⟨(sv r), rfl, fun w'' => ?_⟩
    simp only [putAll, List.take, List.drop, List.map, Act.put, List.setIfInBounds_toArray, List.set_cons_zero, List.set_cons_succ]
    go_simp
  case o0 =>
    intro x0 x1 x2 w' hE
    rintro R hR
    simp only [putAll, List.take, List.drop, List.map, Act.put, List.setIfInBounds_toArray, List.set_cons_zero, List.set_cons_succ]
    go_simp
    refine (zero_c).mono ?_
    rintro _ w'' ⟨v, rfl, hv, hb⟩
    exact hR _ _ hb hv trivial
  case o1 =>
    intro x0 x1 x2 w' hE
    rintro R hR
    simp only [putAll, List.take, List.drop, List.map, Act.put, List.setIfInBounds_toArray, List.set_cons_zero, List.set_cons_succ]
    go_simp
    exact hR _ _ (Ext.refl _) (rfl) trivial
  case o2 =>
    intro x0 x1 x2 w' hE
    rintro rfl R hR
    simp only [putAll, List.take, List.drop, List.map, Act.put, List.setIfInBounds_toArray, List.set_cons_zero, List.set_cons_succ]
    go_simp
    exact hR _ _ (Ext.refl _) (rfl) trivial
  case rest =>
    intro x0 x1 x2 w1 hb
    rintro r0 rfl rfl hap
    replace hx := Ext.trans hx hb; replace gz := gz.ext hb; have s3 := hb.size
    clear hap
    simp only [putAll, List.take, List.drop, List.map, Act.put, List.setIfInBounds_toArray, List.set_cons_zero, List.set_cons_succ]
    obtain ⟨zb, zp, rfl, zr⟩ := r0
    have gz_0 := gz.c 0 rfl; have gzf0 := gz.f 0; have gz_1 := gz.c 1 rfl; have gzf1 := gz.f 1; have gzl := gz.lt
    go_wp2_with fail
    clear gz_0 gzf0 gz_1 gzf1 gzl
    obtain ⟨y1, hW, st⟩ := ex2 gz (.bool zb) (.pointer zp)
    rw [hW]; clear hW
    replace hx : Ext w y1 := st.below hx (by omega); replace gz := st.blk; replace zr := (PRep .zero zb zp).imm (st.imm TS (by decide)) zr; have s4 := st.size
    have e0 := gz.c 0 rfl; have e1 := gz.c 1 rfl
    go_wp2_with fail
    exact ret_of (.tuple #[idv zb zp, sv r]) (by simp [results, Try.results47, go_sem, e0, e1]) rfl ⟨_, _, rfl, PRep.is zr, rfl⟩ hx

set_option maxRecDepth 100000 in
set_option maxHeartbeats 1000000 in
theorem build_o {s : ByteArray} {r : List UInt8} {w : World} (hp : s.data.toList = 49 :: r) (hs : s.size ≤ 1000000000) :
    Calls Try.prog 47 #[(.string s)] w (Ret w (Two (IsId .one).toPP (PP.eq (sv r))).p) := by
  have h0 : 0 < s.size := by rw [ba_size hp]; simp
  have h1 : (1 : Int) ≤ (s.size : Int) := by omega
  have hex := ba_tail hp
  have hd := ba_head hp h0
  have hq : ((s[0].toNat : Int) == 48) = false := by rw [hd]; rfl
  have hq2 : ((s[0].toNat : Int) == 49) = true := by rw [hd]; rfl
  have Hp := Lib.hid hp; clear hp hd
  go_enter Try.func47, Try.ntmps47
  go_wp2_with fail
  obtain ⟨W, hW, hb, z0, gz⟩ := box1 w [.bool false, .pointer none] 26
  rw [hW]; clear hW
  have hx := hb; have s1 := hb.size
  have gzlt2 := gz.lt
  refine wp_late 3 [1, 2] [] [(IsId .one).toPP, PP.eq (.string s), PP.eq (sv r)] (by kernel_rfl) (by kernel_rfl) (fun _ _ d _ _ h => by cases d <;> exact h) ⟨?o0, ?o1, ?o2, trivial⟩ ⟨?l1, ?l2, trivial⟩ (by decide) ?rest
  case l1 =>
    intro x0 x1 x2 w' hE
    refine ⟨(.string s), rfl, fun w'' => ?_⟩
    simp only [putAll, List.take, List.drop, List.map, Act.put, List.setIfInBounds_toArray, List.set_cons_zero, List.set_cons_succ]
    go_simp
  case l2 =>
    intro x0 x1 x2 w' hE
    rintro rfl
    refine ⟨(sv r), rfl, fun w'' => ?_⟩
    simp only [putAll, List.take, List.drop, List.map, Act.put, List.setIfInBounds_toArray, List.set_cons_zero, List.set_cons_succ]
    go_simp
  case o0 =>
    intro x0 x1 x2 w' hE
    rintro R hR
    simp only [putAll, List.take, List.drop, List.map, Act.put, List.setIfInBounds_toArray, List.set_cons_zero, List.set_cons_succ]
    go_simp
    refine (one_c).mono ?_
    rintro _ w'' ⟨v, rfl, hv, hb⟩
    exact hR _ _ hb hv trivial
  case o1 =>
    intro x0 x1 x2 w' hE
    rintro R hR
    simp only [putAll, List.take, List.drop, List.map, Act.put, List.setIfInBounds_toArray, List.set_cons_zero, List.set_cons_succ]
    go_simp
    exact hR _ _ (Ext.refl _) (rfl) trivial
  case o2 =>
    intro x0 x1 x2 w' hE
    rintro rfl R hR
    simp only [putAll, List.take, List.drop, List.map, Act.put, List.setIfInBounds_toArray, List.set_cons_zero, List.set_cons_succ]
    go_simp
    exact hR _ _ (Ext.refl _) (rfl) trivial
  case rest =>
    intro x0 x1 x2 w1 hb
    rintro r0 rfl rfl hap
    replace hx := Ext.trans hx hb; replace gz := gz.ext hb; have s3 := hb.size
    clear hap
    simp only [putAll, List.take, List.drop, List.map, Act.put, List.setIfInBounds_toArray, List.set_cons_zero, List.set_cons_succ]
    obtain ⟨zb, zp, rfl, zr⟩ := r0
    have gz_0 := gz.c 0 rfl; have gzf0 := gz.f 0; have gz_1 := gz.c 1 rfl; have gzf1 := gz.f 1; have gzl := gz.lt
    go_wp2_with fail
    clear gz_0 gzf0 gz_1 gzf1 gzl
    obtain ⟨y1, hW, st⟩ := ex2 gz (.bool zb) (.pointer zp)
    rw [hW]; clear hW
    replace hx : Ext w y1 := st.below hx (by omega); replace gz := st.blk; replace zr := (PRep .one zb zp).imm (st.imm TS (by decide)) zr; have s4 := st.size
    have e0 := gz.c 0 rfl; have e1 := gz.c 1 rfl
    go_wp2_with fail
    exact ret_of (.tuple #[idv zb zp, sv r]) (by simp [results, Try.results47, go_sem, e0, e1]) rfl ⟨_, _, rfl, PRep.is zr, rfl⟩ hx

theorem sv_data (l : List UInt8) : (⟨l.toArray⟩ : ByteArray).data.toList = l := by simp

set_option maxRecDepth 100000 in
set_option maxHeartbeats 2000000 in
theorem build_n {l q : T} {s : ByteArray} {r0 r1 r3 r : List UInt8} {w : World} (hp : s.data.toList = 40 :: r0) (hs : s.size ≤ 1000000000) (hdl : l.depth ≤ 900) (hdq : q.depth ≤ 900) (hr3 : r3 = 41 :: r) (hl1 : (44 :: r1).length ≤ r0.length) (hl3 : r3.length ≤ r1.length) (ihl : ∀ w : World, Calls Try.prog 47 #[sv r0] w (Ret w (Two (IsId l).toPP (PP.eq (sv (44 :: r1)))).p)) (ihr : ∀ w : World, Calls Try.prog 47 #[sv r1] w (Ret w (Two (IsId q).toPP (PP.eq (sv r3))).p)) :
    Calls Try.prog 47 #[(.string s)] w (Ret w (Two (IsId (T.mk l q)).toPP (PP.eq (sv r))).p) := by
  subst hr3
  have IHL := Lib.hid ihl; have IHR := Lib.hid ihr; clear ihl ihr
  have h0 : 0 < s.size := by rw [ba_size hp]; simp
  have h1 : (1 : Int) ≤ (s.size : Int) := by omega
  have hex := ba_tail hp
  have hd := ba_head hp h0
  have hq : ((s[0].toNat : Int) == 48) = false := by rw [hd]; rfl
  have hq2 : ((s[0].toNat : Int) == 49) = false := by rw [hd]; rfl
  have hsr := ba_size hp
  simp only [List.length_cons] at hsr hl1 hl3
  have Hp := Lib.hid hp; have Hsr := Lib.hid hsr; clear hp hd hsr
  obtain ⟨s1, hs1⟩ : ∃ s1 : ByteArray, s1 = ⟨(44 :: r1).toArray⟩ := ⟨_, rfl⟩
  have hp1 : s1.data.toList = 44 :: r1 := by rw [hs1]
  have h01 : 0 < s1.size := by rw [ba_size hp1]; simp
  have h11 : (1 : Int) ≤ (s1.size : Int) := by omega
  have hex1 := ba_tail hp1
  have hsz1 : s1.size ≤ 1000000000 := by rw [ba_size hp1]; simp only [List.length_cons]; have := Hsr.out; omega
  obtain ⟨s3, hs3⟩ : ∃ s3 : ByteArray, s3 = ⟨(41 :: r).toArray⟩ := ⟨_, rfl⟩
  have hp3 : s3.data.toList = 41 :: r := by rw [hs3]
  have h03 : 0 < s3.size := by rw [ba_size hp3]; simp
  have h13 : (1 : Int) ≤ (s3.size : Int) := by omega
  have hex3 := ba_tail hp3
  have hsz3 : s3.size ≤ 1000000000 := by rw [ba_size hp3]; simp only [List.length_cons]; have := Hsr.out; omega
  have Hs1 : Hid (sv (44 :: r1) = .string s1) := by unfold Hid; rw [hs1]
  have Hs3 : Hid (sv (41 :: r) = .string s3) := by unfold Hid; rw [hs3]
  clear hs1 hs3 hp1 hp3
  go_enter Try.func47, Try.ntmps47
  go_wp2_with fail
  obtain ⟨W, hW, hb, z0, gz⟩ := box1 w [.bool false, .pointer none] 26
  rw [hW]; clear hW
  have hx := hb; have s1 := hb.size
  refine (IHL.out _).mono ?_
  rintro _ w1 ⟨c, rfl, hc, hb⟩
  replace hx := Ext.trans hx hb; replace gz := gz.ext hb; have s2 := hb.size
  obtain ⟨cv, _, rfl, ca, rfl⟩ := hc
  rw [Hs1.out]
  obtain ⟨lb, lp, rfl, lr⟩ := ca
  have gz_0 := gz.c 0 rfl; have gzf0 := gz.f 0; have gz_1 := gz.c 1 rfl; have gzf1 := gz.f 1; have gzl := gz.lt
  go_wp2_with fail
  clear gz_0 gzf0 gz_1 gzf1 gzl
  have gzlt3 := gz.lt
  obtain ⟨w2, hW, hb, z3, gl⟩ := box1 w1 [.bool lb, .pointer lp] 26
  rw [hW]; clear hW
  replace hx := Ext.trans hx hb; replace gz := gz.ext hb; replace lr := (PRep l lb lp).mono hb lr; have s4 := hb.size
  refine (IHR.out _).mono ?_
  rintro _ w3 ⟨c, rfl, hc, hb⟩
  replace hx := Ext.trans hx hb; replace gz := gz.ext hb; replace gl := gl.ext hb; replace lr := (PRep l lb lp).mono hb lr; have s5 := hb.size
  obtain ⟨cv, _, rfl, ca, rfl⟩ := hc
  rw [Hs3.out]
  obtain ⟨qb, qp, rfl, qr⟩ := ca
  have gz_0 := gz.c 0 rfl; have gzf0 := gz.f 0; have gz_1 := gz.c 1 rfl; have gzf1 := gz.f 1; have gzl := gz.lt; have gl_0 := gl.c 0 rfl; have glf0 := gl.f 0; have gl_1 := gl.c 1 rfl; have glf1 := gl.f 1; have gll := gl.lt
  go_wp2_with fail
  clear gz_0 gzf0 gz_1 gzf1 gzl gl_0 glf0 gl_1 glf1 gll
  have gzlt6 := gz.lt
  have gllt6 := gl.lt
  obtain ⟨w4, hW, hb, z6, gq⟩ := box1 w3 [.bool qb, .pointer qp] 26
  rw [hW]; clear hW
  replace hx := Ext.trans hx hb; replace gz := gz.ext hb; replace gl := gl.ext hb; replace lr := (PRep l lb lp).mono hb lr; replace qr := (PRep q qb qp).mono hb qr; have s7 := hb.size
  have gzlt8 := gz.lt
  have gllt8 := gl.lt
  have gqlt8 := gq.lt
  refine wp_late 5 [3, 4] [] [(IsId l).toPP, (IsId q).toPP, (IsId (T.mk l q)).toPP, PP.eq (.string s3), PP.eq (sv r)] (by kernel_rfl) (by kernel_rfl) (fun _ _ d _ _ h => by cases d <;> exact h) ⟨?o0, ?o1, ?o2, ?o3, ?o4, trivial⟩ ⟨?l3, ?l4, trivial⟩ (by decide) ?rest
  case l3 =>
    intro x0 x1 x2 x3 x4 w' hE
    refine ⟨(.string s3), rfl, fun w'' => ?_⟩
    simp only [putAll, List.take, List.drop, List.map, Act.put, List.setIfInBounds_toArray, List.set_cons_zero, List.set_cons_succ]
    go_simp
  case l4 =>
    intro x0 x1 x2 x3 x4 w' hE
    rintro rfl
    refine ⟨(sv r), rfl, fun w'' => ?_⟩
    simp only [putAll, List.take, List.drop, List.map, Act.put, List.setIfInBounds_toArray, List.set_cons_zero, List.set_cons_succ]
    go_simp
  case o0 =>
    intro x0 x1 x2 x3 x4 w' hE
    rintro R hR
    have qgl0 := (gl.ext hE).c 0 rfl
    have qgl1 := (gl.ext hE).c 1 rfl
    simp only [putAll, List.take, List.drop, List.map, Act.put, List.setIfInBounds_toArray, List.set_cons_zero, List.set_cons_succ]
    go_simp
    exact hR _ _ (Ext.refl _) (⟨_, _, rfl, lr.ext hE⟩) trivial
  case o1 =>
    intro x0 x1 x2 x3 x4 w' hE
    rintro R hR
    have qgq0 := (gq.ext hE).c 0 rfl
    have qgq1 := (gq.ext hE).c 1 rfl
    simp only [putAll, List.take, List.drop, List.map, Act.put, List.setIfInBounds_toArray, List.set_cons_zero, List.set_cons_succ]
    go_simp
    exact hR _ _ (Ext.refl _) (⟨_, _, rfl, qr.ext hE⟩) trivial
  case o2 =>
    intro x0 x1 x2 x3 x4 w' hE
    rintro d0 d1 R hR
    simp only [putAll, List.take, List.drop, List.map, Act.put, List.setIfInBounds_toArray, List.set_cons_zero, List.set_cons_succ]
    go_simp
    refine (merge_c d0 d1 (by omega) (by omega)).mono ?_
    rintro _ w'' ⟨v, rfl, hv, hb⟩
    exact hR _ _ hb hv trivial
  case o3 =>
    intro x0 x1 x2 x3 x4 w' hE
    rintro R hR
    simp only [putAll, List.take, List.drop, List.map, Act.put, List.setIfInBounds_toArray, List.set_cons_zero, List.set_cons_succ]
    go_simp
    exact hR _ _ (Ext.refl _) (rfl) trivial
  case o4 =>
    intro x0 x1 x2 x3 x4 w' hE
    rintro rfl R hR
    simp only [putAll, List.take, List.drop, List.map, Act.put, List.setIfInBounds_toArray, List.set_cons_zero, List.set_cons_succ]
    go_simp
    exact hR _ _ (Ext.refl _) (rfl) trivial
  case rest =>
    intro x0 x1 x2 x3 x4 w5 hb
    rintro _ _ r2 rfl rfl hap
    replace hx := Ext.trans hx hb; replace gz := gz.ext hb; replace gl := gl.ext hb; replace gq := gq.ext hb; replace lr := (PRep l lb lp).mono hb lr; replace qr := (PRep q qb qp).mono hb qr; have s9 := hb.size
    clear hap
    simp only [putAll, List.take, List.drop, List.map, Act.put, List.setIfInBounds_toArray, List.set_cons_zero, List.set_cons_succ]
    obtain ⟨mb, mp, rfl, mr⟩ := r2
    have gz_0 := gz.c 0 rfl; have gzf0 := gz.f 0; have gz_1 := gz.c 1 rfl; have gzf1 := gz.f 1; have gzl := gz.lt; have gl_0 := gl.c 0 rfl; have glf0 := gl.f 0; have gl_1 := gl.c 1 rfl; have glf1 := gl.f 1; have gll := gl.lt; have gq_0 := gq.c 0 rfl; have gqf0 := gq.f 0; have gq_1 := gq.c 1 rfl; have gqf1 := gq.f 1; have gql := gq.lt
    go_wp2_with fail
    clear gz_0 gzf0 gz_1 gzf1 gzl gl_0 glf0 gl_1 glf1 gll gq_0 gqf0 gq_1 gqf1 gql
    obtain ⟨y1, hW, st⟩ := ex2 gz (.bool mb) (.pointer mp)
    rw [hW]; clear hW
    replace hx : Ext w y1 := st.below hx (by omega); replace gl := st.keep gl (by omega); replace gq := st.keep gq (by omega); replace gz := st.blk; replace lr := (PRep l lb lp).imm (st.imm TS (by decide)) lr; replace qr := (PRep q qb qp).imm (st.imm TS (by decide)) qr; replace mr := (PRep (T.mk l q) mb mp).imm (st.imm TS (by decide)) mr; have s10 := st.size
    have e0 := gz.c 0 rfl; have e1 := gz.c 1 rfl
    exact ret_of (.tuple #[idv mb mp, sv r]) (by simp [results, Try.results47, go_sem, e0, e1]) rfl ⟨_, _, rfl, PRep.is mr, rfl⟩ hx

theorem build_c : ∀ (n : Nat) (s : List UInt8) (t : T) (r : List UInt8), parseT n s = some (t, r) → t.depth ≤ 900 → s.length ≤ 1000000000 → ∀ w : World, Calls Try.prog 47 #[sv s] w (Ret w (Two (IsId t).toPP (PP.eq (sv r))).p)
  | 0, _, _, _, h, _, _, _ => by simp [parseT] at h
  | n + 1, [], _, _, h, _, _, _ => by simp [parseT] at h
  | n + 1, x :: s, t, r, h, hd, hl, w => by
    have hsz : (⟨(x :: s).toArray⟩ : ByteArray).size ≤ 1000000000 := by rw [ba_size (sv_data (x :: s))]; exact hl
    rw [parseT] at h
    split at h
    · rename_i hx
      simp at h; obtain ⟨rfl, rfl⟩ := h; subst hx
      exact build_z (sv_data _) hsz
    · split at h
      · rename_i hx
        simp at h; obtain ⟨rfl, rfl⟩ := h; subst hx
        exact build_o (sv_data _) hsz
      · split at h
        · rename_i hx
          subst hx
          split at h
          · rename_i l y r2 hpl
            split at h
            · rename_i hy
              subst hy
              split at h
              · rename_i q z r4 hpq
                split at h
                · rename_i hz
                  simp at h; obtain ⟨rfl, rfl⟩ := h
                  obtain ⟨rfl, hm⟩ := hz
                  have l1 := parseT_len _ _ hpl
                  have l2 := parseT_len _ _ hpq
                  simp only [T.depth] at hd
                  simp only [List.length_cons] at hl l1 l2
                  have := build_n (w := w) (sv_data (40 :: s)) hsz (l := l) (q := q) (by omega) (by omega) rfl (by simp only [List.length_cons]; omega) (by simp only [List.length_cons]; omega)
                    (fun w => build_c n s l _ hpl (by omega) (by omega) w) (fun w => build_c n r2 q _ hpq (by omega) (by omega) w)
                  rw [mk_may hm] at this
                  exact this
                · cases h
              · cases h
            · cases h
          · cases h
        · cases h

set_option maxRecDepth 100000 in
set_option maxHeartbeats 1000000 in
theorem parse_form {s : ByteArray} {w : World} (hs : s.size ≤ 1000000000) (d : Nat) (HS : Hid (scanL (s.size + 1) s.data.toList [] 0 = (d, false))) :
    Calls Try.prog 32 #[(.string s)] w (Ret w (Two (IsId .zero).toPP (PP.eq (.int .i64 6))).p) := by
  go_enter Try.func32, Try.ntmps32
  go_wp2_with fail
  obtain ⟨W, hW, hb, z0, gz⟩ := box1 w [.bool false, .pointer none] 26
  rw [hW]; clear hW
  have hx := hb; have s1 := hb.size
  refine (scan_c hs).mono ?_
  rintro _ w1 ⟨_, rfl, rfl, hb⟩
  replace hx := Ext.trans hx hb; replace gz := gz.ext hb; have s2 := hb.size
  rw [HS.out]
  have gz_0 := gz.c 0 rfl; have gzf0 := gz.f 0; have gz_1 := gz.c 1 rfl; have gzf1 := gz.f 1; have gzl := gz.lt
  go_wp2_with fail
  clear gz_0 gzf0 gz_1 gzf1 gzl
  refine (zero_c).mono ?_
  rintro _ w2 ⟨zv, rfl, z, hb⟩
  replace hx := Ext.trans hx hb; replace gz := gz.ext hb; have s3 := hb.size
  obtain ⟨zb, zp, rfl, zr⟩ := z
  have gz_0 := gz.c 0 rfl; have gzf0 := gz.f 0; have gz_1 := gz.c 1 rfl; have gzf1 := gz.f 1; have gzl := gz.lt
  go_wp2_with fail
  clear gz_0 gzf0 gz_1 gzf1 gzl
  obtain ⟨y1, hW, st⟩ := ex2 gz (.bool zb) (.pointer zp)
  rw [hW]; clear hW
  replace hx : Ext w y1 := st.below hx (by omega); replace gz := st.blk; replace zr := (PRep .zero zb zp).imm (st.imm TS (by decide)) zr; have s4 := st.size
  have e0 := gz.c 0 rfl; have e1 := gz.c 1 rfl
  exact ret_of (.tuple #[idv zb zp, .int .i64 6]) (by simp [results, Try.results32, go_sem, e0, e1]) rfl ⟨_, _, rfl, PRep.is zr, rfl⟩ hx

set_option maxRecDepth 100000 in
set_option maxHeartbeats 1000000 in
theorem parse_ok {s : ByteArray} {w : World} (hs : s.size ≤ 1000000000) (t : T) (ht : t.depth ≤ 16) (l : List UInt8) (hsl : s = ⟨l.toArray⟩) (n : Nat) (hp : parseT n l = some (t, [])) (hl : l.length ≤ 1000000000) (HS : Hid (scanL (s.size + 1) s.data.toList [] 0 = (t.depth, true))) :
    Calls Try.prog 32 #[(.string s)] w (Ret w (Two (IsId t).toPP (PP.eq (.int .i64 0))).p) := by
  have Hsl := Lib.hid hsl; have Hp := Lib.hid hp; clear hsl hp
  go_enter Try.func32, Try.ntmps32
  go_wp2_with fail
  obtain ⟨W, hW, hb, z0, gz⟩ := box1 w [.bool false, .pointer none] 26
  rw [hW]; clear hW
  have hx := hb; have s1 := hb.size
  refine (scan_c hs).mono ?_
  rintro _ w1 ⟨_, rfl, rfl, hb⟩
  replace hx := Ext.trans hx hb; replace gz := gz.ext hb; have s2 := hb.size
  rw [HS.out]
  have gz_0 := gz.c 0 rfl; have gzf0 := gz.f 0; have gz_1 := gz.c 1 rfl; have gzf1 := gz.f 1; have gzl := gz.lt
  go_wp2_with fail
  clear gz_0 gzf0 gz_1 gzf1 gzl
  have hbd := build_c _ _ t [] Hp.out (by omega) (by omega) w1
  rw [show sv l = .string s from by rw [Hsl.out]] at hbd
  refine (hbd).mono ?_
  rintro _ w2 ⟨cv, rfl, c, hb⟩
  replace hx := Ext.trans hx hb; replace gz := gz.ext hb; have s3 := hb.size
  obtain ⟨cv, _, rfl, ca, rfl⟩ := c
  obtain ⟨zb, zp, rfl, zr⟩ := ca
  have gz_0 := gz.c 0 rfl; have gzf0 := gz.f 0; have gz_1 := gz.c 1 rfl; have gzf1 := gz.f 1; have gzl := gz.lt
  go_wp2_with fail
  clear gz_0 gzf0 gz_1 gzf1 gzl
  obtain ⟨y1, hW, st⟩ := ex2 gz (.bool zb) (.pointer zp)
  rw [hW]; clear hW
  replace hx : Ext w y1 := st.below hx (by omega); replace gz := st.blk; replace zr := (PRep t zb zp).imm (st.imm TS (by decide)) zr; have s4 := st.size
  have gzlt5 := gz.lt
  obtain ⟨w3, hW, hb, z5, gi⟩ := box1 y1 [.bool zb, .pointer zp] 26
  rw [hW]; clear hW
  replace hx := Ext.trans hx hb; replace gz := gz.ext hb; replace zr := (PRep t zb zp).mono hb zr; have s6 := hb.size
  have e0 := gz.c 0 rfl; have e1 := gz.c 1 rfl
  exact ret_of (.tuple #[idv zb zp, .int .i64 0]) (by simp [results, Try.results32, go_sem, e0, e1]) rfl ⟨_, _, rfl, PRep.is zr, rfl⟩ hx

set_option maxRecDepth 100000 in
set_option maxHeartbeats 1000000 in
theorem parse_deep {s : ByteArray} {w : World} (hs : s.size ≤ 1000000000) (d : Nat) (hd : 16 < d) (hd2 : d ≤ 1000000000) (HS : Hid (scanL (s.size + 1) s.data.toList [] 0 = (d, true))) :
    Calls Try.prog 32 #[(.string s)] w (Ret w (Two (IsId .zero).toPP (PP.eq (.int .i64 3))).p) := by
  go_enter Try.func32, Try.ntmps32
  go_wp2_with fail
  obtain ⟨W, hW, hb, z0, gz⟩ := box1 w [.bool false, .pointer none] 26
  rw [hW]; clear hW
  have hx := hb; have s1 := hb.size
  refine (scan_c hs).mono ?_
  rintro _ w1 ⟨_, rfl, rfl, hb⟩
  replace hx := Ext.trans hx hb; replace gz := gz.ext hb; have s2 := hb.size
  rw [HS.out]
  have gz_0 := gz.c 0 rfl; have gzf0 := gz.f 0; have gz_1 := gz.c 1 rfl; have gzf1 := gz.f 1; have gzl := gz.lt
  go_wp2_with fail
  clear gz_0 gzf0 gz_1 gzf1 gzl
  refine (zero_c).mono ?_
  rintro _ w2 ⟨zv, rfl, z, hb⟩
  replace hx := Ext.trans hx hb; replace gz := gz.ext hb; have s3 := hb.size
  obtain ⟨zb, zp, rfl, zr⟩ := z
  have gz_0 := gz.c 0 rfl; have gzf0 := gz.f 0; have gz_1 := gz.c 1 rfl; have gzf1 := gz.f 1; have gzl := gz.lt
  go_wp2_with fail
  clear gz_0 gzf0 gz_1 gzf1 gzl
  obtain ⟨y1, hW, st⟩ := ex2 gz (.bool zb) (.pointer zp)
  rw [hW]; clear hW
  replace hx : Ext w y1 := st.below hx (by omega); replace gz := st.blk; replace zr := (PRep .zero zb zp).imm (st.imm TS (by decide)) zr; have s4 := st.size
  have e0 := gz.c 0 rfl; have e1 := gz.c 1 rfl
  exact ret_of (.tuple #[idv zb zp, .int .i64 3]) (by simp [results, Try.results32, go_sem, e0, e1]) rfl ⟨_, _, rfl, PRep.is zr, rfl⟩ hx

/-- what Parse answers -/
def parseR (s : List UInt8) : T × Nat := match parseT (s.length + 1) s with
  | some (t, []) => if 16 < t.depth then (.zero, 3) else (t, 0)
  | _ => (.zero, 6)

theorem parse_depth : ∀ (n : Nat) (s : List UInt8) {t : T} {r : List UInt8}, parseT n s = some (t, r) → t.depth ≤ s.length
  | 0, _, _, _, h => by simp [parseT] at h
  | n + 1, [], _, _, h => by simp [parseT] at h
  | n + 1, x :: s, t, r, h => by
    rw [parseT] at h
    split at h
    · simp at h; rw [← h.1]; simp [T.depth]
    · split at h
      · simp at h; rw [← h.1]; simp [T.depth]
      · split at h
        · split at h
          · rename_i l y r2 hl
            split at h
            · split at h
              · rename_i q z r4 hq
                split at h
                · simp at h
                  have h1 := parse_depth n _ hl
                  have h2 := parse_depth n _ hq
                  have h3 := parseT_len n _ hl
                  rw [← h.1]
                  simp only [T.depth, List.length_cons] at h3 ⊢
                  omega
                · cases h
              · cases h
            · cases h
          · cases h
        · cases h

theorem parse_c (l : List UInt8) (w : World) (hl : l.length ≤ 1000000000) : Calls Try.prog 32 #[sv l] w (Ret w (Two (IsId (parseR l).1).toPP (PP.eq (.int .i64 (((parseR l).2 : Nat) : Int)))).p) := by
  have hsz : (⟨l.toArray⟩ : ByteArray).size = l.length := ba_size (sv_data l)
  have hs : (⟨l.toArray⟩ : ByteArray).size ≤ 1000000000 := by omega
  have hsc : scanL ((⟨l.toArray⟩ : ByteArray).size + 1) (⟨l.toArray⟩ : ByteArray).data.toList [] 0 = (match parseT (l.length + 1) l with | some (t, r) => (t.depth, r.isEmpty) | none => (0, false)) := by rw [hsz, sv_data]; exact scan_text l
  unfold parseR
  cases hp : parseT (l.length + 1) l with
  | none =>
    rw [hp] at hsc
    exact parse_form hs 0 hsc
  | some o =>
    obtain ⟨t, r⟩ := o
    rw [hp] at hsc
    simp only [] at hsc ⊢
    have hd := parse_depth _ _ hp
    cases r with
    | cons x r => exact parse_form hs _ hsc
    | nil =>
      simp only []
      split
      · exact parse_deep hs _ (by assumption) (by omega) hsc
      · exact parse_ok hs t (by omega) l rfl _ hp hl hsc

end Go.Proofs.Ytkfncjaomgcdgaa
