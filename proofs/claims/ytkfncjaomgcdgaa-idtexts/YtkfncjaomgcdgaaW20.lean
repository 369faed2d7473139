/- The document's reader. -/
import Derived.Test.YtkfncjaomgcdgaaW13
import Derived.BigQuiet
set_option linter.all false
namespace Go.Proofs.Ytkfncjaomgcdgaa
open Go.RowKit Go.Facts

/-- what the document's reader hands on: an id, the rest, whether it is one -/
def RP : Option (T × List UInt8) → PP
  | some (t, r) => ⟨fun v w => ∃ x, v = .tuple #[x, sv r, .bool true] ∧ (IsRef t).p x w, fun h ⟨x, e, k⟩ => ⟨x, e, (IsRef t).mono h k⟩⟩
  | none => ⟨fun v w => ∃ x r, v = .tuple #[x, sv r, .bool false] ∧ (IsRef .zero).p x w, fun h ⟨x, r, e, k⟩ => ⟨x, r, e, (IsRef .zero).mono h k⟩⟩

set_option maxRecDepth 100000 in
set_option maxHeartbeats 400000 in
theorem rp_nil {w : World} :
    Calls Try.prog 48 #[sv []] w (Ret w (RP none).p) := by
  have hz : (((⟨([] : List UInt8).toArray⟩ : ByteArray).size : Int) == 0) = true := rfl
  go_enter Try.func48, Try.ntmps48
  go_wp2_with fail
  refine (rzero_c).mono ?_
  rintro _ w1 ⟨zzv, rfl, zz, hb⟩
  have hx := hb; have s0 := hb.size
  go_wp2_with fail
  exact ret_of (.tuple #[zzv, sv [], .bool false]) (by simp [results, Try.results48, go_sem]) rfl ⟨_, [], rfl, zz⟩ hx

set_option maxRecDepth 100000 in
set_option maxHeartbeats 1000000 in
theorem rp_z {s : ByteArray} {r : List UInt8} {w : World} (hp : s.data.toList = 48 :: r) (hs : s.size ≤ 1000000000) :
    Calls Try.prog 48 #[(.string s)] w (Ret w (RP (some (.zero, r))).p) := by
  have h0 : 0 < s.size := by rw [ba_size hp]; simp
  have h1 : (1 : Int) ≤ (s.size : Int) := by omega
  have hex := ba_tail hp
  have hd := ba_head hp h0
  have hne : ((s.size : Int) == 0) = false := beq_eq_false_iff_ne.2 (by omega)
  have hq : ((s[0].toNat : Int) == 48) = true := by rw [hd]; rfl
  have hq2 : ((s[0].toNat : Int) == 49) = false := by rw [hd]; rfl
  have Hp := Lib.hid hp; clear hp hd
  go_enter Try.func48, Try.ntmps48
  go_wp2_with fail
  refine wp_facts 4 [] [(IsRef .zero).toPP, PP.eq (.string s), PP.eq (sv r), (IsRef .zero).toPP] (by kernel_rfl) (by kernel_rfl) ⟨?o0, ?o1, ?o2, ?o3, trivial⟩ ?rest
  case o0 =>
    intro x0 x1 x2 x3 w' hE
    rintro R hR
    simp only [putAll, List.take, List.drop, List.map, Act.put, List.setIfInBounds_toArray, List.set_cons_zero, List.set_cons_succ]
    go_simp
    refine (rzero_c).mono ?_
    rintro _ w'' ⟨v, rfl, hv, hb⟩
    exact hR _ _ hb hv trivial
  case o1 =>
    intro x0 x1 x2 x3 w' hE
    rintro R hR
    simp only [putAll, List.take, List.drop, List.map, Act.put, List.setIfInBounds_toArray, List.set_cons_zero, List.set_cons_succ]
    go_simp
    exact hR _ _ (Ext.refl _) (rfl) trivial
  case o2 =>
    intro x0 x1 x2 x3 w' hE
    rintro rfl R hR
    simp only [putAll, List.take, List.drop, List.map, Act.put, List.setIfInBounds_toArray, List.set_cons_zero, List.set_cons_succ]
    go_simp
    exact hR _ _ (Ext.refl _) (rfl) trivial
  case o3 =>
    intro x0 x1 x2 x3 w' hE
    rintro d0 _ _ R hR
    simp only [putAll, List.take, List.drop, List.map, Act.put, List.setIfInBounds_toArray, List.set_cons_zero, List.set_cons_succ]
    go_simp
    exact hR _ _ (Ext.refl _) (d0) trivial
  case rest =>
    intro x0 x1 x2 x3 w1 hb
    rintro _ rfl rfl r3 hap
    have hx := hb; have s1 := hb.size
    clear hap
    simp only [putAll, List.take, List.drop, List.map, Act.put, List.setIfInBounds_toArray, List.set_cons_zero, List.set_cons_succ]
    go_wp2_with fail
    exact ret_of (.tuple #[x3, sv r, .bool true]) (by simp [results, Try.results48, go_sem]) rfl ⟨_, rfl, r3⟩ hx

set_option maxRecDepth 100000 in
set_option maxHeartbeats 1000000 in
theorem rp_o {s : ByteArray} {r : List UInt8} {w : World} (hp : s.data.toList = 49 :: r) (hs : s.size ≤ 1000000000) :
    Calls Try.prog 48 #[(.string s)] w (Ret w (RP (some (.one, r))).p) := by
  have h0 : 0 < s.size := by rw [ba_size hp]; simp
  have h1 : (1 : Int) ≤ (s.size : Int) := by omega
  have hex := ba_tail hp
  have hd := ba_head hp h0
  have hne : ((s.size : Int) == 0) = false := beq_eq_false_iff_ne.2 (by omega)
  have hq : ((s[0].toNat : Int) == 48) = false := by rw [hd]; rfl
  have hq2 : ((s[0].toNat : Int) == 49) = true := by rw [hd]; rfl
  have Hp := Lib.hid hp; clear hp hd
  go_enter Try.func48, Try.ntmps48
  go_wp2_with fail
  refine wp_facts 4 [] [(IsRef .one).toPP, PP.eq (.string s), PP.eq (sv r), (IsRef .one).toPP] (by kernel_rfl) (by kernel_rfl) ⟨?o0, ?o1, ?o2, ?o3, trivial⟩ ?rest
  case o0 =>
    intro x0 x1 x2 x3 w' hE
    rintro R hR
    simp only [putAll, List.take, List.drop, List.map, Act.put, List.setIfInBounds_toArray, List.set_cons_zero, List.set_cons_succ]
    go_simp
    refine (rone_c).mono ?_
    rintro _ w'' ⟨v, rfl, hv, hb⟩
    exact hR _ _ hb hv trivial
  case o1 =>
    intro x0 x1 x2 x3 w' hE
    rintro R hR
    simp only [putAll, List.take, List.drop, List.map, Act.put, List.setIfInBounds_toArray, List.set_cons_zero, List.set_cons_succ]
    go_simp
    exact hR _ _ (Ext.refl _) (rfl) trivial
  case o2 =>
    intro x0 x1 x2 x3 w' hE
    rintro rfl R hR
    simp only [putAll, List.take, List.drop, List.map, Act.put, List.setIfInBounds_toArray, List.set_cons_zero, List.set_cons_succ]
    go_simp
    exact hR _ _ (Ext.refl _) (rfl) trivial
  case o3 =>
    intro x0 x1 x2 x3 w' hE
    rintro d0 _ _ R hR
    simp only [putAll, List.take, List.drop, List.map, Act.put, List.setIfInBounds_toArray, List.set_cons_zero, List.set_cons_succ]
    go_simp
    exact hR _ _ (Ext.refl _) (d0) trivial
  case rest =>
    intro x0 x1 x2 x3 w1 hb
    rintro _ rfl rfl r3 hap
    have hx := hb; have s1 := hb.size
    clear hap
    simp only [putAll, List.take, List.drop, List.map, Act.put, List.setIfInBounds_toArray, List.set_cons_zero, List.set_cons_succ]
    go_wp2_with fail
    exact ret_of (.tuple #[x3, sv r, .bool true]) (by simp [results, Try.results48, go_sem]) rfl ⟨_, rfl, r3⟩ hx

theorem u8_eq {x : UInt8} {n : Nat} (h : x ≠ UInt8.ofNat n) (hn : n < 256) : ((x.toNat : Int) == (n : Int)) = false := by
  rw [beq_eq_false_iff_ne]
  intro e
  apply h
  apply UInt8.toNat_inj.1
  rw [UInt8.toNat_ofNat']
  omega
theorem u8_ne {x : UInt8} {n : Nat} (h : x ≠ UInt8.ofNat n) (hn : n < 256) : ((x.toNat : Int) != (n : Int)) = true := by
  rw [bne, u8_eq h hn]; rfl

set_option maxRecDepth 100000 in
set_option maxHeartbeats 1000000 in
theorem rp_x {s : ByteArray} {r : List UInt8} {w : World} {x : UInt8} (hp : s.data.toList = x :: r) (hs : s.size ≤ 1000000000) (h48 : x ≠ 48) (h49 : x ≠ 49) (h40 : x ≠ 40) :
    Calls Try.prog 48 #[(.string s)] w (Ret w (RP none).p) := by
  have h0 : 0 < s.size := by rw [ba_size hp]; simp
  have h1 : (1 : Int) ≤ (s.size : Int) := by omega
  have hex := ba_tail hp
  have hd := ba_head hp h0
  have hne : ((s.size : Int) == 0) = false := beq_eq_false_iff_ne.2 (by omega)
  have hq : ((s[0].toNat : Int) == 48) = false := by rw [hd]; exact u8_eq (n := 48) h48 (by decide)
  have hq2 : ((s[0].toNat : Int) == 49) = false := by rw [hd]; exact u8_eq (n := 49) h49 (by decide)
  have hq3 : ((s[0].toNat : Int) != 40) = true := by rw [hd]; exact u8_ne (n := 40) h40 (by decide)
  have Hr : Hid (Value.string s = sv (x :: r)) := by unfold Hid; rw [ba_ext hp]
  clear hp hd h48 h49 h40
  go_enter Try.func48, Try.ntmps48
  go_wp2_with fail
  refine (rzero_c).mono ?_
  rintro _ w1 ⟨zzv, rfl, zz, hb⟩
  have hx := hb; have s0 := hb.size
  go_wp2_with fail
  exact ret_of (.tuple #[zzv, .string s, .bool false]) (by simp [results, Try.results48, go_sem]) rfl ⟨_, x :: r, by rw [Hr.out], zz⟩ hx

set_option maxRecDepth 100000 in
set_option maxHeartbeats 2000000 in
theorem rp_l0 {s : ByteArray} {r0 : List UInt8} {w : World} (hp : s.data.toList = 40 :: r0) (hs : s.size ≤ 1000000000) (ihl : ∀ w : World, Calls Try.prog 48 #[sv r0] w (Ret w (RP none).p)) :
    Calls Try.prog 48 #[(.string s)] w (Ret w (RP none).p) := by
  have IHL := Lib.hid ihl; clear ihl
  have h0 : 0 < s.size := by rw [ba_size hp]; simp
  have h1 : (1 : Int) ≤ (s.size : Int) := by omega
  have hex := ba_tail hp
  have hd := ba_head hp h0
  have hne : ((s.size : Int) == 0) = false := beq_eq_false_iff_ne.2 (by omega)
  have hq : ((s[0].toNat : Int) == 48) = false := by rw [hd]; rfl
  have hq2 : ((s[0].toNat : Int) == 49) = false := by rw [hd]; rfl
  have hq3 : ((s[0].toNat : Int) != 40) = false := by rw [hd]; rfl
  have Hp := Lib.hid hp; clear hp hd
  go_enter Try.func48, Try.ntmps48
  go_wp2_with fail
  refine (IHL.out _).mono ?_
  rintro _ w1 ⟨_, rfl, hc, hb⟩
  have hx := hb; have s0 := hb.size
  obtain ⟨cv, cr, rfl, c⟩ := hc
  go_wp2_with fail
  refine (rzero_c).mono ?_
  rintro _ w2 ⟨zzv, rfl, zz, hb⟩
  replace hx := Ext.trans hx hb; replace c := (IsRef .zero).mono hb c; have s1 := hb.size
  go_wp2_with fail
  exact ret_of (.tuple #[zzv, sv cr, .bool false]) (by simp [results, Try.results48, go_sem]) rfl ⟨_, cr, rfl, zz⟩ hx

set_option maxRecDepth 100000 in
set_option maxHeartbeats 2000000 in
theorem rp_l1 {s : ByteArray} {r0 : List UInt8} {w : World} (hp : s.data.toList = 40 :: r0) (hs : s.size ≤ 1000000000) {l : T} (ihl : ∀ w : World, Calls Try.prog 48 #[sv r0] w (Ret w (RP (some (l, []))).p)) :
    Calls Try.prog 48 #[(.string s)] w (Ret w (RP none).p) := by
  have IHL := Lib.hid ihl; clear ihl
  have h0 : 0 < s.size := by rw [ba_size hp]; simp
  have h1 : (1 : Int) ≤ (s.size : Int) := by omega
  have hex := ba_tail hp
  have hd := ba_head hp h0
  have hne : ((s.size : Int) == 0) = false := beq_eq_false_iff_ne.2 (by omega)
  have hq : ((s[0].toNat : Int) == 48) = false := by rw [hd]; rfl
  have hq2 : ((s[0].toNat : Int) == 49) = false := by rw [hd]; rfl
  have hq3 : ((s[0].toNat : Int) != 40) = false := by rw [hd]; rfl
  have Hp := Lib.hid hp; clear hp hd
  obtain ⟨S1, hs1⟩ : ∃ S1 : ByteArray, S1 = ⟨(([] : List UInt8)).toArray⟩ := ⟨_, rfl⟩
  have hp1 : S1.data.toList = ([] : List UInt8) := by rw [hs1]
  have Hs1 : Hid (sv (([] : List UInt8)) = .string S1) := by unfold Hid; rw [hs1]
  have hne1 : ((S1.size : Int) == 0) = true := by rw [ba_size hp1]; rfl
  clear hs1 hp1
  go_enter Try.func48, Try.ntmps48
  go_wp2_with fail
  refine (IHL.out _).mono ?_
  rintro _ w1 ⟨_, rfl, hc, hb⟩
  have hx := hb; have s0 := hb.size
  obtain ⟨cv, rfl, c⟩ := hc
  rw [Hs1.out]
  go_wp2_with fail
  refine (rzero_c).mono ?_
  rintro _ w2 ⟨zzv, rfl, zz, hb⟩
  replace hx := Ext.trans hx hb; replace c := (IsRef l).mono hb c; have s1 := hb.size
  go_wp2_with fail
  exact ret_of (.tuple #[zzv, .string S1, .bool false]) (by simp [results, Try.results48, go_sem]) rfl ⟨_, [], by rw [← Hs1.out], zz⟩ hx

set_option maxRecDepth 100000 in
set_option maxHeartbeats 2000000 in
theorem rp_l2 {s : ByteArray} {r0 : List UInt8} {w : World} (hp : s.data.toList = 40 :: r0) (hs : s.size ≤ 1000000000) {l : T} {y : UInt8} {r1 : List UInt8} (hy : y ≠ 44) (ihl : ∀ w : World, Calls Try.prog 48 #[sv r0] w (Ret w (RP (some (l, y :: r1))).p)) :
    Calls Try.prog 48 #[(.string s)] w (Ret w (RP none).p) := by
  have IHL := Lib.hid ihl; clear ihl
  have h0 : 0 < s.size := by rw [ba_size hp]; simp
  have h1 : (1 : Int) ≤ (s.size : Int) := by omega
  have hex := ba_tail hp
  have hd := ba_head hp h0
  have hne : ((s.size : Int) == 0) = false := beq_eq_false_iff_ne.2 (by omega)
  have hq : ((s[0].toNat : Int) == 48) = false := by rw [hd]; rfl
  have hq2 : ((s[0].toNat : Int) == 49) = false := by rw [hd]; rfl
  have hq3 : ((s[0].toNat : Int) != 40) = false := by rw [hd]; rfl
  have Hp := Lib.hid hp; clear hp hd
  obtain ⟨S1, hs1⟩ : ∃ S1 : ByteArray, S1 = ⟨(y :: r1).toArray⟩ := ⟨_, rfl⟩
  have hp1 : S1.data.toList = y :: r1 := by rw [hs1]
  have Hs1 : Hid (sv (y :: r1) = .string S1) := by unfold Hid; rw [hs1]
  have h01 : 0 < S1.size := by rw [ba_size hp1]; simp
  have h11 : (1 : Int) ≤ (S1.size : Int) := by omega
  have hex1 := ba_tail hp1
  have hd1 := ba_head hp1 h01
  have hne1 : ((S1.size : Int) == 0) = false := beq_eq_false_iff_ne.2 (by omega)
  have hq4 : ((S1[0].toNat : Int) != 44) = true := by rw [hd1]; exact u8_ne (n := 44) hy (by decide)
  clear hs1 hp1 hd1 hy
  go_enter Try.func48, Try.ntmps48
  go_wp2_with fail
  refine (IHL.out _).mono ?_
  rintro _ w1 ⟨_, rfl, hc, hb⟩
  have hx := hb; have s0 := hb.size
  obtain ⟨cv, rfl, c⟩ := hc
  rw [Hs1.out]
  go_wp2_with fail
  refine (rzero_c).mono ?_
  rintro _ w2 ⟨zzv, rfl, zz, hb⟩
  replace hx := Ext.trans hx hb; replace c := (IsRef l).mono hb c; have s1 := hb.size
  go_wp2_with fail
  exact ret_of (.tuple #[zzv, .string S1, .bool false]) (by simp [results, Try.results48, go_sem]) rfl ⟨_, y :: r1, by rw [← Hs1.out], zz⟩ hx

set_option maxRecDepth 100000 in
set_option maxHeartbeats 2000000 in
theorem rp_r0 {s : ByteArray} {r0 : List UInt8} {w : World} (hp : s.data.toList = 40 :: r0) (hs : s.size ≤ 1000000000) {l : T} {r1 : List UInt8} (hl1 : (44 :: r1).length ≤ 1000000000) (ihl : ∀ w : World, Calls Try.prog 48 #[sv r0] w (Ret w (RP (some (l, 44 :: r1))).p)) (ihr : ∀ w : World, Calls Try.prog 48 #[sv r1] w (Ret w (RP none).p)) :
    Calls Try.prog 48 #[(.string s)] w (Ret w (RP none).p) := by
  have IHL := Lib.hid ihl; clear ihl
  have h0 : 0 < s.size := by rw [ba_size hp]; simp
  have h1 : (1 : Int) ≤ (s.size : Int) := by omega
  have hex := ba_tail hp
  have hd := ba_head hp h0
  have hne : ((s.size : Int) == 0) = false := beq_eq_false_iff_ne.2 (by omega)
  have hq : ((s[0].toNat : Int) == 48) = false := by rw [hd]; rfl
  have hq2 : ((s[0].toNat : Int) == 49) = false := by rw [hd]; rfl
  have hq3 : ((s[0].toNat : Int) != 40) = false := by rw [hd]; rfl
  have Hp := Lib.hid hp; clear hp hd
  have IHR := Lib.hid ihr; clear ihr
  obtain ⟨S1, hs1⟩ : ∃ S1 : ByteArray, S1 = ⟨(44 :: r1).toArray⟩ := ⟨_, rfl⟩
  have hp1 : S1.data.toList = 44 :: r1 := by rw [hs1]
  have Hs1 : Hid (sv (44 :: r1) = .string S1) := by unfold Hid; rw [hs1]
  have h01 : 0 < S1.size := by rw [ba_size hp1]; simp
  have h11 : (1 : Int) ≤ (S1.size : Int) := by omega
  have hex1 := ba_tail hp1
  have hd1 := ba_head hp1 h01
  have hne1 : ((S1.size : Int) == 0) = false := beq_eq_false_iff_ne.2 (by omega)
  have hq4 : ((S1[0].toNat : Int) != 44) = false := by rw [hd1]; rfl
  have hz1 : S1.size ≤ 1000000000 := by rw [ba_size hp1]; exact hl1
  clear hs1 hp1 hd1
  go_enter Try.func48, Try.ntmps48
  go_wp2_with fail
  refine (IHL.out _).mono ?_
  rintro _ w1 ⟨_, rfl, hc, hb⟩
  have hx := hb; have s0 := hb.size
  obtain ⟨cv, rfl, c⟩ := hc
  rw [Hs1.out]
  go_wp2_with fail
  refine (IHR.out _).mono ?_
  rintro _ w2 ⟨_, rfl, hc, hb⟩
  replace hx := Ext.trans hx hb; replace c := (IsRef l).mono hb c; have s1 := hb.size
  obtain ⟨ev, er, rfl, e⟩ := hc
  go_wp2_with fail
  go_quiet (fail)
  obtain ⟨w3, hW, hb⟩ : ∃ X, w2.drewN nq = X ∧ Ext w2 X := ⟨_, rfl, drewN_ext _ _⟩
  rw [hW]; clear hW
  replace hx := Ext.trans hx hb; replace c := (IsRef l).mono hb c; replace e := (IsRef .zero).mono hb e; have s2 := hb.size
  go_wp2_with fail
  refine (rzero_c).mono ?_
  rintro _ w4 ⟨zzv, rfl, zz, hb⟩
  replace hx := Ext.trans hx hb; replace c := (IsRef l).mono hb c; replace e := (IsRef .zero).mono hb e; have s3 := hb.size
  go_wp2_with fail
  exact ret_of (.tuple #[zzv, sv er, .bool false]) (by simp [results, Try.results48, go_sem]) rfl ⟨_, er, rfl, zz⟩ hx

set_option maxRecDepth 100000 in
set_option maxHeartbeats 2000000 in
theorem rp_r1 {s : ByteArray} {r0 : List UInt8} {w : World} (hp : s.data.toList = 40 :: r0) (hs : s.size ≤ 1000000000) {l : T} {r1 : List UInt8} (hl1 : (44 :: r1).length ≤ 1000000000) {q : T} (ihl : ∀ w : World, Calls Try.prog 48 #[sv r0] w (Ret w (RP (some (l, 44 :: r1))).p)) (ihr : ∀ w : World, Calls Try.prog 48 #[sv r1] w (Ret w (RP (some (q, []))).p)) :
    Calls Try.prog 48 #[(.string s)] w (Ret w (RP none).p) := by
  have IHL := Lib.hid ihl; clear ihl
  have h0 : 0 < s.size := by rw [ba_size hp]; simp
  have h1 : (1 : Int) ≤ (s.size : Int) := by omega
  have hex := ba_tail hp
  have hd := ba_head hp h0
  have hne : ((s.size : Int) == 0) = false := beq_eq_false_iff_ne.2 (by omega)
  have hq : ((s[0].toNat : Int) == 48) = false := by rw [hd]; rfl
  have hq2 : ((s[0].toNat : Int) == 49) = false := by rw [hd]; rfl
  have hq3 : ((s[0].toNat : Int) != 40) = false := by rw [hd]; rfl
  have Hp := Lib.hid hp; clear hp hd
  have IHR := Lib.hid ihr; clear ihr
  obtain ⟨S1, hs1⟩ : ∃ S1 : ByteArray, S1 = ⟨(44 :: r1).toArray⟩ := ⟨_, rfl⟩
  have hp1 : S1.data.toList = 44 :: r1 := by rw [hs1]
  have Hs1 : Hid (sv (44 :: r1) = .string S1) := by unfold Hid; rw [hs1]
  have h01 : 0 < S1.size := by rw [ba_size hp1]; simp
  have h11 : (1 : Int) ≤ (S1.size : Int) := by omega
  have hex1 := ba_tail hp1
  have hd1 := ba_head hp1 h01
  have hne1 : ((S1.size : Int) == 0) = false := beq_eq_false_iff_ne.2 (by omega)
  have hq4 : ((S1[0].toNat : Int) != 44) = false := by rw [hd1]; rfl
  have hz1 : S1.size ≤ 1000000000 := by rw [ba_size hp1]; exact hl1
  clear hs1 hp1 hd1
  obtain ⟨S2, hs2⟩ : ∃ S2 : ByteArray, S2 = ⟨(([] : List UInt8)).toArray⟩ := ⟨_, rfl⟩
  have hp2 : S2.data.toList = ([] : List UInt8) := by rw [hs2]
  have Hs2 : Hid (sv (([] : List UInt8)) = .string S2) := by unfold Hid; rw [hs2]
  have hne2 : ((S2.size : Int) == 0) = true := by rw [ba_size hp2]; rfl
  clear hs2 hp2
  go_enter Try.func48, Try.ntmps48
  go_wp2_with fail
  refine (IHL.out _).mono ?_
  rintro _ w1 ⟨_, rfl, hc, hb⟩
  have hx := hb; have s0 := hb.size
  obtain ⟨cv, rfl, c⟩ := hc
  rw [Hs1.out]
  go_wp2_with fail
  refine (IHR.out _).mono ?_
  rintro _ w2 ⟨_, rfl, hc, hb⟩
  replace hx := Ext.trans hx hb; replace c := (IsRef l).mono hb c; have s1 := hb.size
  obtain ⟨ev, rfl, e⟩ := hc
  rw [Hs2.out]
  go_wp2_with fail
  go_quiet (fail)
  obtain ⟨w3, hW, hb⟩ : ∃ X, w2.drewN nq = X ∧ Ext w2 X := ⟨_, rfl, drewN_ext _ _⟩
  rw [hW]; clear hW
  replace hx := Ext.trans hx hb; replace c := (IsRef l).mono hb c; replace e := (IsRef q).mono hb e; have s2 := hb.size
  go_wp2_with fail
  refine (rzero_c).mono ?_
  rintro _ w4 ⟨zzv, rfl, zz, hb⟩
  replace hx := Ext.trans hx hb; replace c := (IsRef l).mono hb c; replace e := (IsRef q).mono hb e; have s3 := hb.size
  go_wp2_with fail
  exact ret_of (.tuple #[zzv, .string S2, .bool false]) (by simp [results, Try.results48, go_sem]) rfl ⟨_, [], by rw [← Hs2.out], zz⟩ hx

set_option maxRecDepth 100000 in
set_option maxHeartbeats 2000000 in
theorem rp_r2 {s : ByteArray} {r0 : List UInt8} {w : World} (hp : s.data.toList = 40 :: r0) (hs : s.size ≤ 1000000000) {l : T} {r1 : List UInt8} (hl1 : (44 :: r1).length ≤ 1000000000) {q : T} {z : UInt8} {r2 : List UInt8} (hz : z ≠ 41) (ihl : ∀ w : World, Calls Try.prog 48 #[sv r0] w (Ret w (RP (some (l, 44 :: r1))).p)) (ihr : ∀ w : World, Calls Try.prog 48 #[sv r1] w (Ret w (RP (some (q, z :: r2))).p)) :
    Calls Try.prog 48 #[(.string s)] w (Ret w (RP none).p) := by
  have IHL := Lib.hid ihl; clear ihl
  have h0 : 0 < s.size := by rw [ba_size hp]; simp
  have h1 : (1 : Int) ≤ (s.size : Int) := by omega
  have hex := ba_tail hp
  have hd := ba_head hp h0
  have hne : ((s.size : Int) == 0) = false := beq_eq_false_iff_ne.2 (by omega)
  have hq : ((s[0].toNat : Int) == 48) = false := by rw [hd]; rfl
  have hq2 : ((s[0].toNat : Int) == 49) = false := by rw [hd]; rfl
  have hq3 : ((s[0].toNat : Int) != 40) = false := by rw [hd]; rfl
  have Hp := Lib.hid hp; clear hp hd
  have IHR := Lib.hid ihr; clear ihr
  obtain ⟨S1, hs1⟩ : ∃ S1 : ByteArray, S1 = ⟨(44 :: r1).toArray⟩ := ⟨_, rfl⟩
  have hp1 : S1.data.toList = 44 :: r1 := by rw [hs1]
  have Hs1 : Hid (sv (44 :: r1) = .string S1) := by unfold Hid; rw [hs1]
  have h01 : 0 < S1.size := by rw [ba_size hp1]; simp
  have h11 : (1 : Int) ≤ (S1.size : Int) := by omega
  have hex1 := ba_tail hp1
  have hd1 := ba_head hp1 h01
  have hne1 : ((S1.size : Int) == 0) = false := beq_eq_false_iff_ne.2 (by omega)
  have hq4 : ((S1[0].toNat : Int) != 44) = false := by rw [hd1]; rfl
  have hz1 : S1.size ≤ 1000000000 := by rw [ba_size hp1]; exact hl1
  clear hs1 hp1 hd1
  obtain ⟨S2, hs2⟩ : ∃ S2 : ByteArray, S2 = ⟨(z :: r2).toArray⟩ := ⟨_, rfl⟩
  have hp2 : S2.data.toList = z :: r2 := by rw [hs2]
  have Hs2 : Hid (sv (z :: r2) = .string S2) := by unfold Hid; rw [hs2]
  have h02 : 0 < S2.size := by rw [ba_size hp2]; simp
  have h12 : (1 : Int) ≤ (S2.size : Int) := by omega
  have hex2 := ba_tail hp2
  have hd2 := ba_head hp2 h02
  have hne2 : ((S2.size : Int) == 0) = false := beq_eq_false_iff_ne.2 (by omega)
  have hq5 : ((S2[0].toNat : Int) != 41) = true := by rw [hd2]; exact u8_ne (n := 41) hz (by decide)
  clear hs2 hp2 hd2 hz
  go_enter Try.func48, Try.ntmps48
  go_wp2_with fail
  refine (IHL.out _).mono ?_
  rintro _ w1 ⟨_, rfl, hc, hb⟩
  have hx := hb; have s0 := hb.size
  obtain ⟨cv, rfl, c⟩ := hc
  rw [Hs1.out]
  go_wp2_with fail
  refine (IHR.out _).mono ?_
  rintro _ w2 ⟨_, rfl, hc, hb⟩
  replace hx := Ext.trans hx hb; replace c := (IsRef l).mono hb c; have s1 := hb.size
  obtain ⟨ev, rfl, e⟩ := hc
  rw [Hs2.out]
  go_wp2_with fail
  go_quiet (fail)
  obtain ⟨w3, hW, hb⟩ : ∃ X, w2.drewN nq = X ∧ Ext w2 X := ⟨_, rfl, drewN_ext _ _⟩
  rw [hW]; clear hW
  replace hx := Ext.trans hx hb; replace c := (IsRef l).mono hb c; replace e := (IsRef q).mono hb e; have s2 := hb.size
  go_wp2_with fail
  refine (rzero_c).mono ?_
  rintro _ w4 ⟨zzv, rfl, zz, hb⟩
  replace hx := Ext.trans hx hb; replace c := (IsRef l).mono hb c; replace e := (IsRef q).mono hb e; have s3 := hb.size
  go_wp2_with fail
  exact ret_of (.tuple #[zzv, .string S2, .bool false]) (by simp [results, Try.results48, go_sem]) rfl ⟨_, z :: r2, by rw [← Hs2.out], zz⟩ hx

set_option maxRecDepth 100000 in
set_option maxHeartbeats 2000000 in
theorem rp_same {s : ByteArray} {r0 : List UInt8} {w : World} (hp : s.data.toList = 40 :: r0) (hs : s.size ≤ 1000000000) {l : T} {r1 : List UInt8} (hl1 : (44 :: r1).length ≤ 1000000000) {q : T} {r2 : List UInt8} (hl2 : (41 :: r2).length ≤ 1000000000) (he : (((kN l : Nat) : Int) == ((kN q : Nat) : Int)) = true) (h2 : decide (((kN l : Nat) : Int) < 2) = true) (ihl : ∀ w : World, Calls Try.prog 48 #[sv r0] w (Ret w (RP (some (l, 44 :: r1))).p)) (ihr : ∀ w : World, Calls Try.prog 48 #[sv r1] w (Ret w (RP (some (q, 41 :: r2))).p)) :
    Calls Try.prog 48 #[(.string s)] w (Ret w (RP none).p) := by
  have IHL := Lib.hid ihl; clear ihl
  have h0 : 0 < s.size := by rw [ba_size hp]; simp
  have h1 : (1 : Int) ≤ (s.size : Int) := by omega
  have hex := ba_tail hp
  have hd := ba_head hp h0
  have hne : ((s.size : Int) == 0) = false := beq_eq_false_iff_ne.2 (by omega)
  have hq : ((s[0].toNat : Int) == 48) = false := by rw [hd]; rfl
  have hq2 : ((s[0].toNat : Int) == 49) = false := by rw [hd]; rfl
  have hq3 : ((s[0].toNat : Int) != 40) = false := by rw [hd]; rfl
  have Hp := Lib.hid hp; clear hp hd
  have IHR := Lib.hid ihr; clear ihr
  obtain ⟨S1, hs1⟩ : ∃ S1 : ByteArray, S1 = ⟨(44 :: r1).toArray⟩ := ⟨_, rfl⟩
  have hp1 : S1.data.toList = 44 :: r1 := by rw [hs1]
  have Hs1 : Hid (sv (44 :: r1) = .string S1) := by unfold Hid; rw [hs1]
  have h01 : 0 < S1.size := by rw [ba_size hp1]; simp
  have h11 : (1 : Int) ≤ (S1.size : Int) := by omega
  have hex1 := ba_tail hp1
  have hd1 := ba_head hp1 h01
  have hne1 : ((S1.size : Int) == 0) = false := beq_eq_false_iff_ne.2 (by omega)
  have hq4 : ((S1[0].toNat : Int) != 44) = false := by rw [hd1]; rfl
  have hz1 : S1.size ≤ 1000000000 := by rw [ba_size hp1]; exact hl1
  clear hs1 hp1 hd1
  obtain ⟨S2, hs2⟩ : ∃ S2 : ByteArray, S2 = ⟨(41 :: r2).toArray⟩ := ⟨_, rfl⟩
  have hp2 : S2.data.toList = 41 :: r2 := by rw [hs2]
  have Hs2 : Hid (sv (41 :: r2) = .string S2) := by unfold Hid; rw [hs2]
  have h02 : 0 < S2.size := by rw [ba_size hp2]; simp
  have h12 : (1 : Int) ≤ (S2.size : Int) := by omega
  have hex2 := ba_tail hp2
  have hd2 := ba_head hp2 h02
  have hne2 : ((S2.size : Int) == 0) = false := beq_eq_false_iff_ne.2 (by omega)
  have hq5 : ((S2[0].toNat : Int) != 41) = false := by rw [hd2]; rfl
  have hz2 : S2.size ≤ 1000000000 := by rw [ba_size hp2]; exact hl2
  clear hs2 hp2 hd2
  go_enter Try.func48, Try.ntmps48
  go_wp2_with fail
  refine (IHL.out _).mono ?_
  rintro _ w1 ⟨_, rfl, hc, hb⟩
  have hx := hb; have s0 := hb.size
  obtain ⟨cv, rfl, c⟩ := hc
  rw [Hs1.out]
  go_wp2_with fail
  refine (IHR.out _).mono ?_
  rintro _ w2 ⟨_, rfl, hc, hb⟩
  replace hx := Ext.trans hx hb; replace c := (IsRef l).mono hb c; have s1 := hb.size
  obtain ⟨ev, rfl, e⟩ := hc
  rw [Hs2.out]
  obtain ⟨cp, rfl, cr⟩ := id c
  obtain ⟨kl, ll, lr, rfl, gl⟩ := cr.blk
  obtain ⟨ep, rfl, er⟩ := id e
  obtain ⟨kq, ql, qr, rfl, gq⟩ := er.blk
  clear cr er
  have gl_0 := gl.c 0 rfl; have glf0 := gl.f 0; have gl_1 := gl.c 1 rfl; have glf1 := gl.f 1; have gl_2 := gl.c 2 rfl; have glf2 := gl.f 2; have gll := gl.lt; have gq_0 := gq.c 0 rfl; have gqf0 := gq.f 0; have gq_1 := gq.c 1 rfl; have gqf1 := gq.f 1; have gq_2 := gq.c 2 rfl; have gqf2 := gq.f 2; have gql := gq.lt
  go_wp2_with fail
  clear gl_0 glf0 gl_1 glf1 gl_2 glf2 gll gq_0 gqf0 gq_1 gqf1 gq_2 gqf2 gql
  have gl_0 := gl.c 0 rfl; have glf0 := gl.f 0; have gl_1 := gl.c 1 rfl; have glf1 := gl.f 1; have gl_2 := gl.c 2 rfl; have glf2 := gl.f 2; have gll := gl.lt; have gq_0 := gq.c 0 rfl; have gqf0 := gq.f 0; have gq_1 := gq.c 1 rfl; have gqf1 := gq.f 1; have gq_2 := gq.c 2 rfl; have gqf2 := gq.f 2; have gql := gq.lt
  go_quiet (fail)
  clear gl_0 glf0 gl_1 glf1 gl_2 glf2 gll gq_0 gqf0 gq_1 gqf1 gq_2 gqf2 gql
  obtain ⟨w3, hW, hb⟩ : ∃ X, w2.drewN nq = X ∧ Ext w2 X := ⟨_, rfl, drewN_ext _ _⟩
  rw [hW]; clear hW
  replace hx := Ext.trans hx hb; replace gl := gl.ext hb; replace gq := gq.ext hb; replace c := (IsRef l).mono hb c; replace e := (IsRef q).mono hb e; have s2 := hb.size
  have gl_0 := gl.c 0 rfl; have glf0 := gl.f 0; have gl_1 := gl.c 1 rfl; have glf1 := gl.f 1; have gl_2 := gl.c 2 rfl; have glf2 := gl.f 2; have gll := gl.lt; have gq_0 := gq.c 0 rfl; have gqf0 := gq.f 0; have gq_1 := gq.c 1 rfl; have gqf1 := gq.f 1; have gq_2 := gq.c 2 rfl; have gqf2 := gq.f 2; have gql := gq.lt
  go_wp2_with fail
  clear gl_0 glf0 gl_1 glf1 gl_2 glf2 gll gq_0 gqf0 gq_1 gqf1 gq_2 gqf2 gql
  refine (rzero_c).mono ?_
  rintro _ w4 ⟨zzv, rfl, zz, hb⟩
  replace hx := Ext.trans hx hb; replace gl := gl.ext hb; replace gq := gq.ext hb; replace c := (IsRef l).mono hb c; replace e := (IsRef q).mono hb e; have s3 := hb.size
  have gl_0 := gl.c 0 rfl; have glf0 := gl.f 0; have gl_1 := gl.c 1 rfl; have glf1 := gl.f 1; have gl_2 := gl.c 2 rfl; have glf2 := gl.f 2; have gll := gl.lt; have gq_0 := gq.c 0 rfl; have gqf0 := gq.f 0; have gq_1 := gq.c 1 rfl; have gqf1 := gq.f 1; have gq_2 := gq.c 2 rfl; have gqf2 := gq.f 2; have gql := gq.lt
  go_wp2_with fail
  clear gl_0 glf0 gl_1 glf1 gl_2 glf2 gll gq_0 gqf0 gq_1 gqf1 gq_2 gqf2 gql
  exact ret_of (.tuple #[zzv, .string S2, .bool false]) (by simp [results, Try.results48, go_sem]) rfl ⟨_, 41 :: r2, by rw [← Hs2.out], zz⟩ hx

set_option maxRecDepth 100000 in
set_option maxHeartbeats 2000000 in
theorem rp_nn {s : ByteArray} {r0 : List UInt8} {w : World} (hp : s.data.toList = 40 :: r0) (hs : s.size ≤ 1000000000) {l : T} {r1 : List UInt8} (hl1 : (44 :: r1).length ≤ 1000000000) {q : T} {r2 : List UInt8} (hl2 : (41 :: r2).length ≤ 1000000000) (he : (((kN l : Nat) : Int) == ((kN q : Nat) : Int)) = true) (h2 : decide (((kN l : Nat) : Int) < 2) = false) (ihl : ∀ w : World, Calls Try.prog 48 #[sv r0] w (Ret w (RP (some (l, 44 :: r1))).p)) (ihr : ∀ w : World, Calls Try.prog 48 #[sv r1] w (Ret w (RP (some (q, 41 :: r2))).p)) :
    Calls Try.prog 48 #[(.string s)] w (Ret w (RP (some (T.mk l q, r2))).p) := by
  have IHL := Lib.hid ihl; clear ihl
  have h0 : 0 < s.size := by rw [ba_size hp]; simp
  have h1 : (1 : Int) ≤ (s.size : Int) := by omega
  have hex := ba_tail hp
  have hd := ba_head hp h0
  have hne : ((s.size : Int) == 0) = false := beq_eq_false_iff_ne.2 (by omega)
  have hq : ((s[0].toNat : Int) == 48) = false := by rw [hd]; rfl
  have hq2 : ((s[0].toNat : Int) == 49) = false := by rw [hd]; rfl
  have hq3 : ((s[0].toNat : Int) != 40) = false := by rw [hd]; rfl
  have Hp := Lib.hid hp; clear hp hd
  have IHR := Lib.hid ihr; clear ihr
  obtain ⟨S1, hs1⟩ : ∃ S1 : ByteArray, S1 = ⟨(44 :: r1).toArray⟩ := ⟨_, rfl⟩
  have hp1 : S1.data.toList = 44 :: r1 := by rw [hs1]
  have Hs1 : Hid (sv (44 :: r1) = .string S1) := by unfold Hid; rw [hs1]
  have h01 : 0 < S1.size := by rw [ba_size hp1]; simp
  have h11 : (1 : Int) ≤ (S1.size : Int) := by omega
  have hex1 := ba_tail hp1
  have hd1 := ba_head hp1 h01
  have hne1 : ((S1.size : Int) == 0) = false := beq_eq_false_iff_ne.2 (by omega)
  have hq4 : ((S1[0].toNat : Int) != 44) = false := by rw [hd1]; rfl
  have hz1 : S1.size ≤ 1000000000 := by rw [ba_size hp1]; exact hl1
  clear hs1 hp1 hd1
  obtain ⟨S2, hs2⟩ : ∃ S2 : ByteArray, S2 = ⟨(41 :: r2).toArray⟩ := ⟨_, rfl⟩
  have hp2 : S2.data.toList = 41 :: r2 := by rw [hs2]
  have Hs2 : Hid (sv (41 :: r2) = .string S2) := by unfold Hid; rw [hs2]
  have h02 : 0 < S2.size := by rw [ba_size hp2]; simp
  have h12 : (1 : Int) ≤ (S2.size : Int) := by omega
  have hex2 := ba_tail hp2
  have hd2 := ba_head hp2 h02
  have hne2 : ((S2.size : Int) == 0) = false := beq_eq_false_iff_ne.2 (by omega)
  have hq5 : ((S2[0].toNat : Int) != 41) = false := by rw [hd2]; rfl
  have hz2 : S2.size ≤ 1000000000 := by rw [ba_size hp2]; exact hl2
  clear hs2 hp2 hd2
  go_enter Try.func48, Try.ntmps48
  go_wp2_with fail
  refine (IHL.out _).mono ?_
  rintro _ w1 ⟨_, rfl, hc, hb⟩
  have hx := hb; have s0 := hb.size
  obtain ⟨cv, rfl, c⟩ := hc
  rw [Hs1.out]
  go_wp2_with fail
  refine (IHR.out _).mono ?_
  rintro _ w2 ⟨_, rfl, hc, hb⟩
  replace hx := Ext.trans hx hb; replace c := (IsRef l).mono hb c; have s1 := hb.size
  obtain ⟨ev, rfl, e⟩ := hc
  rw [Hs2.out]
  obtain ⟨cp, rfl, cr⟩ := id c
  obtain ⟨kl, ll, lr, rfl, gl⟩ := cr.blk
  obtain ⟨ep, rfl, er⟩ := id e
  obtain ⟨kq, ql, qr, rfl, gq⟩ := er.blk
  clear cr er
  have gl_0 := gl.c 0 rfl; have glf0 := gl.f 0; have gl_1 := gl.c 1 rfl; have glf1 := gl.f 1; have gl_2 := gl.c 2 rfl; have glf2 := gl.f 2; have gll := gl.lt; have gq_0 := gq.c 0 rfl; have gqf0 := gq.f 0; have gq_1 := gq.c 1 rfl; have gqf1 := gq.f 1; have gq_2 := gq.c 2 rfl; have gqf2 := gq.f 2; have gql := gq.lt
  go_wp2_with fail
  clear gl_0 glf0 gl_1 glf1 gl_2 glf2 gll gq_0 gqf0 gq_1 gqf1 gq_2 gqf2 gql
  have gl_0 := gl.c 0 rfl; have glf0 := gl.f 0; have gl_1 := gl.c 1 rfl; have glf1 := gl.f 1; have gl_2 := gl.c 2 rfl; have glf2 := gl.f 2; have gll := gl.lt; have gq_0 := gq.c 0 rfl; have gqf0 := gq.f 0; have gq_1 := gq.c 1 rfl; have gqf1 := gq.f 1; have gq_2 := gq.c 2 rfl; have gqf2 := gq.f 2; have gql := gq.lt
  go_quiet (fail)
  clear gl_0 glf0 gl_1 glf1 gl_2 glf2 gll gq_0 gqf0 gq_1 gqf1 gq_2 gqf2 gql
  obtain ⟨w3, hW, hb⟩ : ∃ X, w2.drewN nq = X ∧ Ext w2 X := ⟨_, rfl, drewN_ext _ _⟩
  rw [hW]; clear hW
  replace hx := Ext.trans hx hb; replace gl := gl.ext hb; replace gq := gq.ext hb; replace c := (IsRef l).mono hb c; replace e := (IsRef q).mono hb e; have s2 := hb.size
  have gl_0 := gl.c 0 rfl; have glf0 := gl.f 0; have gl_1 := gl.c 1 rfl; have glf1 := gl.f 1; have gl_2 := gl.c 2 rfl; have glf2 := gl.f 2; have gll := gl.lt; have gq_0 := gq.c 0 rfl; have gqf0 := gq.f 0; have gq_1 := gq.c 1 rfl; have gqf1 := gq.f 1; have gq_2 := gq.c 2 rfl; have gqf2 := gq.f 2; have gql := gq.lt
  go_wp2_with fail
  clear gl_0 glf0 gl_1 glf1 gl_2 glf2 gll gq_0 gqf0 gq_1 gqf1 gq_2 gqf2 gql
  have gllt3 := gl.lt
  have gqlt3 := gq.lt
  refine wp_facts 6 [] [PP.eq (.pointer (some ⟨kl, 0, none⟩)), PP.eq (.pointer (some ⟨kq, 0, none⟩)), (IsRef (T.mk l q)).toPP, PP.eq (.string S2), PP.eq (sv r2), (IsRef (T.mk l q)).toPP] (by kernel_rfl) (by kernel_rfl) ⟨?o0, ?o1, ?o2, ?o3, ?o4, ?o5, trivial⟩ ?rest
  case o0 =>
    intro x0 x1 x2 x3 x4 x5 w' hE
    rintro R hR
    simp only [putAll, List.take, List.drop, List.map, Act.put, List.setIfInBounds_toArray, List.set_cons_zero, List.set_cons_succ]
    go_simp
    exact hR _ _ (Ext.refl _) (rfl) trivial
  case o1 =>
    intro x0 x1 x2 x3 x4 x5 w' hE
    rintro R hR
    simp only [putAll, List.take, List.drop, List.map, Act.put, List.setIfInBounds_toArray, List.set_cons_zero, List.set_cons_succ]
    go_simp
    exact hR _ _ (Ext.refl _) (rfl) trivial
  case o2 =>
    intro x0 x1 x2 x3 x4 x5 w' hE
    rintro rfl rfl R hR
    simp only [putAll, List.take, List.drop, List.map, Act.put, List.setIfInBounds_toArray, List.set_cons_zero, List.set_cons_succ]
    go_simp
    refine (rpair_c ((IsRef l).mono hE c) ((IsRef q).mono hE e)).mono ?_
    rintro _ w'' ⟨v, rfl, hv, hb⟩
    exact hR _ _ hb hv trivial
  case o3 =>
    intro x0 x1 x2 x3 x4 x5 w' hE
    rintro R hR
    simp only [putAll, List.take, List.drop, List.map, Act.put, List.setIfInBounds_toArray, List.set_cons_zero, List.set_cons_succ]
    go_simp
    exact hR _ _ (Ext.refl _) (rfl) trivial
  case o4 =>
    intro x0 x1 x2 x3 x4 x5 w' hE
    rintro rfl R hR
    simp only [putAll, List.take, List.drop, List.map, Act.put, List.setIfInBounds_toArray, List.set_cons_zero, List.set_cons_succ]
    go_simp
    exact hR _ _ (Ext.refl _) (rfl) trivial
  case o5 =>
    intro x0 x1 x2 x3 x4 x5 w' hE
    rintro d2 _ rfl rfl _ R hR
    simp only [putAll, List.take, List.drop, List.map, Act.put, List.setIfInBounds_toArray, List.set_cons_zero, List.set_cons_succ]
    go_simp
    exact hR _ _ (Ext.refl _) (d2) trivial
  case rest =>
    intro x0 x1 x2 x3 x4 x5 w4 hb
    rintro rfl rfl _ rfl rfl r5 hap
    replace hx := Ext.trans hx hb; replace gl := gl.ext hb; replace gq := gq.ext hb; replace c := (IsRef l).mono hb c; replace e := (IsRef q).mono hb e; have s4 := hb.size
    clear hap
    simp only [putAll, List.take, List.drop, List.map, Act.put, List.setIfInBounds_toArray, List.set_cons_zero, List.set_cons_succ]
    have gl_0 := gl.c 0 rfl; have glf0 := gl.f 0; have gl_1 := gl.c 1 rfl; have glf1 := gl.f 1; have gl_2 := gl.c 2 rfl; have glf2 := gl.f 2; have gll := gl.lt; have gq_0 := gq.c 0 rfl; have gqf0 := gq.f 0; have gq_1 := gq.c 1 rfl; have gqf1 := gq.f 1; have gq_2 := gq.c 2 rfl; have gqf2 := gq.f 2; have gql := gq.lt
    go_wp2_with fail
    clear gl_0 glf0 gl_1 glf1 gl_2 glf2 gll gq_0 gqf0 gq_1 gqf1 gq_2 gqf2 gql
    exact ret_of (.tuple #[x5, sv r2, .bool true]) (by simp [results, Try.results48, go_sem]) rfl ⟨_, rfl, r5⟩ hx

set_option maxRecDepth 100000 in
set_option maxHeartbeats 2000000 in
theorem rp_ne {s : ByteArray} {r0 : List UInt8} {w : World} (hp : s.data.toList = 40 :: r0) (hs : s.size ≤ 1000000000) {l : T} {r1 : List UInt8} (hl1 : (44 :: r1).length ≤ 1000000000) {q : T} {r2 : List UInt8} (hl2 : (41 :: r2).length ≤ 1000000000) (he : (((kN l : Nat) : Int) == ((kN q : Nat) : Int)) = false) (ihl : ∀ w : World, Calls Try.prog 48 #[sv r0] w (Ret w (RP (some (l, 44 :: r1))).p)) (ihr : ∀ w : World, Calls Try.prog 48 #[sv r1] w (Ret w (RP (some (q, 41 :: r2))).p)) :
    Calls Try.prog 48 #[(.string s)] w (Ret w (RP (some (T.mk l q, r2))).p) := by
  have IHL := Lib.hid ihl; clear ihl
  have h0 : 0 < s.size := by rw [ba_size hp]; simp
  have h1 : (1 : Int) ≤ (s.size : Int) := by omega
  have hex := ba_tail hp
  have hd := ba_head hp h0
  have hne : ((s.size : Int) == 0) = false := beq_eq_false_iff_ne.2 (by omega)
  have hq : ((s[0].toNat : Int) == 48) = false := by rw [hd]; rfl
  have hq2 : ((s[0].toNat : Int) == 49) = false := by rw [hd]; rfl
  have hq3 : ((s[0].toNat : Int) != 40) = false := by rw [hd]; rfl
  have Hp := Lib.hid hp; clear hp hd
  have IHR := Lib.hid ihr; clear ihr
  obtain ⟨S1, hs1⟩ : ∃ S1 : ByteArray, S1 = ⟨(44 :: r1).toArray⟩ := ⟨_, rfl⟩
  have hp1 : S1.data.toList = 44 :: r1 := by rw [hs1]
  have Hs1 : Hid (sv (44 :: r1) = .string S1) := by unfold Hid; rw [hs1]
  have h01 : 0 < S1.size := by rw [ba_size hp1]; simp
  have h11 : (1 : Int) ≤ (S1.size : Int) := by omega
  have hex1 := ba_tail hp1
  have hd1 := ba_head hp1 h01
  have hne1 : ((S1.size : Int) == 0) = false := beq_eq_false_iff_ne.2 (by omega)
  have hq4 : ((S1[0].toNat : Int) != 44) = false := by rw [hd1]; rfl
  have hz1 : S1.size ≤ 1000000000 := by rw [ba_size hp1]; exact hl1
  clear hs1 hp1 hd1
  obtain ⟨S2, hs2⟩ : ∃ S2 : ByteArray, S2 = ⟨(41 :: r2).toArray⟩ := ⟨_, rfl⟩
  have hp2 : S2.data.toList = 41 :: r2 := by rw [hs2]
  have Hs2 : Hid (sv (41 :: r2) = .string S2) := by unfold Hid; rw [hs2]
  have h02 : 0 < S2.size := by rw [ba_size hp2]; simp
  have h12 : (1 : Int) ≤ (S2.size : Int) := by omega
  have hex2 := ba_tail hp2
  have hd2 := ba_head hp2 h02
  have hne2 : ((S2.size : Int) == 0) = false := beq_eq_false_iff_ne.2 (by omega)
  have hq5 : ((S2[0].toNat : Int) != 41) = false := by rw [hd2]; rfl
  have hz2 : S2.size ≤ 1000000000 := by rw [ba_size hp2]; exact hl2
  clear hs2 hp2 hd2
  go_enter Try.func48, Try.ntmps48
  go_wp2_with fail
  refine (IHL.out _).mono ?_
  rintro _ w1 ⟨_, rfl, hc, hb⟩
  have hx := hb; have s0 := hb.size
  obtain ⟨cv, rfl, c⟩ := hc
  rw [Hs1.out]
  go_wp2_with fail
  refine (IHR.out _).mono ?_
  rintro _ w2 ⟨_, rfl, hc, hb⟩
  replace hx := Ext.trans hx hb; replace c := (IsRef l).mono hb c; have s1 := hb.size
  obtain ⟨ev, rfl, e⟩ := hc
  rw [Hs2.out]
  obtain ⟨cp, rfl, cr⟩ := id c
  obtain ⟨kl, ll, lr, rfl, gl⟩ := cr.blk
  obtain ⟨ep, rfl, er⟩ := id e
  obtain ⟨kq, ql, qr, rfl, gq⟩ := er.blk
  clear cr er
  have gl_0 := gl.c 0 rfl; have glf0 := gl.f 0; have gl_1 := gl.c 1 rfl; have glf1 := gl.f 1; have gl_2 := gl.c 2 rfl; have glf2 := gl.f 2; have gll := gl.lt; have gq_0 := gq.c 0 rfl; have gqf0 := gq.f 0; have gq_1 := gq.c 1 rfl; have gqf1 := gq.f 1; have gq_2 := gq.c 2 rfl; have gqf2 := gq.f 2; have gql := gq.lt
  go_wp2_with fail
  clear gl_0 glf0 gl_1 glf1 gl_2 glf2 gll gq_0 gqf0 gq_1 gqf1 gq_2 gqf2 gql
  have gl_0 := gl.c 0 rfl; have glf0 := gl.f 0; have gl_1 := gl.c 1 rfl; have glf1 := gl.f 1; have gl_2 := gl.c 2 rfl; have glf2 := gl.f 2; have gll := gl.lt; have gq_0 := gq.c 0 rfl; have gqf0 := gq.f 0; have gq_1 := gq.c 1 rfl; have gqf1 := gq.f 1; have gq_2 := gq.c 2 rfl; have gqf2 := gq.f 2; have gql := gq.lt
  go_quiet (fail)
  clear gl_0 glf0 gl_1 glf1 gl_2 glf2 gll gq_0 gqf0 gq_1 gqf1 gq_2 gqf2 gql
  obtain ⟨w3, hW, hb⟩ : ∃ X, w2.drewN nq = X ∧ Ext w2 X := ⟨_, rfl, drewN_ext _ _⟩
  rw [hW]; clear hW
  replace hx := Ext.trans hx hb; replace gl := gl.ext hb; replace gq := gq.ext hb; replace c := (IsRef l).mono hb c; replace e := (IsRef q).mono hb e; have s2 := hb.size
  have gl_0 := gl.c 0 rfl; have glf0 := gl.f 0; have gl_1 := gl.c 1 rfl; have glf1 := gl.f 1; have gl_2 := gl.c 2 rfl; have glf2 := gl.f 2; have gll := gl.lt; have gq_0 := gq.c 0 rfl; have gqf0 := gq.f 0; have gq_1 := gq.c 1 rfl; have gqf1 := gq.f 1; have gq_2 := gq.c 2 rfl; have gqf2 := gq.f 2; have gql := gq.lt
  go_wp2_with fail
  clear gl_0 glf0 gl_1 glf1 gl_2 glf2 gll gq_0 gqf0 gq_1 gqf1 gq_2 gqf2 gql
  have gllt3 := gl.lt
  have gqlt3 := gq.lt
  refine wp_facts 6 [] [PP.eq (.pointer (some ⟨kl, 0, none⟩)), PP.eq (.pointer (some ⟨kq, 0, none⟩)), (IsRef (T.mk l q)).toPP, PP.eq (.string S2), PP.eq (sv r2), (IsRef (T.mk l q)).toPP] (by kernel_rfl) (by kernel_rfl) ⟨?o0, ?o1, ?o2, ?o3, ?o4, ?o5, trivial⟩ ?rest
  case o0 =>
    intro x0 x1 x2 x3 x4 x5 w' hE
    rintro R hR
    simp only [putAll, List.take, List.drop, List.map, Act.put, List.setIfInBounds_toArray, List.set_cons_zero, List.set_cons_succ]
    go_simp
    exact hR _ _ (Ext.refl _) (rfl) trivial
  case o1 =>
    intro x0 x1 x2 x3 x4 x5 w' hE
    rintro R hR
    simp only [putAll, List.take, List.drop, List.map, Act.put, List.setIfInBounds_toArray, List.set_cons_zero, List.set_cons_succ]
    go_simp
    exact hR _ _ (Ext.refl _) (rfl) trivial
  case o2 =>
    intro x0 x1 x2 x3 x4 x5 w' hE
    rintro rfl rfl R hR
    simp only [putAll, List.take, List.drop, List.map, Act.put, List.setIfInBounds_toArray, List.set_cons_zero, List.set_cons_succ]
    go_simp
    refine (rpair_c ((IsRef l).mono hE c) ((IsRef q).mono hE e)).mono ?_
    rintro _ w'' ⟨v, rfl, hv, hb⟩
    exact hR _ _ hb hv trivial
  case o3 =>
    intro x0 x1 x2 x3 x4 x5 w' hE
    rintro R hR
    simp only [putAll, List.take, List.drop, List.map, Act.put, List.setIfInBounds_toArray, List.set_cons_zero, List.set_cons_succ]
    go_simp
    exact hR _ _ (Ext.refl _) (rfl) trivial
  case o4 =>
    intro x0 x1 x2 x3 x4 x5 w' hE
    rintro rfl R hR
    simp only [putAll, List.take, List.drop, List.map, Act.put, List.setIfInBounds_toArray, List.set_cons_zero, List.set_cons_succ]
    go_simp
    exact hR _ _ (Ext.refl _) (rfl) trivial
  case o5 =>
    intro x0 x1 x2 x3 x4 x5 w' hE
    rintro d2 _ rfl rfl _ R hR
    simp only [putAll, List.take, List.drop, List.map, Act.put, List.setIfInBounds_toArray, List.set_cons_zero, List.set_cons_succ]
    go_simp
    exact hR _ _ (Ext.refl _) (d2) trivial
  case rest =>
    intro x0 x1 x2 x3 x4 x5 w4 hb
    rintro rfl rfl _ rfl rfl r5 hap
    replace hx := Ext.trans hx hb; replace gl := gl.ext hb; replace gq := gq.ext hb; replace c := (IsRef l).mono hb c; replace e := (IsRef q).mono hb e; have s4 := hb.size
    clear hap
    simp only [putAll, List.take, List.drop, List.map, Act.put, List.setIfInBounds_toArray, List.set_cons_zero, List.set_cons_succ]
    have gl_0 := gl.c 0 rfl; have glf0 := gl.f 0; have gl_1 := gl.c 1 rfl; have glf1 := gl.f 1; have gl_2 := gl.c 2 rfl; have glf2 := gl.f 2; have gll := gl.lt; have gq_0 := gq.c 0 rfl; have gqf0 := gq.f 0; have gq_1 := gq.c 1 rfl; have gqf1 := gq.f 1; have gq_2 := gq.c 2 rfl; have gqf2 := gq.f 2; have gql := gq.lt
    go_wp2_with fail
    clear gl_0 glf0 gl_1 glf1 gl_2 glf2 gll gq_0 gqf0 gq_1 gqf1 gq_2 gqf2 gql
    exact ret_of (.tuple #[x5, sv r2, .bool true]) (by simp [results, Try.results48, go_sem]) rfl ⟨_, rfl, r5⟩ hx

end Go.Proofs.Ytkfncjaomgcdgaa
