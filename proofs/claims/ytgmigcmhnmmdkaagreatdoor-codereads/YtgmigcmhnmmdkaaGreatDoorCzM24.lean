/- The document reads stamps. -/
import Derived.Test.YtgmigcmhnmmdkaaGreatDoorCzK24
import Derived.Test.YtgmigcmhnmmdkaaGreatDoorCzM15
import Derived.Test.YtgmigcmhnmmdkaaGreatDoorCzM21
import Derived.Test.YtgmigcmhnmmdkaaGreatDoorCzM14
import Derived.Test.YtgmigcmhnmmdkaaGreatDoorCzM19
import Derived.Test.YtgmigcmhnmmdkaaGreatDoorCzM13
import Derived.OpenShut
import Derived.Test.YtgmigcmhnmmdkaaGreatDoorRows
import Derived.Test.YtgmigcmhnmmdkaaGreatDoorCzM17
import Derived.ProofKit
import Derived.LaidMore
import Derived.Lay
import Derived.Stop.Joined
import Derived.Stop.LaidErr
import Derived.Lib.LaidTab
set_option linter.all false
set_option maxRecDepth 100000
namespace Go.Proofs.YtgmigcmhnmmdkaaGreatDoor
open Go.RowKit Go.Sep
attribute [local irreducible] Go.wpList Go.Code.wp

theorem refEnd0_c {I : IM} {B : List Bool} {a : Option Addr} {n c y e : Nat} (hb : BoS I B (.slice a n c)) (hn9 : B.length ≤ 1000000) (he : e = 0) : FunM Tryz.prog 20 #[.pointer (some ⟨y, 0, none⟩)] I [(y, .cells #[.slice a n c, .int .i64 ((e : Nat) : Int)] 56)] (fun v J H' => ∃ b' : OB, H' = [b'] ∧ b'.1 = y ∧ v = .int .i64 ((enB B : Nat) : Int) ∧ b' = (y, .cells #[.slice a n c, .int .i64 ((enB B : Nat) : Int)] 56)) := by
  subst he
  have h := refEndB_c (y := y) (e := 0) hb hn9
  rw [be_en] at h; exact h

set_option maxHeartbeats 2000000 in
theorem refReadStamp_c {I : IM} {l : List UInt8} {a : Option Addr} {n c : Nat} (hl : BSl I l (.slice a n c)) (hn9 : l.length ≤ 100000) : Fun Tryz.prog 7 #[.slice a n c] I (fun v J => ∃ ki ke, v = .tuple #[.agg #[.pointer (some ⟨ki, 0, none⟩), .pointer (some ⟨ke, 0, none⟩)], .int .i64 (((rsG l).er : Nat) : Int)] ∧ Ev.RT J (rsG l).i ki ∧ Ev.RE J (rsG l).v ke) := by
 obtain ⟨rfl, -⟩ := hl.cap
 have hb9 : (bitsL l).length ≤ 1000000 := by rw [bitsL_len]; omega
 refine enter_rule 38 [(0, .slice a l.length c)] Tryz.func7 rfl (by kernel_rfl) ?_
 intro w s
 refine seqR ?_
 refine oAD [] [] 2 [] 1 (fun φ1 => [(3, .int .i64 0), (2, pB (φ1 0))]) (fun φ1 => [(φ1 0, .cells #[.pointer none, .pointer none] 40)]) (fun φ1 => []) s (fun φ1 => by kernel_rfl) (by kernel_rfl) ?_
 intro φ1 w1 s
 refine seqR ?_
 refine oK _ [] 1 [] 0 (fun φ2 => [(8, .slice a l.length c)]) (fun φ2 => []) s (fun φ2 => by kernel_rfl) ?_
 intro φ2 w2 s
 refine call_rule (some 9) s (refBits_c hl hn9) (by kernel_rfl) ?_
 intro v3 I3 w3 le3 h3 s
 obtain ⟨a3, c3, rfl, h3_0⟩ := h3
 refine oAD _ [] 3 [] 1 (fun φ4 => [(4, pB (φ4 0)), (11, pB (φ4 0)), (10, .agg #[.slice a3 (List.length (bitsL l)) c3, .int .i64 0])]) (fun φ4 => [(φ1 0, .cells #[.pointer none, .pointer none] 40), (φ4 0, .cells #[.slice a3 (List.length (bitsL l)) c3, .int .i64 0] 56)]) (fun φ4 => []) s (fun φ4 => by kernel_rfl) (by kernel_rfl) ?_
 intro φ4 w4 s
 refine seqR ?_
 refine oK _ [] 1 [] 0 (fun φ5 => [(13, pB (φ4 0))]) (fun φ5 => []) s (fun φ5 => by kernel_rfl) ?_
 intro φ5 w5 s
 refine callB_rule (b := (φ4 0, .cells #[.slice a3 (List.length (bitsL l)) c3, .int .i64 0] 56)) (F := []) (Hr := [(φ1 0, .cells #[.pointer none, .pointer none] 40)]) (some 14) 1 s (by kernel_rfl) (by kernel_rfl) (refGID_c 16 h3_0 hb9 (rfl) (deep := 0) rfl) (by kernel_rfl) ?_
 rintro v6 I6 w6 b6 le6 - h6 s
 obtain ⟨k6, T6, R6, E6, D6, B6, a6, n6, c6, rfl, rfl, h6_0, h6_1, h6_2, h6_3⟩ := h6
 refine oKD _ [] 5 [] 0 (fun φ7 => [(6, .int .i64 R6), (5, pB k6), (16, .int .i64 R6), (15, pB k6), (12, .tuple #[pB k6, .int .i64 R6])]) (fun φ7 => []) s (fun φ7 => by kernel_rfl) (by kernel_rfl) ?_
 intro φ7 w7 s
 refine seqR ?_
 refine call_rule (some 17) s (rleaf_c (n := 0)) (by kernel_rfl) ?_
 intro v8 I8 w8 le8 h8 s
 replace h6_0 := Ev.RT.mono le8 h6_0
 replace h6_1 := BoS.mono le8 h6_1
 obtain ⟨k8, rfl, h8_0⟩ := h8
 refine oKD _ [] 1 [] 0 (fun φ9 => [(7, pB k8)]) (fun φ9 => []) s (fun φ9 => by kernel_rfl) (by kernel_rfl) ?_
 intro φ9 w9 s
 refine wp_seq ?_
 refine seqR ?_
 refine oK _ [] 2 [] 0 (fun φ10 => [(19, .bool (((R6 : Nat) : Int) == ((0 : Nat) : Int))), (18, .int .i64 R6)]) (fun φ10 => []) s (fun φ10 => by kernel_rfl) ?_
 intro φ10 w10 s
 rw [nat_eql (a := R6) (b := 0)]
 refine ops_done (by kernel_rfl) ?_
 rcases Bool.eq_false_or_eq_true (decide (R6 = 0)) with hc11 | hc11
 ·
  rw [hc11]
  refine cond_true_rule (b := true) (by kernel_rfl) rfl ?_
  refine region_rule ?_
  refine oK _ [] 1 [] 0 (fun φ12 => [(21, pB (φ4 0))]) (fun φ12 => []) s (fun φ12 => by kernel_rfl) ?_
  intro φ12 w12 s
  refine callB_rule (b := (φ4 0, .cells #[.slice a6 n6 c6, .int .i64 E6] 56)) (F := []) (Hr := [(φ1 0, .cells #[.pointer none, .pointer none] 40)]) (some 22) 0 s (by kernel_rfl) (by kernel_rfl) (refGEv_c 16 h6_1 (dlB h6_3 hb9) ((by have q9 := (idG_ok 16).e (bitsL l); rw [h6_2] at q9; exact q9 (of_decide_eq_true hc11))) (deep := 0) rfl) (by kernel_rfl) ?_
  rintro v13 I13 w13 b13 le13 - h13 s
  replace h6_0 := Ev.RT.mono le13 h6_0
  obtain ⟨k13, T13, R13, E13, D13, B13, a13, n13, c13, rfl, rfl, h13_0, h13_1, h13_2, h13_3⟩ := h13
  refine oKD _ [] 5 [] 0 (fun φ14 => [(6, .int .i64 R13), (7, pB k13), (24, .int .i64 R13), (23, pB k13), (20, .tuple #[pB k13, .int .i64 R13])]) (fun φ14 => []) s (fun φ14 => by kernel_rfl) (by kernel_rfl) ?_
  intro φ14 w14 s
  refine wp_seq ?_
  refine seqR ?_
  refine oK _ [] 2 [] 0 (fun φ15 => [(26, .bool (((R13 : Nat) : Int) == ((0 : Nat) : Int))), (25, .int .i64 R13)]) (fun φ15 => []) s (fun φ15 => by kernel_rfl) ?_
  intro φ15 w15 s
  rw [nat_eql (a := R13) (b := 0)]
  refine ops_done (by kernel_rfl) ?_
  rcases Bool.eq_false_or_eq_true (decide (R13 = 0)) with hc16 | hc16
  ·
   rw [hc16]
   refine cond_true_rule (b := true) (by kernel_rfl) rfl ?_
   refine region_rule ?_
   refine oK _ [] 1 [] 0 (fun φ17 => [(27, pB (φ4 0))]) (fun φ17 => []) s (fun φ17 => by kernel_rfl) ?_
   intro φ17 w17 s
   refine callB_rule (b := (φ4 0, .cells #[.slice a13 n13 c13, .int .i64 E13] 56)) (F := []) (Hr := [(φ1 0, .cells #[.pointer none, .pointer none] 40)]) (some 28) 0 s (by kernel_rfl) (by kernel_rfl) (refEnd0_c (y := (φ4 0)) h13_1 (dlB h13_3 (dlB h6_3 hb9)) ((by have q9 := (evG_ok 16).e B6; rw [h13_2] at q9; exact q9 (of_decide_eq_true hc16)))) (by kernel_rfl) ?_
   rintro v18 I18 w18 b18 le18 - h18 s
   replace h6_0 := Ev.RT.mono le18 h6_0
   replace h13_0 := Ev.RE.mono le18 h13_0
   obtain ⟨rfl, rfl⟩ := h18
   refine oKD _ [] 1 [] 0 (fun φ19 => [(6, .int .i64 (enB B13))]) (fun φ19 => []) s (fun φ19 => by kernel_rfl) (by kernel_rfl) ?_
   intro φ19 w19 s
   refine wp_seq ?_
   refine seqR ?_
   refine oK _ [] 2 [] 0 (fun φ20 => [(30, .bool (((enB B13 : Nat) : Int) != ((0 : Nat) : Int))), (29, .int .i64 (enB B13))]) (fun φ20 => []) s (fun φ20 => by kernel_rfl) ?_
   intro φ20 w20 s
   rw [nat_neq (a := (enB B13)) (b := 0)]
   refine ops_done (by kernel_rfl) ?_
   rcases Bool.eq_false_or_eq_true (decide ((enB B13) ≠ 0)) with hc21 | hc21
   ·
    rw [hc21]
    refine cond_true_rule (b := true) (by kernel_rfl) rfl ?_
    refine seqR ?_
    refine call_rule (some 31) s (Ev.rzero_c) (by kernel_rfl) ?_
    intro v22 I22 w22 le22 h22 s
    replace h6_0 := Ev.RT.mono le22 h6_0
    replace h13_0 := Ev.RE.mono le22 h13_0
    obtain ⟨k22, rfl, h22_0⟩ := h22
    refine call_rule (some 32) s (rleaf_c (n := 0)) (by kernel_rfl) ?_
    intro v23 I23 w23 le23 h23 s
    replace h6_0 := Ev.RT.mono le23 h6_0
    replace h13_0 := Ev.RE.mono le23 h13_0
    replace h22_0 := Ev.RT.mono le23 h22_0
    obtain ⟨k23, rfl, h23_0⟩ := h23
    refine oAD _ [] 4 [.o 1, .o 1] 0 (fun φ24 => [(3, .int .i64 (enB B13)), (34, .int .i64 (enB B13)), (33, .agg #[pB k22, pB k23])]) (fun φ24 => [(φ4 0, .cells #[.slice a13 n13 c13, .int .i64 (enB B13)] 56), (φ1 0, .cells #[pB k22, pB k23] 40)]) (fun φ24 => [φ1 0, φ1 0]) s (fun φ24 => by kernel_rfl) (by kernel_rfl) ?_
    intro φ24 w24 s
    refine wp_ret ?_
    refine ret_rule (C := []) _ [] (.tuple #[.agg #[pB k22, pB k23], .int .i64 (enB B13)]) [.o 1, .o 1] [φ1 0, φ1 0] s trivial (by kernel_rfl) ?_
    have ed : (bitsL l).drop (D6 + D13) = B13 := (by simp only [← List.drop_drop, h6_3, h13_3])
    have e9 : rsG l = ⟨Ev.T.zero, (Ev.E.leaf 0), enB B13, 0, 0⟩ := by unfold rsG stG; simp [-List.drop_drop, h6_2, h6_3, h13_2, h13_3, of_decide_eq_true hc11, of_decide_eq_true hc16, of_decide_eq_true hc21, ed]
    exact ⟨_, _, _, rfl, s, (by rw [e9]; exact ⟨_, _, rfl, h22_0, h23_0⟩)⟩
   ·
    rw [hc21]
    refine cond_false_rule (b := false) (by kernel_rfl) rfl ?_
    refine wp_skip ?_
    refine seqR ?_
    refine oAD _ [] 5 [.o 1, .o 1] 0 (fun φ25 => [(3, .int .i64 0), (37, .agg #[pB k6, pB k13]), (36, pB k13), (35, pB k6)]) (fun φ25 => [(φ4 0, .cells #[.slice a13 n13 c13, .int .i64 (enB B13)] 56), (φ1 0, .cells #[pB k6, pB k13] 40)]) (fun φ25 => [φ1 0, φ1 0]) s (fun φ25 => by kernel_rfl) (by kernel_rfl) ?_
    intro φ25 w25 s
    refine wp_ret ?_
    refine ret_rule (C := []) _ [] (.tuple #[.agg #[pB k6, pB k13], .int .i64 0]) [.o 1, .o 1] [φ1 0, φ1 0] s trivial (by kernel_rfl) ?_
    have ed : (bitsL l).drop (D6 + D13) = B13 := (by simp only [← List.drop_drop, h6_3, h13_3])
    have e9 : rsG l = ⟨T6, T13, 0, 0, 0⟩ := by unfold rsG stG; simp [-List.drop_drop, h6_2, h6_3, h13_2, h13_3, of_decide_eq_true hc11, of_decide_eq_true hc16, Decidable.not_not.1 (of_decide_eq_false hc21), ed]
    exact ⟨_, _, _, rfl, s, (by rw [e9]; exact ⟨_, _, rfl, h6_0, h13_0⟩)⟩
  ·
   rw [hc16]
   refine cond_false_rule (b := false) (by kernel_rfl) rfl ?_
   refine wp_skip ?_
   refine wp_seq ?_
   refine seqR ?_
   refine oK _ [] 2 [] 0 (fun φ26 => [(30, .bool (((R13 : Nat) : Int) != ((0 : Nat) : Int))), (29, .int .i64 R13)]) (fun φ26 => []) s (fun φ26 => by kernel_rfl) ?_
   intro φ26 w26 s
   rw [nat_neq (a := R13) (b := 0)]
   refine ops_done (by kernel_rfl) ?_
   rcases Bool.eq_false_or_eq_true (decide (R13 ≠ 0)) with hc27 | hc27
   ·
    rw [hc27]
    refine cond_true_rule (b := true) (by kernel_rfl) rfl ?_
    refine seqR ?_
    refine call_rule (some 31) s (Ev.rzero_c) (by kernel_rfl) ?_
    intro v28 I28 w28 le28 h28 s
    obtain ⟨k28, rfl, h28_0⟩ := h28
    refine call_rule (some 32) s (rleaf_c (n := 0)) (by kernel_rfl) ?_
    intro v29 I29 w29 le29 h29 s
    replace h28_0 := Ev.RT.mono le29 h28_0
    obtain ⟨k29, rfl, h29_0⟩ := h29
    refine oAD _ [] 4 [.o 1, .o 1] 0 (fun φ30 => [(3, .int .i64 R13), (34, .int .i64 R13), (33, .agg #[pB k28, pB k29])]) (fun φ30 => [(φ4 0, .cells #[.slice a13 n13 c13, .int .i64 E13] 56), (φ1 0, .cells #[pB k28, pB k29] 40)]) (fun φ30 => [φ1 0, φ1 0]) s (fun φ30 => by kernel_rfl) (by kernel_rfl) ?_
    intro φ30 w30 s
    refine wp_ret ?_
    refine ret_rule (C := []) _ [] (.tuple #[.agg #[pB k28, pB k29], .int .i64 R13]) [.o 1, .o 1] [φ1 0, φ1 0] s trivial (by kernel_rfl) ?_
    have ed : (bitsL l).drop (D6 + D13) = B13 := (by simp only [← List.drop_drop, h6_3, h13_3])
    have e9 : rsG l = ⟨Ev.T.zero, (Ev.E.leaf 0), R13, 0, 0⟩ := by unfold rsG stG; simp [-List.drop_drop, h6_2, h6_3, h13_2, h13_3, of_decide_eq_true hc11, of_decide_eq_false hc16, of_decide_eq_true hc27, ed]
    exact ⟨_, _, _, rfl, s, (by rw [e9]; exact ⟨_, _, rfl, h28_0, h29_0⟩)⟩
   ·
    exact absurd (show _ from (by have q1 := of_decide_eq_false hc27; have q2 := of_decide_eq_false hc16; simp only [ne_eq, Decidable.not_not] at q1 q2; first | exact q1 q2 | exact q2 q1)) id
 ·
  rw [hc11]
  refine cond_false_rule (b := false) (by kernel_rfl) rfl ?_
  refine wp_skip ?_
  refine wp_seq ?_
  refine seqR ?_
  refine oK _ [] 2 [] 0 (fun φ31 => [(26, .bool (((R6 : Nat) : Int) == ((0 : Nat) : Int))), (25, .int .i64 R6)]) (fun φ31 => []) s (fun φ31 => by kernel_rfl) ?_
  intro φ31 w31 s
  rw [nat_eql (a := R6) (b := 0)]
  rw [hc11]
  refine ops_done (by kernel_rfl) ?_
  refine cond_false_rule (b := false) (by kernel_rfl) rfl ?_
  refine wp_skip ?_
  refine wp_seq ?_
  refine seqR ?_
  refine oK _ [] 2 [] 0 (fun φ32 => [(30, .bool (((R6 : Nat) : Int) != ((0 : Nat) : Int))), (29, .int .i64 R6)]) (fun φ32 => []) s (fun φ32 => by kernel_rfl) ?_
  intro φ32 w32 s
  rw [nat_neq (a := R6) (b := 0)]
  refine ops_done (by kernel_rfl) ?_
  rcases Bool.eq_false_or_eq_true (decide (R6 ≠ 0)) with hc33 | hc33
  ·
   rw [hc33]
   refine cond_true_rule (b := true) (by kernel_rfl) rfl ?_
   refine seqR ?_
   refine call_rule (some 31) s (Ev.rzero_c) (by kernel_rfl) ?_
   intro v34 I34 w34 le34 h34 s
   obtain ⟨k34, rfl, h34_0⟩ := h34
   refine call_rule (some 32) s (rleaf_c (n := 0)) (by kernel_rfl) ?_
   intro v35 I35 w35 le35 h35 s
   replace h34_0 := Ev.RT.mono le35 h34_0
   obtain ⟨k35, rfl, h35_0⟩ := h35
   refine oAD _ [] 4 [.o 1, .o 1] 0 (fun φ36 => [(3, .int .i64 R6), (34, .int .i64 R6), (33, .agg #[pB k34, pB k35])]) (fun φ36 => [(φ4 0, .cells #[.slice a6 n6 c6, .int .i64 E6] 56), (φ1 0, .cells #[pB k34, pB k35] 40)]) (fun φ36 => [φ1 0, φ1 0]) s (fun φ36 => by kernel_rfl) (by kernel_rfl) ?_
   intro φ36 w36 s
   refine wp_ret ?_
   refine ret_rule (C := []) _ [] (.tuple #[.agg #[pB k34, pB k35], .int .i64 R6]) [.o 1, .o 1] [φ1 0, φ1 0] s trivial (by kernel_rfl) ?_
   have e9 : rsG l = ⟨Ev.T.zero, (Ev.E.leaf 0), R6, 0, 0⟩ := by unfold rsG stG; simp [-List.drop_drop, h6_2, h6_3, of_decide_eq_false hc11, of_decide_eq_false hc11, of_decide_eq_true hc33]
   exact ⟨_, _, _, rfl, s, (by rw [e9]; exact ⟨_, _, rfl, h34_0, h35_0⟩)⟩
  ·
   exact absurd (show _ from (by have q1 := of_decide_eq_false hc33; have q2 := of_decide_eq_false hc11; simp only [ne_eq, Decidable.not_not] at q1 q2; first | exact q1 q2 | exact q2 q1)) id

end Go.Proofs.YtgmigcmhnmmdkaaGreatDoor
/- What is read of bytes, written again, is just these bytes. -/
set_option linter.all false
namespace Go.Proofs.YtgmigcmhnmmdkaaGreatDoor

/- numbers -/
theorem run_ex {bs : List Bool} : ∀ (m n : Nat), n + m = 62 → OnesB bs n → ∃ j, RunB bs j
  | 0, n, h, o => ⟨n, o.run (.inr (.inr (by omega)))⟩
  | m + 1, n, h, o => by
    by_cases a : 0 < (bs.drop n).length
    · by_cases b : (bs.drop n).getD 0 false = true
      · exact run_ex m (n + 1) (by omega) (o.step a b (by omega))
      · exact ⟨n, o.run (.inr (.inl (by simpa using b)))⟩
    · exact ⟨n, o.run (.inl a)⟩
theorem rdB_half (X : List Bool) (k : Nat) : ∀ (d : Nat), d ≤ k → rdB X k / 2 ^ d = rdB X (k - d)
  | 0, _ => by simp
  | d + 1, h => by
    have ih := rdB_half X k d (by omega)
    rw [Nat.pow_succ, ← Nat.div_div_eq_div_mul, ih]
    have e : k - d = (k - (d + 1)) + 1 := by omega
    rw [e, rdB]
    have hb : (X.getD (k - (d + 1)) false).toNat ≤ 1 := by cases X.getD (k - (d + 1)) false <;> decide
    omega
theorem put_rdB {X : List Bool} {k : Nat} (h : k ≤ X.length) : putBits (rdB X k) k = X.take k := by
  apply List.ext_getElem?
  intro i
  by_cases hi : i < k
  · have e := rdB_half X k (k - 1 - i) (by omega)
    have e2 : k - (k - 1 - i) = i + 1 := by omega
    rw [List.getElem?_take, if_pos hi]
    unfold putBits
    rw [List.getElem?_map, List.getElem?_range hi]
    simp only [Option.map_some]
    unfold bitF
    rw [e, e2, rdB, List.getElem?_eq_getElem (show i < X.length by omega), List.getD_eq_getElem?_getD, List.getElem?_eq_getElem (show i < X.length by omega)]
    cases X[i] <;> simp <;> omega
  · rw [List.getElem?_eq_none (by rw [putBits_len]; omega), List.getElem?_eq_none (by rw [List.length_take]; omega)]
theorem numW_at {j m n : Nat} (hj : j ≤ 62) (hm : m < 2 ^ (j + 2)) (hn : n + 4 = 2 ^ (j + 2) + m) (h64 : n < 18446744073709551616) : numW 62 2 n = List.replicate j true ++ false :: putBits m (j + 2) := by
  obtain ⟨j', m', hj', e1, e2, e3⟩ := numW_form 62 2 n (by rw [show (2 : Nat) ^ (62 + 2) = 18446744073709551616 by decide]; exact h64)
  have e4 : 2 ^ (2 + j') + m' = 2 ^ (j + 2) + m := by rw [← hn, ← e2]
  have ej : j = j' := by
    rcases Nat.lt_trichotomy j j' with q | q | q
    · have h1 : 2 ^ (j + 2 + 1) ≤ 2 ^ (2 + j') := Nat.pow_le_pow_right (by decide) (by omega)
      rw [Nat.pow_succ] at h1; omega
    · exact q
    · have h1 : 2 ^ (2 + j' + 1) ≤ 2 ^ (j + 2) := Nat.pow_le_pow_right (by decide) (by omega)
      rw [Nat.pow_succ] at h1; omega
  subst ej
  have em : m' = m := by rw [Nat.add_comm 2 j] at e4; omega
  subst em
  rw [e1, Nat.add_comm 2 j]
theorem bn_fwd {B : List Bool} (h : bnE B 0 = 0) : B = numW 62 2 (bnV B 0) ++ B.drop (bnD B 0) := by
  obtain ⟨j, hr⟩ := run_ex (bs := B) 62 0 (by omega) (OnesB.start B)
  by_cases hb : fewBad B j
  · obtain ⟨-, -, c⟩ := bn_bad (e := 0) rfl hr hb
    rw [c] at h; cases h
  · obtain ⟨v, d, -⟩ := bn_good (e := 0) rfl hr hb
    rw [v, d]
    have hlen : j + 1 + (j + 2) ≤ B.length := by unfold fewBad at hb; omega
    have hz : B.getD j false = false := by
      cases q : B.getD j false
      · rfl
      · exact absurd (.inr (.inl q)) hb
    have hv : fewV B j < 18446744073709551616 := by unfold fewBad at hb; omega
    have hm := rdB_lt (B.drop (j + 1)) (j + 2)
    have h4 : 4 ≤ 2 ^ (j + 2) := show 2 ^ 2 ≤ 2 ^ (j + 2) from Nat.pow_le_pow_right (by decide) (by omega)
    rw [numW_at hr.le hm (by unfold fewV; omega) hv, put_rdB (by rw [List.length_drop]; omega)]
    have a1 : B.take j = List.replicate j true := by
      apply List.ext_getElem?
      intro i
      by_cases hi : i < j
      · have := hr.ones i hi
        rw [List.getElem?_take, if_pos hi, List.getElem?_replicate, if_pos hi]
        rw [List.getD_eq_getElem?_getD, List.getElem?_eq_getElem (show i < B.length by omega)] at this
        rw [List.getElem?_eq_getElem (show i < B.length by omega)]
        simpa using this
      · rw [List.getElem?_eq_none (by rw [List.length_take]; omega), List.getElem?_eq_none (by rw [List.length_replicate]; omega)]
    have a2 : B.drop j = false :: B.drop (j + 1) := by
      rw [List.drop_eq_getElem_cons (show j < B.length by omega)]
      rw [List.getD_eq_getElem?_getD, List.getElem?_eq_getElem (show j < B.length by omega)] at hz
      congr 1
    have a3 : B.drop (j + 1) = (B.drop (j + 1)).take (j + 2) ++ B.drop (j + 1 + (j + 2)) := by
      rw [show B.drop (j + 1 + (j + 2)) = (B.drop (j + 1)).drop (j + 2) by rw [List.drop_drop]]; exact (List.take_append_drop _ _).symm
    conv => lhs; rw [← List.take_append_drop j B, a1, a2, a3]
    simp
theorem cn_fwd {B : List Bool} (h : (cnG 0 B).er = 0) : B = numW 62 2 (cnG 0 B).t ++ B.drop (cnG 0 B).d := by
  have hE : bnE B 0 = 0 := by
    by_cases q : bnE B 0 = 0
    · exact q
    · unfold cnG at h; rw [if_pos q] at h; cases h
  have hV : ¬ 1048576 < bnV B 0 := fun q => by
    unfold cnG at h; rw [if_neg (fun z => z hE), if_pos q] at h; cases h
  have e : cnG 0 B = ⟨bnV B 0, 0, bnD B 0, bnE B 0⟩ := by unfold cnG; rw [if_neg (fun z => z hE), if_neg hV]
  rw [e]; exact bn_fwd hE
theorem cn_bad {e : Nat} {B : List Bool} (he : e ≠ 0) : (cnG e B).er ≠ 0 := by
  unfold cnG; rw [(bn_err he).2.2, if_pos he]; exact fun q => by cases q
/- bits that are there -/
theorem two_there {B : List Bool} (h : gE 0 B 2 = 0) : ∃ a b Y, B = a :: b :: Y := by
  unfold gE at h
  split at h
  · cases h
  · rename_i q
    match B, q with
    | [], q => exact absurd ⟨rfl, by simp⟩ q
    | [_], q => exact absurd ⟨rfl, by simp⟩ q
    | a :: b :: Y, _ => exact ⟨a, b, Y, rfl⟩
theorem one_there {B : List Bool} (h : gE 0 B 1 = 0) : ∃ a Y, B = a :: Y := by
  unfold gE at h
  split at h
  · cases h
  · rename_i q
    match B, q with
    | [], q => exact absurd ⟨rfl, by simp⟩ q
    | a :: Y, _ => exact ⟨a, Y, rfl⟩
/- halves -/
theorem hv_fwd {α : Type} {g : List Bool → Rd α} {z : α} {enc : α → List Bool} (h : ∀ B, (g B).er = 0 → B = enc (g B).t ++ B.drop (g B).d) (a b : Bool) (B : List Bool) (he : (hvG g z a b B).er = 0) :
    B = (if a = true then enc (hvG g z a b B).l else []) ++ ((if b = true then enc (hvG g z a b B).r else []) ++ B.drop (hvG g z a b B).d) := by
  cases a <;> cases b
  · simp [hvG, hL, hR]
  · simp [hvG, hL, hR] at he ⊢
    exact h B he
  · simp [hvG, hL, hR] at he ⊢
    exact h B he
  · have hL0 : hL g z true B = g B := by unfold hL; rw [if_pos rfl]
    have e1 : (g B).er = 0 := by
      by_cases q : (g B).er = 0
      · exact q
      · unfold hvG hR at he; rw [hL0] at he; simp only [q, and_false, if_false] at he
    have hR0 : hR g z true (g B) B = g (B.drop (g B).d) := by unfold hR; rw [if_pos ⟨rfl, e1⟩]
    unfold hvG at he ⊢
    rw [hL0] at he ⊢
    simp only [hR0] at he ⊢
    rw [if_pos trivial, if_pos trivial]
    have k1 := h B e1
    have k2 := h (B.drop (g B).d) he
    rw [List.drop_drop] at k2
    rw [← k2]; exact k1
theorem idD_fwd {g : List Bool → Rd Ev.T} (h : ∀ B, (g B).er = 0 → B = idB (g B).t ++ B.drop (g B).d) (last : Bool) (B : List Bool) (he : (idD g last B).er = 0) : B = idB (idD g last B).t ++ B.drop (idD g last B).d := by
  unfold idD at he ⊢
  split at he
  · cases he
  · rename_i q1
    rw [if_neg q1]
    obtain ⟨a, b, Y, rfl⟩ := two_there (Decidable.not_not.1 q1)
    obtain ⟨gd, ge, gv⟩ := g2 a b Y
    rw [gd] at he ⊢
    simp only [List.drop_succ_cons, List.drop_zero] at he ⊢
    rw [gv] at he ⊢
    split at he
    · rename_i q2
      rw [if_pos q2]
      have ha : a = false ∧ b = false := by cases a <;> cases b <;> simp at q2 ⊢
      obtain ⟨rfl, rfl⟩ := ha
      split at he
      · cases he
      · rename_i q3
        rw [if_neg q3]
        obtain ⟨c, Z, rfl⟩ := one_there (Decidable.not_not.1 q3)
        obtain ⟨k1, k2, k3⟩ := g1 c Z
        simp only [k1, k3]
        cases c <;> simp [idB, pb02, pb01, pb11]
    · rename_i q2
      rw [if_neg q2]
      split at he
      · cases he
      · rename_i q3
        rw [if_neg q3]
        split at he
        · rename_i q4; exact absurd he q4
        · rename_i q4
          rw [if_neg q4]
          have hv := hv_fwd h (decide (2 * a.toNat + b.toNat ≠ 1)) (decide (2 * a.toNat + b.toNat ≠ 2)) Y (Decidable.not_not.1 q4)
          split at he
          · cases he
          · rename_i q5
            rw [if_neg q5]
            simp only
            have hd : ∀ (d : Nat), (a :: b :: Y).drop (2 + d) = Y.drop d := fun d => by rw [← List.drop_drop]; rfl
            rw [hd]
            cases a <;> cases b
            · exact absurd rfl q2
            · have hk : Ev.kindT (hvG g Ev.T.zero (decide (2 * false.toNat + true.toNat ≠ 1)) (decide (2 * false.toNat + true.toNat ≠ 2)) Y).l = 0 := rfl
              rw [idB_nd1 hk, pb12]
              simp at hv ⊢; exact hv
            · have hkr : Ev.kindT (hvG g Ev.T.zero (decide (2 * true.toNat + false.toNat ≠ 1)) (decide (2 * true.toNat + false.toNat ≠ 2)) Y).r = 0 := by unfold hvG hR; simp [Ev.kindT]
              have hkl : ¬ Ev.kindT (hvG g Ev.T.zero (decide (2 * true.toNat + false.toNat ≠ 1)) (decide (2 * true.toNat + false.toNat ≠ 2)) Y).l = 0 := fun z => q5 (by unfold badT; rw [z]; rfl)
              rw [idB_nd2 hkl hkr, pb22]
              simp at hv ⊢; exact hv
            · have hkl : ¬ Ev.kindT (hvG g Ev.T.zero (decide (2 * true.toNat + true.toNat ≠ 1)) (decide (2 * true.toNat + true.toNat ≠ 2)) Y).l = 0 := fun z => q5 (by unfold badT; rw [z]; rfl)
              have hkr : ¬ Ev.kindT (hvG g Ev.T.zero (decide (2 * true.toNat + true.toNat ≠ 1)) (decide (2 * true.toNat + true.toNat ≠ 2)) Y).r = 0 := fun z => q5 (by unfold badT; rw [z]; simp)
              rw [idB_nd3 hkl hkr, pb32]
              simp at hv ⊢; exact hv
theorem idG_fwd : ∀ (f : Nat), f ≤ 16 → ∀ (B : List Bool), (idG f B).er = 0 → B = idB (idG f B).t ++ B.drop (idG f B).d
  | 0, _, B => by
    show (idN (fun _ => ⟨.zero, 0, 0, 0⟩) true B).er = 0 → B = idB (idN (fun _ => ⟨.zero, 0, 0, 0⟩) true B).t ++ B.drop (idN (fun _ => ⟨.zero, 0, 0, 0⟩) true B).d
    rw [idN_D (f := 0) (fun _ => Nat.zero_le _) (by decide)]
    intro he
    unfold idD at he ⊢
    split at he
    · cases he
    · rename_i q1
      rw [if_neg q1]
      split at he
      · rename_i q2
        have := idD_fwd (g := fun B => ⟨.zero, 6, 0, 0⟩) (fun _ q => by cases q) true B
        unfold idD at this
        rw [if_neg q1, if_pos q2] at this
        rw [if_pos q2]
        exact this he
      · rw [if_pos rfl] at he; cases he
  | f + 1, hf, B => by
    show (idN (idG f) false B).er = 0 → B = idB (idN (idG f) false B).t ++ B.drop (idN (idG f) false B).d
    rw [idN_D (f := f) (idG_deep f) (by omega)]
    exact idD_fwd (idG_fwd f (by omega)) false B
end Go.Proofs.YtgmigcmhnmmdkaaGreatDoor
/- What is read of bytes, written again, is just these bytes: events, stamps. -/
set_option linter.all false
namespace Go.Proofs.YtgmigcmhnmmdkaaGreatDoor

theorem hdF_fwd {k d : Nat} {C : Rd Nat} (h : (hdF k d C).er = 0) : C.er = 0 ∧ C.t ≠ 0 ∧ hdF k d C = ⟨k, C.t, 0, d + C.d, C.e⟩ := by
  unfold hdF at h ⊢
  by_cases a : C.er = 0
  · by_cases b : C.t = 0
    · rw [if_pos a, if_pos b] at h; cases h
    · rw [if_pos a, if_neg b]; exact ⟨a, b, by rw [a]⟩
  · rw [if_neg a] at h; exact absurd h a
theorem hd_fwd {B : List Bool} (he : (hdG B).er = 0) : B = headB (hdG B).n (hdG B).k ++ B.drop (hdG B).d := by
  unfold hdG at he ⊢
  split at he
  · cases he
  · rename_i q1
    rw [if_neg q1]
    obtain ⟨a, b, Y, rfl⟩ := two_there (Decidable.not_not.1 q1)
    obtain ⟨gd, ge, gv⟩ := g2 a b Y
    rw [gd] at he ⊢
    simp only [List.drop_succ_cons, List.drop_zero] at he ⊢
    rw [gv] at he ⊢
    split at he
    · rename_i q2
      rw [if_pos q2]
      unfold headB
      simp only
      rw [if_pos trivial]
      cases a <;> cases b
      · rfl
      · rfl
      · rfl
      · exact absurd rfl q2
    · rename_i q2
      rw [if_neg q2]
      have hab : a = true ∧ b = true := by cases a <;> cases b <;> simp at q2 ⊢
      obtain ⟨rfl, rfl⟩ := hab
      split at he
      · rename_i q3
        rw [if_pos q3]
        obtain ⟨c1, c2, c3⟩ := hdF_fwd he
        rw [c3]
        have e1 : gE 0 Y 1 = 0 := by
          by_cases z : gE 0 Y 1 = 0
          · exact z
          · refine absurd c1 (cn_bad ?_)
            have : gE (gE 0 Y 1) (Y.drop (gD 0 Y 1)) 1 = gE 0 Y 1 := by unfold gE; rw [if_neg]; intro w; exact z w.1
            rw [this]; exact z
        obtain ⟨c, Z, rfl⟩ := one_there e1
        obtain ⟨k1, k2, k3⟩ := g1 c Z
        rw [k3] at q3
        have hc : c = false := by cases c <;> simp at q3 ⊢
        subst hc
        rw [k1, k2] at c1 c2 ⊢
        simp only [List.drop_succ_cons, List.drop_zero] at c1 c2 ⊢
        have e2 : gE 0 Z 1 = 0 := by
          by_cases z : gE 0 Z 1 = 0
          · exact z
          · exact absurd c1 (cn_bad z)
        obtain ⟨x, W, rfl⟩ := one_there e2
        obtain ⟨m1, m2, m3⟩ := g1 x W
        rw [m1, m2] at c1 c2
        rw [m1, m2, m3]
        simp only [List.drop_succ_cons, List.drop_zero] at c1 c2 ⊢
        have key := cn_fwd c1
        unfold headB
        rw [if_neg c2]
        cases x
        · simp [pb32, pb01]
          rw [show 2 + 1 + 1 + (cnG 0 W).d = (cnG 0 W).d + 4 by omega]
          simpa using key
        · simp [pb32, pb01, pb11]
          rw [show 2 + 1 + 1 + (cnG 0 W).d = (cnG 0 W).d + 4 by omega]
          simpa using key
      · rename_i q3
        rw [if_neg q3]
        obtain ⟨c1, c2, c3⟩ := hdF_fwd he
        rw [c3]
        have e1 : gE 0 Y 1 = 0 := gE_of_gV q3
        obtain ⟨c, Z, rfl⟩ := one_there e1
        obtain ⟨k1, k2, k3⟩ := g1 c Z
        rw [k3] at q3
        have hc : c = true := by cases c <;> simp at q3 ⊢
        subst hc
        rw [k1, k2] at c1 c2 ⊢
        simp only [List.drop_succ_cons, List.drop_zero] at c1 c2 ⊢
        have key := cn_fwd c1
        unfold headB
        rw [if_neg c2, if_pos rfl]
        simp [pb32, pb11]
        rw [show 2 + 1 + (cnG 0 Z).d = (cnG 0 Z).d + 3 by omega]
        simpa using key
theorem evD_fwd {g : List Bool → Rd Ev.E} (h : ∀ B, (g B).er = 0 → B = evB (g B).t ++ B.drop (g B).d) (last : Bool) (B : List Bool) (he : (evD g last B).er = 0) : B = evB (evD g last B).t ++ B.drop (evD g last B).d := by
  unfold evD at he ⊢
  split at he
  · cases he
  · rename_i q1
    rw [if_neg q1]
    obtain ⟨a, Y, rfl⟩ := one_there (Decidable.not_not.1 q1)
    obtain ⟨gd, ge, gv⟩ := g1 a Y
    rw [gd] at he ⊢
    simp only [List.drop_succ_cons, List.drop_zero] at he ⊢
    rw [gv] at he ⊢
    split at he
    · rename_i q2
      rw [if_pos q2]
      have ha : a = true := by cases a <;> simp at q2 ⊢
      subst ha
      split at he
      · rename_i q3; exact absurd he q3
      · rename_i q3
        rw [if_neg q3]
        have key := cn_fwd (Decidable.not_not.1 q3)
        simp only [evB, pb11]
        rw [show 1 + (cnG 0 Y).d = (cnG 0 Y).d + 1 by omega]
        simpa using key
    · rename_i q2
      rw [if_neg q2]
      have ha : a = false := by cases a <;> simp at q2 ⊢
      subst ha
      split at he
      · cases he
      · rename_i q3
        rw [if_neg q3]
        simp only at he ⊢
        have hd : ∀ (d : Nat), (false :: Y).drop (1 + d) = Y.drop d := fun d => by rw [Nat.add_comm]; rfl
        rw [hd]
        unfold ndD at he ⊢
        split at he
        · rename_i q4; exact absurd he q4
        · rename_i q4
          rw [if_neg q4]
          have hh := hd_fwd (Decidable.not_not.1 q4)
          have hk := hd_k Y
          split at he
          · rename_i q5; exact absurd he q5
          · rename_i q5
            rw [if_neg q5]
            have hv := hv_fwd h (decide ((hdG Y).k ≠ 0)) (decide ((hdG Y).k ≠ 1)) (Y.drop (hdG Y).d) (Decidable.not_not.1 q5)
            have e0 : (hdG Y).k = 0 → (hvG g (.leaf 0) (decide ((hdG Y).k ≠ 0)) (decide ((hdG Y).k ≠ 1)) (Y.drop (hdG Y).d)).l = .leaf 0 := fun z => by rw [z]; rfl
            have e1 : (hdG Y).k = 1 → (hvG g (.leaf 0) (decide ((hdG Y).k ≠ 0)) (decide ((hdG Y).k ≠ 1)) (Y.drop (hdG Y).d)).r = .leaf 0 := fun z => by
              rw [z]; unfold hvG hR; simp
            have b := badE_iff hk.1 e0 e1
            generalize hvG g (.leaf 0) (decide ((hdG Y).k ≠ 0)) (decide ((hdG Y).k ≠ 1)) (Y.drop (hdG Y).d) = V at *
            split at he
            · cases he
            · rename_i q6
              rw [if_neg q6]
              split at he
              · cases he
              · rename_i q7
                rw [if_neg q7]
                have hb := (b.2 (by simpa using q6)).1
                simp only [evB, hb, pb01]
                rw [← List.drop_drop]
                generalize Y.drop (hdG Y).d = Z at *
                generalize hdG Y = H at *
                rw [hh]
                conv => lhs; rw [hv]
                have f0 : (if decide (H.k ≠ 0) = true then evB V.l else []) = if H.k = 0 then [] else evB V.l := by
                  by_cases z : H.k = 0 <;> simp [z]
                have f1 : (if decide (H.k ≠ 1) = true then evB V.r else []) = if H.k = 1 then [] else evB V.r := by
                  by_cases z : H.k = 1 <;> simp [z]
                rw [f0, f1]
                simp
theorem evG_fwd : ∀ (f : Nat), f ≤ 16 → ∀ (B : List Bool), (evG f B).er = 0 → B = evB (evG f B).t ++ B.drop (evG f B).d
  | 0, _, B => by
    show (evN (fun _ => ⟨.leaf 0, 0, 0, 0⟩) true B).er = 0 → B = evB (evN (fun _ => ⟨.leaf 0, 0, 0, 0⟩) true B).t ++ B.drop (evN (fun _ => ⟨.leaf 0, 0, 0, 0⟩) true B).d
    rw [evN_D (f := 0) (fun _ => lf_gd _ _) (by decide)]
    intro he
    have e : evD (fun _ => ⟨.leaf 0, 0, 0, 0⟩) true B = evD (fun _ => ⟨.leaf 0, 6, 0, 0⟩) true B := by
      unfold evD; split
      · rfl
      · split
        · rfl
        · rw [if_pos rfl, if_pos rfl]
    rw [e] at he ⊢
    exact evD_fwd (fun _ q => by cases q) true B he
  | f + 1, hf, B => by
    show (evN (evG f) false B).er = 0 → B = evB (evN (evG f) false B).t ++ B.drop (evN (evG f) false B).d
    rw [evN_D (f := f) (evG_gd f) (by omega)]
    exact evD_fwd (evG_fwd f (by omega)) false B
/- bytes by their bits -/
theorem bits_inj {l m : List UInt8} (h : bitsL l = bitsL m) : l = m := by
  have hl : l.length = m.length := by have := congrArg List.length h; rw [bitsL_len, bitsL_len] at this; omega
  apply List.ext_getElem?
  intro q
  by_cases hq : q < l.length
  · have e1 := rdB_rd (l := l) (p := q * 8) (i := 8) (by omega)
    have e2 := rdB_rd (l := m) (p := q * 8) (i := 8) (by omega)
    rw [h, e2, rd_byte, rd_byte] at e1
    rw [List.getElem?_eq_getElem hq, List.getElem?_eq_getElem (show q < m.length by omega)]
    rw [List.getD_eq_getElem?_getD, List.getD_eq_getElem?_getD, List.getElem?_eq_getElem hq, List.getElem?_eq_getElem (show q < m.length by omega)] at e1
    exact congrArg some (UInt8.toNat_inj.1 e1.symm)
  · rw [List.getElem?_eq_none (by omega), List.getElem?_eq_none (by omega)]
theorem enB_zero {X : List Bool} (h : enB X = 0) : ∃ z, z < 8 ∧ X = List.replicate z false := by
  unfold enB at h
  split at h
  · cases h
  · rename_i q
    refine ⟨X.length, by omega, ?_⟩
    have hany : X.any id = false := by
      cases z : X.any id
      · rfl
      · exact absurd (.inr z) q
    rw [List.any_eq_false] at hany
    exact List.eq_replicate_of_mem (fun b hb => by have := hany b hb; simpa using this)
theorem rsG_fwd {l : List UInt8} (h : (rsG l).er = 0) : pk (idB (rsG l).i ++ evB (rsG l).v) = l := by
  have hs : (stG (bitsL l)).er = 0 := by
    by_cases q : (stG (bitsL l)).er = 0
    · exact q
    · unfold rsG at h; rw [if_neg q] at h; exact h
  have he : enB ((bitsL l).drop (stG (bitsL l)).d) = 0 := by
    by_cases q : enB ((bitsL l).drop (stG (bitsL l)).d) = 0
    · exact q
    · unfold rsG at h; rw [if_pos hs, if_pos q] at h; exact h
  have e : rsG l = ⟨(stG (bitsL l)).i, (stG (bitsL l)).v, 0, 0, 0⟩ := by unfold rsG; rw [if_pos hs, if_neg (fun q => q he)]
  rw [e]
  simp only
  have h1 : (idG 16 (bitsL l)).er = 0 := by
    by_cases q : (idG 16 (bitsL l)).er = 0
    · exact q
    · unfold stG at hs; rw [if_pos q] at hs; exact hs
  have h2 : (evG 16 ((bitsL l).drop (idG 16 (bitsL l)).d)).er = 0 := by
    by_cases q : (evG 16 ((bitsL l).drop (idG 16 (bitsL l)).d)).er = 0
    · exact q
    · unfold stG at hs; rw [if_neg (fun z => z h1), if_pos q] at hs; exact hs
  have es : stG (bitsL l) = ⟨(idG 16 (bitsL l)).t, (evG 16 ((bitsL l).drop (idG 16 (bitsL l)).d)).t, 0, (idG 16 (bitsL l)).d + (evG 16 ((bitsL l).drop (idG 16 (bitsL l)).d)).d, (evG 16 ((bitsL l).drop (idG 16 (bitsL l)).d)).e⟩ := by
    unfold stG; rw [if_neg (fun z => z h1), if_neg (fun z => z h2)]
  rw [es] at he ⊢
  simp only at he ⊢
  have k1 := idG_fwd 16 (by decide) _ h1
  have k2 := evG_fwd 16 (by decide) _ h2
  rw [← List.drop_drop] at he
  obtain ⟨z, hz, ez⟩ := enB_zero he
  rw [ez] at k2
  generalize idB (idG 16 (bitsL l)).t = A at *
  generalize evB (evG 16 ((bitsL l).drop (idG 16 (bitsL l)).d)).t = C at *
  rw [k2] at k1
  obtain ⟨y, hy, ey⟩ := pk_bits (A ++ C)
  have n1 := congrArg List.length k1
  have n2 := congrArg List.length ey
  rw [bitsL_len] at n1 n2
  simp only [List.length_append, List.length_replicate] at n1 n2
  have : y = z := by omega
  subst this
  apply bits_inj
  rw [ey, k1]; simp
end Go.Proofs.YtgmigcmhnmmdkaaGreatDoor
/- What a law of kinfolklaw07 is given. -/
set_option linter.all false
set_option maxRecDepth 100000
namespace Go.Proofs.YtgmigcmhnmmdkaaGreatDoor
open Go.RowKit Go.Sep
attribute [local irreducible] Go.wpList Go.Code.wp

theorem textT_len : ∀ (t : Ev.T) (n : Nat), t.depth ≤ n → (Ev.textT t).length + 3 ≤ 4 * 2 ^ n
  | .zero, n, _ => by have := Nat.one_le_two_pow (n := n); simp [Ev.textT]; omega
  | .one, n, _ => by have := Nat.one_le_two_pow (n := n); simp [Ev.textT]; omega
  | .node l r, 0, h => by simp [Ev.T.depth] at h
  | .node l r, n + 1, h => by
    have hd : l.depth ≤ n ∧ r.depth ≤ n := by simp only [Ev.T.depth] at h; omega
    have h1 := textT_len l n hd.1
    have h2 := textT_len r n hd.2
    simp only [Ev.textT, List.length_append, List.length_cons, List.length_nil, Nat.pow_succ]
    omega
theorem textE_len : ∀ (e : Ev.E) (n : Nat), e.depth ≤ n → e.top < 18446744073709551616 → (Ev.textE e).length + 1004 ≤ 2008 * 2 ^ n
  | .leaf m, n, _, ht => by
    have := Nat.one_le_two_pow (n := n)
    have := Ev.digits_le m ht
    simp only [Ev.textE]; omega
  | .node m l r, 0, h, _ => by simp [Ev.E.depth] at h
  | .node m l r, n + 1, h, ht => by
    have hd : l.depth ≤ n ∧ r.depth ≤ n := by simp only [Ev.E.depth] at h; omega
    have hq := half_lt ht
    have h1 := textE_len l n hd.1 hq.1
    have h2 := textE_len r n hd.2 hq.2.1
    have := Ev.digits_le m hq.2.2
    simp only [Ev.textE, List.length_append, List.length_cons, List.length_nil, Nat.pow_succ]
    omega
theorem rsG_b (l : List UInt8) : (rsG l).i.depth ≤ 16 ∧ (rsG l).v.depth ≤ 16 ∧ (rsG l).v.top ≤ 1048576 := by
  have hz : (Ev.T.zero).depth ≤ 16 ∧ (Ev.E.leaf 0).depth ≤ 16 ∧ (Ev.E.leaf 0).top ≤ 1048576 := ⟨Nat.zero_le _, Nat.zero_le _, Nat.zero_le _⟩
  have hs : (stG (bitsL l)).i.depth ≤ 16 ∧ (stG (bitsL l)).v.depth ≤ 16 ∧ (stG (bitsL l)).v.top ≤ 1048576 := by
    unfold stG; split
    · exact hz
    · split
      · exact hz
      · exact ⟨idG_deep 16 _, (evG_gd 16 _).1, (evG_ok 16).t _⟩
  unfold rsG; split
  · split
    · exact hz
    · exact hs
  · exact hz
theorem rsG_len {l : List UInt8} (h : (rsG l).er = 0) (hl : l.length ≤ 100) : (idB (rsG l).i).length + (evB (rsG l).v).length ≤ 700000 := by
  have e := congrArg List.length (rsG_fwd h)
  rw [pk_len, List.length_append] at e; omega
theorem bclone_c {I : IM} {l : List UInt8} {a : Option Addr} {n c : Nat} (hl : BSl I l (.slice a n c)) (hn : l.length ≤ 1000000000) : Fun Tryz.prog 13 #[.slice a n c] I (fun v J => bsR l v J) := fun_of_rowB (bclone_r hl hn)

set_option maxHeartbeats 1000000 in
theorem cut_c {I : IM} {l : List UInt8} {a : Option Addr} {n c : Nat} (hl : BSl I l (.slice a n c)) : Fun Tryz.prog 5 #[.slice a n c, .int .i64 100] I (fun v J => bsR (l.take 100) v J) := by
 obtain ⟨rfl, -⟩ := hl.cap
 refine enter_rule 12 [(0, .slice a l.length c), (1, .int .i64 100)] Tryz.func5 rfl (by kernel_rfl) ?_
 intro w s
 refine seqR ?_
 refine oKD [] [] 1 [] 0 (fun φ1 => [(4, .slice none 0 0)]) (fun φ1 => []) s (fun φ1 => by kernel_rfl) (by kernel_rfl) ?_
 intro φ1 w1 s
 refine seqR ?_
 refine oK [] [] 5 [] 0 (fun φ2 => [(9, .int .i64 (if ((100 : Nat) : Int) < ((l.length : Nat) : Int) then ((100 : Nat) : Int) else ((l.length : Nat) : Int))), (8, .int .i64 100), (7, .int .i64 l.length), (6, .slice a l.length c), (5, .slice a l.length c)]) (fun φ2 => []) s (fun φ2 => by kernel_rfl) ?_
 intro φ2 w2 s
 rw [nat_min (a := l.length) (b := 100)]
 refine sem_rule (Instr.sliceAt 22 (.slice a l.length c) none (some (.int .i64 ((min l.length 100 : Nat) : Int))) none) (some 10) (.slice a (min l.length 100) c) (by kernel_rfl) (run_to (by have hcp := (BSl.cap hl).2; (try simp only [List.length_drop, List.length_take, List.length_append, List.length_cons, List.length_nil] at hcp ⊢);   (try simp only [List.length_drop, List.length_take, List.length_append, List.length_cons, List.length_nil]); omega)) ?_
 refine call_rule (some 11) s (bclone_c (bsl_to (hi := min l.length 100) hl (by have hcp := (BSl.cap hl).2; (try simp only [List.length_drop, List.length_take, List.length_append, List.length_cons, List.length_nil] at hcp ⊢);   (try simp only [List.length_drop, List.length_take, List.length_append, List.length_cons, List.length_nil]); omega)) (by rw [List.length_take]; omega)) (by kernel_rfl) ?_
 intro v3 I3 w3 le3 h3 s
 obtain ⟨a3, c3, rfl, h3_0⟩ := h3
 refine oKD [] [] 1 [] 0 (fun φ4 => [(4, .slice a3 (List.length (l.take (min l.length 100))) c3)]) (fun φ4 => []) s (fun φ4 => by kernel_rfl) (by kernel_rfl) ?_
 intro φ4 w4 s
 refine wp_ret ?_
 refine ret_rule (C := []) [] [] (.slice a3 (List.length (l.take (min l.length 100))) c3) [] [] s trivial (by kernel_rfl) ?_
 exact ⟨_, _, _, rfl, s, (by have e9 : (l.take (min l.length 100)) = l.take 100 := (by rw [List.take_eq_take_iff]; omega); rw [e9] at h3_0 ⊢; exact ⟨_, _, rfl, h3_0⟩)⟩

theorem cut2_c {I : IM} {l : List UInt8} {a : Option Addr} {n c : Nat} (hl : BSl I (l.take 100) (.slice a n c)) : Fun Tryz.prog 5 #[.slice a n c, .int .i64 100] I (fun v J => bsR (l.take 100) v J) := by
  have h := cut_c hl
  rw [List.take_take] at h; exact h

end Go.Proofs.YtgmigcmhnmmdkaaGreatDoor
/- Any bytes are the stamp of the document, or have its error. -/
set_option linter.all false
set_option maxRecDepth 100000
namespace Go.Proofs.YtgmigcmhnmmdkaaGreatDoor
open Go.RowKit Go.Sep
attribute [local irreducible] Go.wpList Go.Code.wp

set_option maxHeartbeats 2000000 in
theorem codeReads_c {I : IM} {l : List UInt8} {a : Option Addr} {n c : Nat} (hT : Ev.Tab I) (hl : BSl I l (.slice a n c)) : Fun Tryz.prog 3 #[.slice a n c] I (fun v J => v = .bool true) := by
 obtain ⟨rfl, -⟩ := hl.cap
 have hbb := rsG_b (l.take 100)
 have htp : (rsG (l.take 100)).v.top < 18446744073709551616 := by have := hbb.2.2; omega
 have hlT : (Ev.textT (rsG (l.take 100)).i).length ≤ 1000000000 := by have := textT_len _ 16 hbb.1; omega
 have hlE : (Ev.textE (rsG (l.take 100)).v).length ≤ 1000000000 := by have := textE_len _ 16 hbb.2.1 htp; omega
 refine enter_rule 48 [(0, .slice a l.length c)] Tryz.func3 rfl (by kernel_rfl) ?_
 intro w s
 refine seqR ?_
 refine oKD [] [] 1 [] 0 (fun φ1 => [(2, .bool false)]) (fun φ1 => []) s (fun φ1 => by kernel_rfl) (by kernel_rfl) ?_
 intro φ1 w1 s
 refine wp_seq ?_
 refine seqR ?_
 refine call_rule (some 8) s (awake7_c) (by kernel_rfl) ?_
 intro v2 I2 w2 le2 h2 s
 replace hl := BSl.mono le2 hl
 replace hT := Ev.Tab.mono le2 hT
 obtain rfl := h2
 refine oKD [] [] 1 [] 0 (fun φ3 => [(9, .bool false)]) (fun φ3 => []) s (fun φ3 => by kernel_rfl) (by kernel_rfl) ?_
 intro φ3 w3 s
 refine cond_false_rule (b := false) (by kernel_rfl) rfl ?_
 refine wp_skip ?_
 refine seqR ?_
 refine oK [] [] 1 [] 0 (fun φ4 => [(10, .slice a l.length c)]) (fun φ4 => []) s (fun φ4 => by kernel_rfl) ?_
 intro φ4 w4 s
 refine call_rule (some 11) s (cut_c hl) (by kernel_rfl) ?_
 intro v5 I5 w5 le5 h5 s
 replace hT := Ev.Tab.mono le5 hT
 obtain ⟨a5, c5, rfl, h5_0⟩ := h5
 refine oKD [] [] 1 [] 0 (fun φ6 => [(0, .slice a5 (List.length (l.take 100)) c5)]) (fun φ6 => []) s (fun φ6 => by kernel_rfl) (by kernel_rfl) ?_
 intro φ6 w6 s
 refine seqR ?_
 refine oK [] [] 1 [] 0 (fun φ7 => [(12, .slice a5 (List.length (l.take 100)) c5)]) (fun φ7 => []) s (fun φ7 => by kernel_rfl) ?_
 intro φ7 w7 s
 refine call_rule (some 13) s (cut2_c h5_0) (by kernel_rfl) ?_
 intro v8 I8 w8 le8 h8 s
 replace hT := Ev.Tab.mono le8 hT
 replace h5_0 := BSl.mono le8 h5_0
 obtain ⟨a8, c8, rfl, h8_0⟩ := h8
 refine oKD [] [] 1 [] 0 (fun φ9 => [(3, .slice a8 (List.length (l.take 100)) c8)]) (fun φ9 => []) s (fun φ9 => by kernel_rfl) (by kernel_rfl) ?_
 intro φ9 w9 s
 refine seqR ?_
 refine oK [] [] 1 [] 0 (fun φ10 => [(15, .slice a8 (List.length (l.take 100)) c8)]) (fun φ10 => []) s (fun φ10 => by kernel_rfl) ?_
 intro φ10 w10 s
 refine call_rule (some 16) s (readStamp_c h8_0 (by rw [List.length_take]; omega)) (by kernel_rfl) ?_
 intro v11 I11 w11 le11 h11 s
 replace hT := Ev.Tab.mono le11 hT
 replace h5_0 := BSl.mono le11 h5_0
 replace h8_0 := BSl.mono le11 h8_0
 obtain ⟨bi11, pi11, be11, pe11, rfl, h11_0, h11_1⟩ := h11
 refine oAD [] [] 6 [.o 0, .o 0, .o 0, .o 0] 1 (fun φ12 => [(5, .int .i64 (((rsG (l.take 100)).er : Nat) : Int)), (4, pB (φ12 0)), (18, .int .i64 (((rsG (l.take 100)).er : Nat) : Int)), (17, .agg #[.bool bi11, .pointer pi11, .int .u64 be11, .pointer pe11]), (14, .tuple #[.agg #[.bool bi11, .pointer pi11, .int .u64 be11, .pointer pe11], .int .i64 (((rsG (l.take 100)).er : Nat) : Int)])]) (fun φ12 => [(φ12 0, .cells #[.bool bi11, .pointer pi11, .int .u64 be11, .pointer pe11] 33)]) (fun φ12 => [φ12 0, φ12 0, φ12 0, φ12 0]) s (fun φ12 => by kernel_rfl) (by kernel_rfl) ?_
 intro φ12 w12 s
 refine seqR ?_
 refine oK _ [] 1 [] 0 (fun φ13 => [(20, .slice a5 (List.length (l.take 100)) c5)]) (fun φ13 => []) s (fun φ13 => by kernel_rfl) ?_
 intro φ13 w13 s
 refine call_rule (some 21) s (refReadStamp_c h5_0 (by rw [List.length_take]; omega)) (by kernel_rfl) ?_
 intro v14 I14 w14 le14 h14 s
 replace hT := Ev.Tab.mono le14 hT
 replace h5_0 := BSl.mono le14 h5_0
 replace h8_0 := BSl.mono le14 h8_0
 replace h11_0 := Ev.TRep.mono le14 h11_0
 replace h11_1 := Ev.ERep.mono le14 h11_1
 obtain ⟨ki14, ke14, rfl, h14_0, h14_1⟩ := h14
 refine oAD _ [] 6 [.o 1, .o 1] 1 (fun φ15 => [(7, .int .i64 (((rsG (l.take 100)).er : Nat) : Int)), (6, pB (φ15 0)), (23, .int .i64 (((rsG (l.take 100)).er : Nat) : Int)), (22, .agg #[pB ki14, pB ke14]), (19, .tuple #[.agg #[pB ki14, pB ke14], .int .i64 (((rsG (l.take 100)).er : Nat) : Int)])]) (fun φ15 => [(φ12 0, .cells #[.bool bi11, .pointer pi11, .int .u64 be11, .pointer pe11] 33), (φ15 0, .cells #[pB ki14, pB ke14] 40)]) (fun φ15 => [φ15 0, φ15 0]) s (fun φ15 => by kernel_rfl) (by kernel_rfl) ?_
 intro φ15 w15 s
 refine wp_seq ?_
 refine wp_seq ?_
 refine draw_rule (C := []) ⟨(fun φ16 xs16 => [.look 0 [] [], .look 0 [] [], .sub 0 [] [] (.bool ((((rsG (l.take 100)).er : Nat) : Int) != (((rsG (l.take 100)).er : Nat) : Int))), .look 0 [] [], .look 0 [.o 0, .o 0, .o 0, .o 0] [φ12 0, φ12 0, φ12 0, φ12 0], .call 8 #[.agg #[.bool bi11, .pointer pi11, .int .u64 be11, .pointer pe11]], .look 0 [.o 1, .o 1] [φ15 0, φ15 0], .call 9 #[.agg #[pB ki14, pB ke14]], .sub 0 [] [] (.bool (!((⟨(Ev.textS (rsG (l.take 100)).i (rsG (l.take 100)).v).toArray⟩ : ByteArray).toList == (⟨(Ev.textS (rsG (l.take 100)).i (rsG (l.take 100)).v).toArray⟩ : ByteArray).toList))), .look 0 [] [], .look 0 [] [], .look 0 [] [], .look 0 [] [], .call 10 #[.slice a8 (List.length (l.take 100)) c8, .slice a5 (List.length (l.take 100)) c5], .look 0 [] [], .look 0 [] []]), (fun φ16 xs16 => [.int .i64 (((rsG (l.take 100)).er : Nat) : Int), .int .i64 (((rsG (l.take 100)).er : Nat) : Int), .bool false, .bool false, .agg #[.bool bi11, .pointer pi11, .int .u64 be11, .pointer pe11], .string ⟨(Ev.textS (rsG (l.take 100)).i (rsG (l.take 100)).v).toArray⟩, .agg #[pB ki14, pB ke14], .string ⟨(Ev.textS (rsG (l.take 100)).i (rsG (l.take 100)).v).toArray⟩, .bool false, .bool false, .bool false, .slice a8 (List.length (l.take 100)) c8, .slice a5 (List.length (l.take 100)) c5, .bool true, .bool false, .bool false]), (fun φ16 xs16 => [[(φ12 0, .cells #[.bool bi11, .pointer pi11, .int .u64 be11, .pointer pe11] 33), (φ15 0, .cells #[pB ki14, pB ke14] 40)]]), (fun φ16 xs16 => [[default, default, default, default, default, default, default, default, default, default, default, default, default, default, default, default]]), [], [1, 1, 5, 1, 1, 3, 1, 3, 5, 1, 1, 1, 1, 3, 1, 1]⟩ (fun j => ([MP.any] : List MP).getD j MP.any) [5, 7, 13] [2, 8] [] (fun φ16 xs16 => []) (fun φ16 xs16 => [(24, .int .i64 (((rsG (l.take 100)).er : Nat) : Int)), (25, .int .i64 (((rsG (l.take 100)).er : Nat) : Int)), (26, .bool false), (27, .bool false), (28, .agg #[.bool bi11, .pointer pi11, .int .u64 be11, .pointer pe11]), (29, .string ⟨(Ev.textS (rsG (l.take 100)).i (rsG (l.take 100)).v).toArray⟩), (30, .agg #[pB ki14, pB ke14]), (31, .string ⟨(Ev.textS (rsG (l.take 100)).i (rsG (l.take 100)).v).toArray⟩), (32, .bool false), (33, .bool false), (34, .bool false), (35, .slice a8 (List.length (l.take 100)) c8), (36, .slice a5 (List.length (l.take 100)) c5), (37, .bool true), (38, .bool false), (39, .bool false)]) (fun φ16 xs16 => [(φ12 0, .cells #[.bool bi11, .pointer pi11, .int .u64 be11, .pointer pe11] 33), (φ15 0, .cells #[pB ki14, pB ke14] 40)]) s trivial (by kernel_rfl) (by kernel_rfl) (fun _ _ => by kernel_rfl) (fun _ _ => by kernel_rfl) ⟨fun _ _ => by kernel_rfl, fun _ _ => by kernel_rfl, fun _ _ => by kernel_rfl, fun _ _ => by kernel_rfl⟩ (fun _ _ _ => by kernel_rfl) (fun _ _ => by kernel_rfl) (fun _ _ => by kernel_rfl) (fun _ _ => by kernel_rfl) (fun _ _ => by kernel_rfl) (fun _ _ => by kernel_rfl) ⟨kcast (A := ∀ (φ16 : Nat → Nat) (xs16 : Xs), (.bool ((((rsG (l.take 100)).er : Nat) : Int) != (((rsG (l.take 100)).er : Nat) : Int)) : Value) = .bool false) (by kernel_rfl) (fun φ16 xs16 => congrArg Value.bool (((nat_neq (a := ((rsG (l.take 100)).er)) (b := ((rsG (l.take 100)).er))).trans (decide_eq_false (fun q => q rfl))))), ⟨kcast (A := ∀ (φ16 : Nat → Nat) (xs16 : Xs), (.bool (!((⟨(Ev.textS (rsG (l.take 100)).i (rsG (l.take 100)).v).toArray⟩ : ByteArray).toList == (⟨(Ev.textS (rsG (l.take 100)).i (rsG (l.take 100)).v).toArray⟩ : ByteArray).toList)) : Value) = .bool false) (by kernel_rfl) (fun φ16 xs16 => congrArg Value.bool ((congrArg not (beq_self_eq_true _)))), trivial⟩⟩ trivial (by kernel_rfl) ⟨?c16_5, ?c16_7, ?c16_13, trivial⟩ ?k16
 case c16_5 =>
  refine kcast (A := ∀ (φ16 : Nat → Nat) (xs16 : Xs) (J5_16 : IM), I14.Le J5_16 → Fun Tryz.prog 8 #[.agg #[.bool bi11, .pointer pi11, .int .u64 be11, .pointer pe11]] J5_16 (fun v J' => ∃ x : UX, v = .string ⟨(Ev.textS (rsG (l.take 100)).i (rsG (l.take 100)).v).toArray⟩ ∧ (True))) (by kernel_rfl) ?_
  intro φ16 xs16 J5_16 leJ
  have hT := Ev.Tab.mono leJ hT
  have h11_0 := Ev.TRep.mono leJ h11_0
  have h11_1 := Ev.ERep.mono leJ h11_1
  exact Fun.mono (Ev.stext_c h11_0 h11_1 hT htp hlT hlE) (fun v J' _ h => ⟨UX.d, h, trivial⟩)
 case c16_7 =>
  refine kcast (A := ∀ (φ16 : Nat → Nat) (xs16 : Xs) (J7_16 : IM), I14.Le J7_16 → (True) → Fun Tryz.prog 9 #[.agg #[pB ki14, pB ke14]] J7_16 (fun v J' => ∃ x : UX, v = .string ⟨(Ev.textS (rsG (l.take 100)).i (rsG (l.take 100)).v).toArray⟩ ∧ (True))) (by kernel_rfl) ?_
  intro φ16 xs16 J7_16 leJ
  rintro _
  have h14_0 := Ev.RT.mono leJ h14_0
  have h14_1 := Ev.RE.mono leJ h14_1
  exact Fun.mono (Ev.rstext_c h14_0 h14_1 htp hlT hlE) (fun v J' _ h => ⟨UX.d, h, trivial⟩)
 case c16_13 =>
  refine kcast (A := ∀ (φ16 : Nat → Nat) (xs16 : Xs) (J13_16 : IM), I14.Le J13_16 → (True) → (True) → Fun Tryz.prog 10 #[.slice a8 (List.length (l.take 100)) c8, .slice a5 (List.length (l.take 100)) c5] J13_16 (fun v J' => ∃ x : UX, v = .bool true ∧ (True))) (by kernel_rfl) ?_
  intro φ16 xs16 J13_16 leJ
  rintro _ _
  have h5_0 := BSl.mono leJ h5_0
  have h8_0 := BSl.mono leJ h8_0
  exact Fun.mono (equalT_c h8_0 h5_0 rfl) (fun v J' _ h => ⟨UX.d, h, trivial⟩)
 case k16 =>
  rintro φ16 xs16 I16 w16 le16 s _ _ _
  replace h5_0 := BSl.mono le16 h5_0
  replace h11_0 := Ev.TRep.mono le16 h11_0
  replace h11_1 := Ev.ERep.mono le16 h11_1
  refine cond_false_rule (b := false) (by kernel_rfl) rfl ?_
  refine wp_skip ?_
  refine seqR ?_
  refine oK [(φ12 0, .cells #[.bool bi11, .pointer pi11, .int .u64 be11, .pointer pe11] 33), (φ15 0, .cells #[pB ki14, pB ke14] 40)] [] 3 [] 0 (fun φ17 => [(42, .bool ((((rsG (l.take 100)).er : Nat) : Int) != ((0 : Nat) : Int))), (41, .bool ((((rsG (l.take 100)).er : Nat) : Int) != ((0 : Nat) : Int))), (40, .int .i64 (((rsG (l.take 100)).er : Nat) : Int))]) (fun φ17 => []) s (fun φ17 => by kernel_rfl) ?_
  intro φ17 w17 s
  rw [nat_neq (a := ((rsG (l.take 100)).er)) (b := 0)]
  rcases Bool.eq_false_or_eq_true (decide (((rsG (l.take 100)).er) ≠ 0)) with hc18 | hc18
  ·
   rw [hc18]
   refine oKD _ [] 6 [] 0 (fun φ19 => [(2, .bool true), (47, .bool true), (46, undef), (45, undef), (44, undef), (43, undef)]) (fun φ19 => []) s (fun φ19 => by kernel_rfl) (by kernel_rfl) ?_
   intro φ19 w19 s
   refine wp_ret ?_
   refine ret_rule (C := []) _ [] (.bool true) [] [] s trivial (by kernel_rfl) ?_
   exact ⟨_, _, _, rfl, s, rfl⟩
  ·
   rw [hc18]
   refine oK _ [] 1 [.o 0, .o 0, .o 0, .o 0] 0 (fun φ20 => [(43, .agg #[.bool bi11, .pointer pi11, .int .u64 be11, .pointer pe11])]) (fun φ20 => [φ12 0, φ12 0, φ12 0, φ12 0]) s (fun φ20 => by kernel_rfl) ?_
   intro φ20 w20 s
   refine call_rule (some 44) s (codeStamp_c h11_0 h11_1 htp (rsG_len (Decidable.not_not.1 (of_decide_eq_false hc18)) (by rw [List.length_take]; omega))) (by kernel_rfl) ?_
   intro v21 I21 w21 le21 h21 s
   replace h5_0 := BSl.mono le21 h5_0
   obtain ⟨a21, c21, rfl, h21_0⟩ := h21
   refine oK _ [] 1 [] 0 (fun φ22 => [(45, .slice a5 (List.length (l.take 100)) c5)]) (fun φ22 => []) s (fun φ22 => by kernel_rfl) ?_
   intro φ22 w22 s
   refine call_rule (some 46) s (equalT_c h21_0 h5_0 (rsG_fwd (Decidable.not_not.1 (of_decide_eq_false hc18)))) (by kernel_rfl) ?_
   intro v23 I23 w23 le23 h23 s
   obtain rfl := h23
   refine oKD _ [] 2 [] 0 (fun φ24 => [(2, .bool true), (47, .bool true)]) (fun φ24 => []) s (fun φ24 => by kernel_rfl) (by kernel_rfl) ?_
   intro φ24 w24 s
   refine wp_ret ?_
   refine ret_rule (C := []) _ [] (.bool true) [] [] s trivial (by kernel_rfl) ?_
   exact ⟨_, _, _, rfl, s, rfl⟩

end Go.Proofs.YtgmigcmhnmmdkaaGreatDoor
/- A slice of bytes that came in, as the contracts want it. -/
set_option linter.all false
namespace Go.Proofs.YtgmigcmhnmmdkaaGreatDoor
open Go.RowKit Go.Sep

theorem u8_nat {z : Int} (h : (Lit.int .u8 z).wf = true) : z = (((UInt8.ofNat z.toNat).toNat : Nat) : Int) := by
  have hb : 0 ≤ z ∧ z < 256 := by
    have := h; simp [Lit.wf, IntKind.min, IntKind.max, IntKind.signed, IntKind.bits] at this; omega
  rw [UInt8.toNat_ofNat']
  omega
theorem cell_block {w : World} {b o : Nat} {v : Value} (h : w.cell? ⟨b, o, none⟩ = some v) : ∃ cs T fr, w.heap[b]? = some (.cells cs T fr) ∧ cs[o]? = some v := by
  unfold World.cell? at h
  cases hb : w.heap[b]? with
  | none => simp [hb] at h
  | some ob =>
    cases ob <;> simp [hb] at h
    exact ⟨_, _, _, rfl, h⟩
theorem bslI_row {w : World} {a : Option Addr} {len cap : Nat} {zs : List Int}
    (h : (a = none ∧ len = 0 ∧ cap = 0 ∧ zs = []) ∨ ∃ x, a = some x ∧ len ≤ cap ∧ cap ≤ maxLen ∧ zs.length = cap ∧ (∀ i, i < zs.length → w.cell? (x.add i) = some (.int .u8 (zs.getD i 0))) ∧ ∀ n ∈ zs, (Lit.int .u8 n).wf = true) :
    ∃ l, BSl (fun k => w.heap[k]?) l (.slice a len cap) := by
  rcases h with ⟨rfl, rfl, rfl, rfl⟩ | ⟨x, rfl, hl, hm, hz, hc, hw⟩
  · exact ⟨[], bsl_nil _⟩
  · refine ⟨(zs.take len).map fun z => UInt8.ofNat z.toNat, some x, cap, by rw [List.length_map, List.length_take, Nat.min_eq_left (show len ≤ zs.length by omega)], by rw [List.length_map, List.length_take]; omega, fun j y hj => ?_⟩
    rw [List.getElem?_map, Option.map_eq_some_iff] at hj
    obtain ⟨z, hz1, rfl⟩ := hj
    rw [List.getElem?_take] at hz1
    split at hz1
    · have hjl : j < zs.length := (List.getElem?_eq_some_iff.1 hz1).1
      have h1 := hc j hjl
      have h2 : zs.getD j 0 = z := by simp [hz1]
      rw [h2] at h1
      obtain ⟨b, o, sp⟩ := x
      cases sp with
      | none =>
        have : (⟨b, o, none⟩ : Addr).add j = ⟨b, o + j, none⟩ := by unfold Addr.add; split <;> simp_all
        rw [this] at h1
        obtain ⟨cs, T, fr, e1, e2⟩ := cell_block h1
        refine ⟨b, o, cs, T, fr, rfl, e1, ?_⟩
        rw [← u8_nat (hw z (List.mem_of_getElem? hz1))]; exact e2
      | some sp =>
        exfalso
        have h0 := hc 0 (by omega)
        unfold World.cell? Addr.add at h0
        rw [if_pos rfl] at h0
        revert h0
        split <;> simp
    · cases hz1
end Go.Proofs.YtgmigcmhnmmdkaaGreatDoor
/- What the laid tables give. -/
set_option linter.all false
set_option maxRecDepth 100000
namespace Go.Proofs.YtgmigcmhnmmdkaaGreatDoor
open Go.RowKit Go.Sep
theorem ownKnob_none : ownKnob Tryz.prog.godebug = none := by kernel_rfl
abbrev laidT : List (String × DataW Unit) := Rows.codeReadsRow.laid
theorem tabIs_of_laid {W : World} (h : laidMetH Tryz.prog laidT W) : Lib.TabIs Tryz.prog W "internal/strconv.uint64pow10" .u64 Lib.pow10Tab := by
  rw [MakeChecks.laidMetH_plain _ _ _ (by kernel_rfl)] at h
  have h2 := laidMet.tail (laidMet.tail h)
  exact Lib.tabIs_of_head (g := 0) (t := 137) (n := 20) (e := 28) (by kernel_rfl) (by kernel_rfl) (by kernel_rfl) (by kernel_rfl) (by kernel_rfl) (by kernel_rfl) h2
theorem tab_of_laid {W : World} (h : laidMetH Tryz.prog laidT W) : Ev.Tab (fun k => W.heap[k]?) := fun w hw => by
  have := tabIs_of_laid h
  unfold Lib.TabIs World.var? at this ⊢
  cases hg : Tryz.prog.globalNamed "internal/strconv.uint64pow10" with
  | none => rw [hg] at this; exact this
  | some g =>
    rw [hg] at this
    simp only [Option.bind_some] at this ⊢
    cases ho : W.heap[g]? with
    | none => rw [ho] at this; cases this
    | some o => rw [hw g o ho]; rw [ho] at this; exact this
theorem met_wit (os : Os) (args : Array Value) : laidMetH Tryz.prog laidT ((World.laidAll Tryz.prog os laidT).forCall (fun _ _ => 0) ⟨#[], args, []⟩).memory := by
  rw [MakeChecks.laidMetH_plain _ _ _ (by kernel_rfl)]; exact laidMet_laidAll _ (by kernel_rfl) (by kernel_rfl)
end Go.Proofs.YtgmigcmhnmmdkaaGreatDoor
