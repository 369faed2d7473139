/- A card that is read: the document. -/
import Derived.Test.YtcpmjogeafhpnaaDoorPrM20
set_option linter.all false
set_option maxRecDepth 100000
namespace Go.Proofs.YtcpmjogeafhpnaaDoor
open Go.RowKit Go.Sep
attribute [local irreducible] Go.wpList Go.Code.wp

theorem last_pos {L : List Fe} (h : 0 < L.length) : lastF L = L.getD (L.length - 1) Fe.z := by unfold lastF; rw [if_neg (by omega)]
theorem snoc_ok {L : List Fe} {x : Fe} (h : ∀ j, j < L.length → (L.getD j Fe.z).a.length ≤ 1000000 ∧ (L.getD j Fe.z).v.length ≤ 1000000) (hx : x.a.length ≤ 1000000 ∧ x.v.length ≤ 1000000) : ∀ j, j < (L ++ [x]).length → ((L ++ [x]).getD j Fe.z).a.length ≤ 1000000 ∧ ((L ++ [x]).getD j Fe.z).v.length ≤ 1000000 := fun j hj => by
  rw [List.length_append] at hj
  simp only [List.length_cons, List.length_nil] at hj
  by_cases q : j < L.length
  · have e : (L ++ [x]).getD j Fe.z = L.getD j Fe.z := by simp [List.getD_eq_getElem?_getD, List.getElem?_append_left q]
    rw [e]; exact h j q
  · have : j = L.length := by omega
    subst this
    have e : (L ++ [x]).getD L.length Fe.z = x := by simp
    rw [e]; exact hx

set_option maxHeartbeats 4000000 in
theorem refGetCard_c {I : IM} {P : List UInt8} {a : Option Addr} {k c z9 : Nat} (hl : BSl I P (.slice a k c)) (hn9 : P.length ≤ 1000000) : FunM Tryd.prog 75 #[.pointer (some ⟨z9, 0, none⟩)] I [(z9, .cells #[.slice a k c, .int .i64 ((0 : Nat) : Int), .int .i64 ((0 : Nat) : Int)] 106)] (fun v J H' => ∃ b' : OB, H' = [b'] ∧ b'.1 = z9 ∧ ∃ (Fs : List Fe) (E A : Nat) (a1 : Option Addr) (c1 : Nat), v = .slice a1 Fs.length c1 ∧ b' = (z9, .cells #[.slice a k c, .int .i64 ((A : Nat) : Int), .int .i64 ((E : Nat) : Int)] 106) ∧ A ≤ P.length ∧ gcP (P.drop 0) = (Fs, P.drop A, E) ∧ FSl J Fs (.slice a1 Fs.length c1)) := by
 refine enterM_rule 81 [(0, pB z9)] Tryd.func75 rfl (by kernel_rfl) ?_
 intro w s
 refine seqR ?_
 refine oKD [(z9, .cells #[.slice a k c, .int .i64 0, .int .i64 0] 106)] [] 1 [] 0 (fun φ1 => [(2, .slice none 0 0)]) (fun φ1 => []) s (fun φ1 => by kernel_rfl) (by kernel_rfl) ?_
 intro φ1 w1 s
 refine seqR ?_
 refine oK _ [] 1 [] 0 (fun φ2 => [(9, pB z9)]) (fun φ2 => []) s (fun φ2 => by kernel_rfl) ?_
 intro φ2 w2 s
 refine callB_rule (b := (z9, .cells #[.slice a k c, .int .i64 0, .int .i64 0] 106)) (F := []) (Hr := []) (some 10) 0 s (by kernel_rfl) (by kernel_rfl) (rNumV (z9 := z9) (at0 := 0) (e := 0) hl hn9 (Nat.zero_le _)) (by kernel_rfl) ?_
 rintro v3 I3 w3 b3 le3 - h3 s
 replace hl := BSl.mono le3 hl
 obtain ⟨V3, E3, A3, rfl, rfl, h3_0, h3_1, h3_2, h3_3⟩ := h3
 refine oKD _ [] 1 [] 0 (fun φ4 => [(3, .int .u64 V3)]) (fun φ4 => []) s (fun φ4 => by kernel_rfl) (by kernel_rfl) ?_
 intro φ4 w4 s
 refine wp_seq ?_
 refine seqR ?_
 refine oK _ [] 2 [] 0 (fun φ5 => [(12, .bool (decide (((V3 : Nat) : Int) > ((8 : Nat) : Int)))), (11, .int .u64 V3)]) (fun φ5 => []) s (fun φ5 => by kernel_rfl) ?_
 intro φ5 w5 s
 rw [nat_gtr (a := V3) (b := 8)]
 refine ops_done (by kernel_rfl) ?_
 rcases Bool.eq_false_or_eq_true (decide (8 < V3)) with hc6 | hc6
 ·
  rw [hc6]
  refine cond_true_rule (b := true) (by kernel_rfl) rfl ?_
  refine region_rule ?_
  refine oK _ [] 1 [] 0 (fun φ7 => [(13, pB z9)]) (fun φ7 => []) s (fun φ7 => by kernel_rfl) ?_
  intro φ7 w7 s
  refine callB_rule (b := (z9, .cells #[.slice a k c, .int .i64 A3, .int .i64 E3] 106)) (F := []) (Hr := []) (some 14) 0 s (by kernel_rfl) (by kernel_rfl) (rFailV (z9 := z9) (at0 := A3) (e := E3) hl hn9 h3_3 (q := 8)) (by kernel_rfl) ?_
  rintro v8 I8 w8 b8 le8 - h8 s
  replace hl := BSl.mono le8 hl
  obtain ⟨E8, A8, rfl, rfl, h8_0, h8_1, h8_2⟩ := h8
  refine ops_done (by kernel_rfl) ?_
  refine seqR ?_
  refine oKD _ [] 1 [] 0 (fun φ9 => [(4, .slice none 0 0)]) (fun φ9 => []) s (fun φ9 => by kernel_rfl) (by kernel_rfl) ?_
  intro φ9 w9 s
  refine wp_seq ?_
  refine seqR ?_
  refine oKD _ [] 1 [] 0 (fun φ10 => [(5, .int .u64 0)]) (fun φ10 => []) s (fun φ10 => by kernel_rfl) (by kernel_rfl) ?_
  intro φ10 w10 s
  refine wp_block ?_
  have hd11 := h3_2.trans h8_1
  have hi11 := gd_big h3_0 h3_1 hd11 (dT9 hc6) h8_0
  have hle12 := IM.Le.refl I8
  refine loop_rule (fun (x : Nat × Nat × Nat × Value × List OB × List Fe) => [(0, pB z9), (2, .slice none 0 0), (3, .int .u64 V3), (5, .int .u64 x.1), (4, x.2.2.2.1)]) (fun (x : Nat × Nat × Nat × Value × List OB × List Fe) => [(z9, .cells #[.slice a k c, .int .i64 x.2.1, .int .i64 x.2.2.1] 106)] ++ x.2.2.2.2.1) (fun m (x : Nat × Nat × Nat × Value × List OB × List Fe) J => IM.Le I8 J ∧ x.1 + m = V3 ∧ x.2.1 ≤ P.length ∧ RowH 42 3 x.2.2.2.1 (x.2.2.2.2.2).length (fcs x.2.2.2.2.2) x.2.2.2.2.1 ∧ (x.2.2.2.2.2).length = x.1 ∧ (x.2.2.2.2.2).length ≤ 8 ∧ ((x.2.2.1 = 0 → coG (P.drop 0) 0 8 8 = (V3, 0) ∧ cR V3 Fe.z (P.drop A8) = (x.2.2.2.2.2 ++ (cR m (lastF x.2.2.2.2.2) (P.drop x.2.1)).1, (cR m (lastF x.2.2.2.2.2) (P.drop x.2.1)).2)) ∧ (x.2.2.1 ≠ 0 → gcP (P.drop 0) = ([], P.drop x.2.1, x.2.2.1))) ∧ (∀ j, j < (x.2.2.2.2.2).length → ((x.2.2.2.2.2).getD j Fe.z).a.length ≤ 1000000 ∧ ((x.2.2.2.2.2).getD j Fe.z).v.length ≤ 1000000)) (V3) (0, A8, E8, (.slice none 0 0), [], []) s (by kernel_rfl) (List.Sublist.refl _) ⟨IM.Le.refl _, Nat.zero_add _, h8_2, (RowH.nil 42 3), rfl, Nat.zero_le _, hi11, fun j hj => absurd hj (Nat.not_lt_zero _)⟩ ?_
  rintro m13 ⟨i13, A13, e13, v13, F13, Fs13⟩ I13 w13 ev13 s ⟨le13, hi13_0, hi13_1, hi13_2, hi13_3, hi13_4, hi13_5, hi13_6⟩
  try dsimp only at s hi13_0 hi13_1 hi13_2 hi13_3 hi13_4 hi13_5 hi13_6 ⊢
  replace hl := BSl.mono le13 hl
  replace hle12 := leMono le13 hle12
  have hl9 : Fs13.length ≤ 8 := hi13_4
  have hok9 := hi13_6
  refine wp_seq ?_
  refine seqR ?_
  refine oK _ F13 4 [] 0 (fun φ14 => [(18, .bool (decide (((i13 : Nat) : Int) < ((V3 : Nat) : Int)))), (17, .bool (decide (((i13 : Nat) : Int) < ((V3 : Nat) : Int)))), (16, .int .u64 V3), (15, .int .u64 i13)]) (fun φ14 => []) s (fun φ14 => by kernel_rfl) ?_
  intro φ14 w14 s
  rw [nat_lss (a := i13) (b := V3)]
  rcases Bool.eq_false_or_eq_true (decide (i13 < V3)) with hc15 | hc15
  ·
   rw [hc15]
   refine oK _ F13 6 [.o 0] 0 (fun φ16 => [(24, .bool (((e13 : Nat) : Int) == ((0 : Nat) : Int))), (23, .bool (((e13 : Nat) : Int) == ((0 : Nat) : Int))), (22, .int .i64 e13), (21, .pointer (some ⟨z9, 2, none⟩)), (20, pB z9), (19, pB z9)]) (fun φ16 => [z9]) s (fun φ16 => by kernel_rfl) ?_
   intro φ16 w16 s
   rw [nat_eql (a := e13) (b := 0)]
   refine ops_done (by kernel_rfl) ?_
   rcases Bool.eq_false_or_eq_true (decide (e13 = 0)) with hc17 | hc17
   ·
    rw [hc17]
    refine cond_true_rule (b := true) (by kernel_rfl) rfl ?_
    refine wp_skip ?_
    refine wp_seq ?_
    refine wp_block ?_
    refine seqR ?_
    refine oK _ F13 1 [] 0 (fun φ18 => [(27, pB z9)]) (fun φ18 => []) s (fun φ18 => by kernel_rfl) ?_
    intro φ18 w18 s
    refine callB_rule (b := (z9, .cells #[.slice a k c, .int .i64 A13, .int .i64 e13] 106)) (F := F13) (Hr := []) (some 28) 0 s (by kernel_rfl) (by kernel_rfl) (rByteV (z9 := z9) (at0 := A13) (e := e13) hl hn9 hi13_1) (by kernel_rfl) ?_
    rintro v19 I19 w19 b19 le19 - h19 s
    replace hl := BSl.mono le19 hl
    replace hle12 := leMono le19 hle12
    obtain ⟨V19, E19, A19, rfl, rfl, h19_0, h19_1, h19_2, h19_3⟩ := h19
    refine oKD _ F13 1 [] 0 (fun φ20 => [(6, .int .u8 V19)]) (fun φ20 => []) s (fun φ20 => by kernel_rfl) (by kernel_rfl) ?_
    intro φ20 w20 s
    refine seqR ?_
    refine oK _ F13 1 [] 0 (fun φ21 => [(29, pB z9)]) (fun φ21 => []) s (fun φ21 => by kernel_rfl) ?_
    intro φ21 w21 s
    refine callB_rule (b := (z9, .cells #[.slice a k c, .int .i64 A19, .int .i64 E19] 106)) (F := F13) (Hr := []) (some 30) 0 s (by kernel_rfl) (by kernel_rfl) (rTextV (z9 := z9) (at0 := A19) (e := E19) hl hn9 h19_3 (z := 12) (by decide)) (by kernel_rfl) ?_
    rintro v22 I22 w22 b22 le22 - h22 s
    replace hl := BSl.mono le22 hl
    replace hle12 := leMono le22 hle12
    obtain ⟨S22, E22, A22, rfl, rfl, h22_0, h22_1, h22_2, h22_3⟩ := h22
    refine oKD _ F13 1 [] 0 (fun φ23 => [(7, .string ⟨(S22).toArray⟩)]) (fun φ23 => []) s (fun φ23 => by kernel_rfl) (by kernel_rfl) ?_
    intro φ23 w23 s
    refine seqR ?_
    refine oK _ F13 4 [] 0 (fun φ24 => [(34, pB z9), (33, .string ⟨(S22).toArray⟩), (32, .int .i64 (IntKind.wrap .i64 ((V19 : Nat) : Int))), (31, .int .u8 V19)]) (fun φ24 => []) s (fun φ24 => by kernel_rfl) ?_
    intro φ24 w24 s
    rw [nat_wrapI (a := V19) (by have h9 := byV_lt (P.drop A13) e13; rw [h19_0] at h9; omega)]
    refine callB_rule (b := (z9, .cells #[.slice a k c, .int .i64 A22, .int .i64 E22] 106)) (F := F13) (Hr := []) (some 35) 0 s (by kernel_rfl) (by kernel_rfl) (rTextV (z9 := z9) (at0 := A22) (e := E22) hl hn9 h22_3 (z := 40) (by decide)) (by kernel_rfl) ?_
    rintro v25 I25 w25 b25 le25 - h25 s
    replace hl := BSl.mono le25 hl
    replace hle12 := leMono le25 hle12
    obtain ⟨S25, E25, A25, rfl, rfl, h25_0, h25_1, h25_2, h25_3⟩ := h25
    refine oAD _ F13 3 [.o 1, .o 1, .o 1] 1 (fun φ26 => [(8, pB (φ26 0)), (36, .agg #[.int .i64 V19, .string ⟨(S22).toArray⟩, .string ⟨(S25).toArray⟩])]) (fun φ26 => [(z9, .cells #[.slice a k c, .int .i64 A25, .int .i64 E25] 106), (φ26 0, .cells #[.int .i64 V19, .string ⟨(S22).toArray⟩, .string ⟨(S25).toArray⟩] 42)]) (fun φ26 => [φ26 0, φ26 0, φ26 0]) s (fun φ26 => by kernel_rfl) (by kernel_rfl) ?_
    intro φ26 w26 s
    refine wp_seq ?_
    refine seqR ?_
    refine oK _ F13 5 [.o 0] 0 (fun φ27 => [(41, .bool (((E25 : Nat) : Int) == ((0 : Nat) : Int))), (40, .int .i64 E25), (39, .pointer (some ⟨z9, 2, none⟩)), (38, pB z9), (37, pB z9)]) (fun φ27 => [z9]) s (fun φ27 => by kernel_rfl) ?_
    intro φ27 w27 s
    rw [nat_eql (a := E25) (b := 0)]
    refine ops_done (by kernel_rfl) ?_
    rcases Bool.eq_false_or_eq_true (decide (E25 = 0)) with hc28 | hc28
    ·
     rw [hc28]
     refine cond_true_rule (b := true) (by kernel_rfl) rfl ?_
     refine region_rule ?_
     refine oK _ F13 2 [.o 1, .o 1, .o 1] 0 (fun φ29 => [(43, .agg #[.int .i64 V19, .string ⟨(S22).toArray⟩, .string ⟨(S25).toArray⟩]), (42, pB z9)]) (fun φ29 => [φ26 0, φ26 0, φ26 0]) s (fun φ29 => by kernel_rfl) ?_
     intro φ29 w29 s
     refine call_rule (some 44) s (Tx.refRight_c (z := ((V19 : Nat) : Int)) (A := S22) (B := S25) (by show List.length S22 ≤ 1000000; have t9 := te_short (P.drop A19) E19 ((12 : Nat) : Int); rw [h22_0, List.length_drop] at t9; omega) (by show List.length S25 ≤ 1000000; have t9 := te_short (P.drop A22) E22 ((40 : Nat) : Int); rw [h25_0, List.length_drop] at t9; omega)) (by kernel_rfl) ?_
     intro v30 I30 w30 le30 h30 s
     replace hl := BSl.mono le30 hl
     replace hle12 := leMono le30 hle12
     obtain rfl := h30
     refine oAD _ F13 3 [.o 0] 0 (fun φ31 => [(46, .pointer (some ⟨z9, 2, none⟩)), (45, pB z9)]) (fun φ31 => [(z9, .cells #[.slice a k c, .int .i64 A25, .int .i64 (Tx.rtE ((V19 : Nat) : Int) S22 S25)] 106), (φ26 0, .cells #[.int .i64 V19, .string ⟨(S22).toArray⟩, .string ⟨(S25).toArray⟩] 42)]) (fun φ31 => [z9]) s (fun φ31 => by kernel_rfl) (by kernel_rfl) ?_
     intro φ31 w31 s
     refine wp_seq ?_
     refine wp_seq ?_
     rcases row_cases42 hi13_2 with ⟨hv32, hL32, hF32⟩ | ⟨g32, cap32, cur32, hv32, hF32, hfr32⟩
     ·
      subst hv32
      subst hF32
      have hL9 : Fs13.length = 0 := by rw [hL32]; rfl
      rcases Bool.eq_false_or_eq_true (decide ((Tx.rtE ((V19 : Nat) : Int) S22 S25) = 0)) with hc33 | hc33
      ·
       refine draw_rule (C := []) ⟨(fun φ34 xs34 => [.look 0 [] [], .look 0 [] [], .look 0 [] [], .look 0 [.o 0] [z9], .sub 0 [] [] (.bool (((Tx.rtE ((V19 : Nat) : Int) S22 S25 : Nat) : Int) == ((0 : Nat) : Int))), .look 0 [] [], .look 0 [] [], .look 0 [] [], .look 0 [] [], .look 0 [] [], .look 0 [] [], .skip, .skip, .skip, .skip, .skip, .skip, .skip, .skip, .skip, .look 0 [] []]), (fun φ34 xs34 => [pB z9, pB z9, .pointer (some ⟨z9, 2, none⟩), .int .i64 (Tx.rtE ((V19 : Nat) : Int) S22 S25), .bool true, .bool true, .slice none 0 0, .int .i64 0, .bool false, .bool false, .bool false, undef, undef, undef, undef, undef, undef, undef, undef, undef, .bool false]), (fun φ34 xs34 => [[(z9, .cells #[.slice a k c, .int .i64 A25, .int .i64 (Tx.rtE ((V19 : Nat) : Int) S22 S25)] 106), (φ26 0, .cells #[.int .i64 V19, .string ⟨(S22).toArray⟩, .string ⟨(S25).toArray⟩] 42)]]), (fun φ34 xs34 => [[default, default, default, default, default, default, default, default, default, default, default, default, default, default, default, default, default, default, default, default, default]]), [], [1, 1, 1, 1, 5, 1, 1, 1, 1, 1, 1, 0, 0, 0, 0, 0, 0, 0, 0, 0, 1]⟩ (fun j => ([MP.any] : List MP).getD j MP.any) [] [4] [] (fun φ34 xs34 => []) (fun φ34 xs34 => [(47, pB z9), (48, pB z9), (49, .pointer (some ⟨z9, 2, none⟩)), (50, .int .i64 (Tx.rtE ((V19 : Nat) : Int) S22 S25)), (51, .bool true), (52, .bool true), (53, .slice none 0 0), (54, .int .i64 0), (55, .bool false), (56, .bool false), (57, .bool false), (58, undef), (59, undef), (60, undef), (61, undef), (62, undef), (63, undef), (64, undef), (65, undef), (66, undef), (67, .bool false)]) (fun φ34 xs34 => [(z9, .cells #[.slice a k c, .int .i64 A25, .int .i64 (Tx.rtE ((V19 : Nat) : Int) S22 S25)] 106), (φ26 0, .cells #[.int .i64 V19, .string ⟨(S22).toArray⟩, .string ⟨(S25).toArray⟩] 42)]) s trivial (by kernel_rfl) (by kernel_rfl) (fun _ _ => by kernel_rfl) (fun _ _ => by kernel_rfl) ⟨fun _ _ => by kernel_rfl, fun _ _ => by kernel_rfl, fun _ _ => by kernel_rfl, fun _ _ => by kernel_rfl⟩ (fun _ _ _ => by kernel_rfl) (fun _ _ => by kernel_rfl) (fun _ _ => by kernel_rfl) (fun _ _ => by kernel_rfl) (fun _ _ => by kernel_rfl) (fun _ _ => by kernel_rfl) ⟨kcast (A := ∀ (φ34 : Nat → Nat) (xs34 : Xs), (.bool (((Tx.rtE ((V19 : Nat) : Int) S22 S25 : Nat) : Int) == ((0 : Nat) : Int)) : Value) = .bool true) (by kernel_rfl) (fun φ34 xs34 => congrArg Value.bool ((nat_eql (a := (Tx.rtE ((V19 : Nat) : Int) S22 S25)) (b := 0)).trans (hc33))), trivial⟩ trivial (by kernel_rfl) trivial ?k34
       case k34 =>
        rintro φ34 xs34 I34 w34 le34 s 
        replace hl := BSl.mono le34 hl
        replace hle12 := leMono le34 hle12
        refine cond_false_rule (b := false) (by kernel_rfl) rfl ?_
        refine wp_skip ?_
        refine region_rule ?_
        refine oA [(z9, .cells #[.slice a k c, .int .i64 A25, .int .i64 (Tx.rtE ((V19 : Nat) : Int) S22 S25)] 106), (φ26 0, .cells #[.int .i64 V19, .string ⟨(S22).toArray⟩, .string ⟨(S25).toArray⟩] 42)] [] 3 [.o 1, .o 1, .o 1] 1 (fun φ35 => [(73, .slice (some ⟨(φ35 0), 0, none⟩) 1 1), (72, .agg #[.int .i64 V19, .string ⟨(S22).toArray⟩, .string ⟨(S25).toArray⟩]), (71, .slice none 0 0)]) (fun φ35 => [(z9, .cells #[.slice a k c, .int .i64 A25, .int .i64 (Tx.rtE ((V19 : Nat) : Int) S22 S25)] 106), (φ26 0, .cells #[.int .i64 V19, .string ⟨(S22).toArray⟩, .string ⟨(S25).toArray⟩] 42), (φ35 0, .cells #[.int .i64 V19, .string ⟨(S22).toArray⟩, .string ⟨(S25).toArray⟩] 42)]) (fun φ35 => [φ26 0, φ26 0, φ26 0]) s (fun φ35 => by kernel_rfl) ?_
        intro φ35 w35 s
        refine append_rule (H := [(z9, .cells #[.slice a k c, .int .i64 A25, .int .i64 (Tx.rtE ((V19 : Nat) : Int) S22 S25)] 106), (φ26 0, .cells #[.int .i64 V19, .string ⟨(S22).toArray⟩, .string ⟨(S25).toArray⟩] 42), (φ35 0, .cells #[.int .i64 V19, .string ⟨(S22).toArray⟩, .string ⟨(S25).toArray⟩] 42)]) (F := []) 30 30 42 Tryd.t42 (.agg #[.int .i64 0, .string ⟨#[]⟩, .string ⟨#[]⟩]) 3 40 (some 74) s Tryd.underlying30 (by kernel_rfl) (by kernel_rfl) (by kernel_rfl) (by kernel_rfl) (by kernel_rfl) (by decide) hi13_2 (src_own s 2 (φ35 0) #[.int .i64 V19, .string ⟨(S22).toArray⟩, .string ⟨(S25).toArray⟩] 42 30 42 1 1 3 [.int .i64 V19, .string ⟨(S22).toArray⟩, .string ⟨(S25).toArray⟩] (by kernel_rfl) Tryd.underlying30 (by kernel_rfl) (by kernel_rfl) (by kernel_rfl)) (by simp only [maxLen]; omega) (by omega) (by kernel_rfl) ?_
        intro v36 w36 F36 s h36
        refine oKD _ F36 1 [] 0 (fun φ37 => [(4, v36)]) (fun φ37 => []) s (fun φ37 => by kernel_rfl) (by kernel_rfl) ?_
        intro φ37 w37 s
        refine region_rule ?_
        refine oK _ F36 3 [] 0 (fun φ38 => [(5, .int .u64 (IntKind.wrap .u64 (((i13 : Nat) : Int) + ((1 : Nat) : Int)))), (26, .int .u64 (IntKind.wrap .u64 (((i13 : Nat) : Int) + ((1 : Nat) : Int)))), (25, .int .u64 i13)]) (fun φ38 => []) s (fun φ38 => by kernel_rfl) ?_
        intro φ38 w38 s
        rw [nat_addU (a := i13) (b := 1) (by have e9 := hi13_3; have e8 := hi13_0; have e6 := hL9; have hq0 := dT9 hc6; have hq1 := dT9 hc15; have hq2 := dT9 hc17; have hq3 := dT9 hc28; have hq4 := dT9 hc33; omega)]
        refine ops_done (by kernel_rfl) ?_
        have hf9 := fd_of (dT9 hc17) h19_0 h19_1 h19_2 h22_0 h22_1 h22_2 h25_0 h25_1 h25_2
        have hq9 := gd_next (x := Tx.rtE ((V19 : Nat) : Int) S22 S25) (dT9 hc17) hi13_5.1 hd11 (by have hq0 := dT9 hc6; have hq1 := dT9 hc15; have hq2 := dT9 hc17; have hq3 := dT9 hc28; have hq4 := dT9 hc33; have := hi13_0; omega) hf9 (.inr (.inr (.inr ⟨dT9 hc28, dT9 hc33, les_first (by have hq0 := dT9 hc6; have hq1 := dT9 hc15; have hq2 := dT9 hc17; have hq3 := dT9 hc28; have hq4 := dT9 hc33; (try simp only [List.length_nil]); omega) (dT9 hc33), dT9 hc33⟩)))
        exact ⟨⟨m13 - 1, (i13 + 1, A25, Tx.rtE ((V19 : Nat) : Int) S22 S25, v36, F36, (Fs13 ++ [(⟨((V19 : Nat) : Int), S22, S25⟩ : Fe)])), _, _, _, by have hq0 := dT9 hc6; have hq1 := dT9 hc15; have hq2 := dT9 hc17; have hq3 := dT9 hc28; have hq4 := dT9 hc33; have := hi13_0; omega, rfl, s, (List.Sublist.append (List.Sublist.cons₂ _ (List.Sublist.cons _ (List.Sublist.cons _ List.Sublist.slnil))) (List.Sublist.refl _)), by kernel_rfl, hle12, by have hq0 := dT9 hc6; have hq1 := dT9 hc15; have hq2 := dT9 hc17; have hq3 := dT9 hc28; have hq4 := dT9 hc33; have := hi13_0; show i13 + 1 + (m13 - 1) = V3; omega, h25_3, row42_snoc h36 rfl, by have := hi13_3; show (Fs13 ++ [(⟨((V19 : Nat) : Int), S22, S25⟩ : Fe)]).length = i13 + 1; rw [List.length_append, this]; rfl, by have hq0 := dT9 hc6; have hq1 := dT9 hc15; have hq2 := dT9 hc17; have hq3 := dT9 hc28; have hq4 := dT9 hc33; have h9 := ((hi13_5).1 (dT9 hc17)).1; have h8 := (co8 h9).1; have h7 := hi13_3; have h6 := hi13_0; show (Fs13 ++ [(⟨((V19 : Nat) : Int), S22, S25⟩ : Fe)]).length ≤ 8; rw [List.length_append]; simp only [List.length_cons, List.length_nil] at h7 ⊢; omega, hq9, snoc_ok hi13_6 ⟨(by show List.length S22 ≤ 1000000; have t9 := te_short (P.drop A19) E19 ((12 : Nat) : Int); rw [h22_0, List.length_drop] at t9; omega), (by show List.length S25 ≤ 1000000; have t9 := te_short (P.drop A22) E22 ((40 : Nat) : Int); rw [h25_0, List.length_drop] at t9; omega)⟩⟩⟩
      ·
       refine draw_rule (C := []) ⟨(fun φ39 xs39 => [.look 0 [] [], .look 0 [] [], .look 0 [] [], .look 0 [.o 0] [z9], .sub 0 [] [] (.bool (((Tx.rtE ((V19 : Nat) : Int) S22 S25 : Nat) : Int) == ((0 : Nat) : Int))), .look 0 [] [], .skip, .skip, .skip, .look 0 [] [], .look 0 [] [], .skip, .skip, .skip, .skip, .skip, .skip, .skip, .skip, .skip, .look 0 [] []]), (fun φ39 xs39 => [pB z9, pB z9, .pointer (some ⟨z9, 2, none⟩), .int .i64 (Tx.rtE ((V19 : Nat) : Int) S22 S25), .bool false, .bool false, undef, undef, undef, .bool false, .bool false, undef, undef, undef, undef, undef, undef, undef, undef, undef, .bool false]), (fun φ39 xs39 => [[(z9, .cells #[.slice a k c, .int .i64 A25, .int .i64 (Tx.rtE ((V19 : Nat) : Int) S22 S25)] 106), (φ26 0, .cells #[.int .i64 V19, .string ⟨(S22).toArray⟩, .string ⟨(S25).toArray⟩] 42)]]), (fun φ39 xs39 => [[default, default, default, default, default, default, default, default, default, default, default, default, default, default, default, default, default, default, default, default, default]]), [], [1, 1, 1, 1, 5, 1, 0, 0, 0, 1, 1, 0, 0, 0, 0, 0, 0, 0, 0, 0, 1]⟩ (fun j => ([MP.any] : List MP).getD j MP.any) [] [4] [] (fun φ39 xs39 => []) (fun φ39 xs39 => [(47, pB z9), (48, pB z9), (49, .pointer (some ⟨z9, 2, none⟩)), (50, .int .i64 (Tx.rtE ((V19 : Nat) : Int) S22 S25)), (51, .bool false), (52, .bool false), (53, undef), (54, undef), (55, undef), (56, .bool false), (57, .bool false), (58, undef), (59, undef), (60, undef), (61, undef), (62, undef), (63, undef), (64, undef), (65, undef), (66, undef), (67, .bool false)]) (fun φ39 xs39 => [(z9, .cells #[.slice a k c, .int .i64 A25, .int .i64 (Tx.rtE ((V19 : Nat) : Int) S22 S25)] 106), (φ26 0, .cells #[.int .i64 V19, .string ⟨(S22).toArray⟩, .string ⟨(S25).toArray⟩] 42)]) s trivial (by kernel_rfl) (by kernel_rfl) (fun _ _ => by kernel_rfl) (fun _ _ => by kernel_rfl) ⟨fun _ _ => by kernel_rfl, fun _ _ => by kernel_rfl, fun _ _ => by kernel_rfl, fun _ _ => by kernel_rfl⟩ (fun _ _ _ => by kernel_rfl) (fun _ _ => by kernel_rfl) (fun _ _ => by kernel_rfl) (fun _ _ => by kernel_rfl) (fun _ _ => by kernel_rfl) (fun _ _ => by kernel_rfl) ⟨kcast (A := ∀ (φ39 : Nat → Nat) (xs39 : Xs), (.bool (((Tx.rtE ((V19 : Nat) : Int) S22 S25 : Nat) : Int) == ((0 : Nat) : Int)) : Value) = .bool false) (by kernel_rfl) (fun φ39 xs39 => congrArg Value.bool ((nat_eql (a := (Tx.rtE ((V19 : Nat) : Int) S22 S25)) (b := 0)).trans (hc33))), trivial⟩ trivial (by kernel_rfl) trivial ?k39
       case k39 =>
        rintro φ39 xs39 I39 w39 le39 s 
        replace hl := BSl.mono le39 hl
        replace hle12 := leMono le39 hle12
        refine cond_false_rule (b := false) (by kernel_rfl) rfl ?_
        refine wp_skip ?_
        refine region_rule ?_
        refine oA [(z9, .cells #[.slice a k c, .int .i64 A25, .int .i64 (Tx.rtE ((V19 : Nat) : Int) S22 S25)] 106), (φ26 0, .cells #[.int .i64 V19, .string ⟨(S22).toArray⟩, .string ⟨(S25).toArray⟩] 42)] [] 3 [.o 1, .o 1, .o 1] 1 (fun φ40 => [(73, .slice (some ⟨(φ40 0), 0, none⟩) 1 1), (72, .agg #[.int .i64 V19, .string ⟨(S22).toArray⟩, .string ⟨(S25).toArray⟩]), (71, .slice none 0 0)]) (fun φ40 => [(z9, .cells #[.slice a k c, .int .i64 A25, .int .i64 (Tx.rtE ((V19 : Nat) : Int) S22 S25)] 106), (φ26 0, .cells #[.int .i64 V19, .string ⟨(S22).toArray⟩, .string ⟨(S25).toArray⟩] 42), (φ40 0, .cells #[.int .i64 V19, .string ⟨(S22).toArray⟩, .string ⟨(S25).toArray⟩] 42)]) (fun φ40 => [φ26 0, φ26 0, φ26 0]) s (fun φ40 => by kernel_rfl) ?_
        intro φ40 w40 s
        refine append_rule (H := [(z9, .cells #[.slice a k c, .int .i64 A25, .int .i64 (Tx.rtE ((V19 : Nat) : Int) S22 S25)] 106), (φ26 0, .cells #[.int .i64 V19, .string ⟨(S22).toArray⟩, .string ⟨(S25).toArray⟩] 42), (φ40 0, .cells #[.int .i64 V19, .string ⟨(S22).toArray⟩, .string ⟨(S25).toArray⟩] 42)]) (F := []) 30 30 42 Tryd.t42 (.agg #[.int .i64 0, .string ⟨#[]⟩, .string ⟨#[]⟩]) 3 40 (some 74) s Tryd.underlying30 (by kernel_rfl) (by kernel_rfl) (by kernel_rfl) (by kernel_rfl) (by kernel_rfl) (by decide) hi13_2 (src_own s 2 (φ40 0) #[.int .i64 V19, .string ⟨(S22).toArray⟩, .string ⟨(S25).toArray⟩] 42 30 42 1 1 3 [.int .i64 V19, .string ⟨(S22).toArray⟩, .string ⟨(S25).toArray⟩] (by kernel_rfl) Tryd.underlying30 (by kernel_rfl) (by kernel_rfl) (by kernel_rfl)) (by simp only [maxLen]; omega) (by omega) (by kernel_rfl) ?_
        intro v41 w41 F41 s h41
        refine oKD _ F41 1 [] 0 (fun φ42 => [(4, v41)]) (fun φ42 => []) s (fun φ42 => by kernel_rfl) (by kernel_rfl) ?_
        intro φ42 w42 s
        refine region_rule ?_
        refine oK _ F41 3 [] 0 (fun φ43 => [(5, .int .u64 (IntKind.wrap .u64 (((i13 : Nat) : Int) + ((1 : Nat) : Int)))), (26, .int .u64 (IntKind.wrap .u64 (((i13 : Nat) : Int) + ((1 : Nat) : Int)))), (25, .int .u64 i13)]) (fun φ43 => []) s (fun φ43 => by kernel_rfl) ?_
        intro φ43 w43 s
        rw [nat_addU (a := i13) (b := 1) (by have e9 := hi13_3; have e8 := hi13_0; have e6 := hL9; have hq0 := dT9 hc6; have hq1 := dT9 hc15; have hq2 := dT9 hc17; have hq3 := dT9 hc28; have hq4 := dF9 hc33; omega)]
        refine ops_done (by kernel_rfl) ?_
        have hf9 := fd_of (dT9 hc17) h19_0 h19_1 h19_2 h22_0 h22_1 h22_2 h25_0 h25_1 h25_2
        have hq9 := gd_next (x := Tx.rtE ((V19 : Nat) : Int) S22 S25) (dT9 hc17) hi13_5.1 hd11 (by have hq0 := dT9 hc6; have hq1 := dT9 hc15; have hq2 := dT9 hc17; have hq3 := dT9 hc28; have hq4 := dF9 hc33; have := hi13_0; omega) hf9 (.inr (.inl ⟨dT9 hc28, dF9 hc33, rfl⟩))
        exact ⟨⟨m13 - 1, (i13 + 1, A25, Tx.rtE ((V19 : Nat) : Int) S22 S25, v41, F41, (Fs13 ++ [(⟨((V19 : Nat) : Int), S22, S25⟩ : Fe)])), _, _, _, by have hq0 := dT9 hc6; have hq1 := dT9 hc15; have hq2 := dT9 hc17; have hq3 := dT9 hc28; have hq4 := dF9 hc33; have := hi13_0; omega, rfl, s, (List.Sublist.append (List.Sublist.cons₂ _ (List.Sublist.cons _ (List.Sublist.cons _ List.Sublist.slnil))) (List.Sublist.refl _)), by kernel_rfl, hle12, by have hq0 := dT9 hc6; have hq1 := dT9 hc15; have hq2 := dT9 hc17; have hq3 := dT9 hc28; have hq4 := dF9 hc33; have := hi13_0; show i13 + 1 + (m13 - 1) = V3; omega, h25_3, row42_snoc h41 rfl, by have := hi13_3; show (Fs13 ++ [(⟨((V19 : Nat) : Int), S22, S25⟩ : Fe)]).length = i13 + 1; rw [List.length_append, this]; rfl, by have hq0 := dT9 hc6; have hq1 := dT9 hc15; have hq2 := dT9 hc17; have hq3 := dT9 hc28; have hq4 := dF9 hc33; have h9 := ((hi13_5).1 (dT9 hc17)).1; have h8 := (co8 h9).1; have h7 := hi13_3; have h6 := hi13_0; show (Fs13 ++ [(⟨((V19 : Nat) : Int), S22, S25⟩ : Fe)]).length ≤ 8; rw [List.length_append]; simp only [List.length_cons, List.length_nil] at h7 ⊢; omega, hq9, snoc_ok hi13_6 ⟨(by show List.length S22 ≤ 1000000; have t9 := te_short (P.drop A19) E19 ((12 : Nat) : Int); rw [h22_0, List.length_drop] at t9; omega), (by show List.length S25 ≤ 1000000; have t9 := te_short (P.drop A22) E22 ((40 : Nat) : Int); rw [h25_0, List.length_drop] at t9; omega)⟩⟩⟩
     ·
      subst hv32
      subst hF32
      rcases Bool.eq_false_or_eq_true (decide ((Tx.rtE ((V19 : Nat) : Int) S22 S25) = 0)) with hc46 | hc46
      ·
       rcases Bool.eq_false_or_eq_true (decide (0 < Fs13.length)) with hc49 | hc49
       ·
        have hz50 := St.none0 s (g := g32) (o := .cells cur32 42) (by simp)
        have hT50 := IM.Le.refl I30
        have hlK50 := hl
        have hle12K50 := hle12
        obtain ⟨I51, le51, hk51, s⟩ := s.freezeAt 2 g32 (.cells cur32 42) [(z9, .cells #[.slice a k c, .int .i64 ((A25 : Nat) : Int), .int .i64 ((Tx.rtE ((V19 : Nat) : Int) S22 S25 : Nat) : Int)] 106), ((φ26 0), .cells #[.int .i64 ((V19 : Nat) : Int), .string ⟨(S22).toArray⟩, .string ⟨(S25).toArray⟩] 42)] (by kernel_rfl) (by kernel_rfl)
        replace hl := BSl.mono le51 hl
        replace hle12 := leMono le51 hle12
        replace hT50 := leMono le51 hT50
        have hfs50 := hfr32 _ hk51
        refine draw_rule (C := []) ⟨(fun φ52 xs52 => [.look 0 [] [], .look 0 [] [], .look 0 [] [], .look 0 [.o 0] [z9], .sub 0 [] [] (.bool (((Tx.rtE ((V19 : Nat) : Int) S22 S25 : Nat) : Int) == ((0 : Nat) : Int))), .look 0 [] [], .look 0 [] [], .look 0 [] [], .sub 0 [] [] (.bool (decide (((Fs13.length : Nat) : Int) > ((0 : Nat) : Int)))), .look 0 [] [], .look 0 [] [], .look 0 [] [], .look 0 [] [], .look 0 [] [], .sub 0 [] [] (.int .i64 (IntKind.wrap .i64 (((Fs13.length : Nat) : Int) - ((1 : Nat) : Int)))), .ran (Instr.indexAt 30 (.slice (some ⟨g32, 0, none⟩) Fs13.length cap32) (.int .i64 ((Fs13.length - 1 : Nat) : Int))), .ran (Instr.loadAt 42 (.pointer (pAt (some ⟨g32, 0, none⟩) ((Fs13.length - 1) * 3)))), .look 0 [.o 1, .o 1, .o 1] [φ26 0, φ26 0, φ26 0], .call 35 #[.agg #[.int .i64 ((List.getD Fs13 (Fs13.length - 1) Fe.z).k), .string ⟨((List.getD Fs13 (Fs13.length - 1) Fe.z).a).toArray⟩, .string ⟨((List.getD Fs13 (Fs13.length - 1) Fe.z).v).toArray⟩], .agg #[.int .i64 V19, .string ⟨(S22).toArray⟩, .string ⟨(S25).toArray⟩]], .look 0 [] [], .look 0 [] []]), (fun φ52 xs52 => [pB z9, pB z9, .pointer (some ⟨z9, 2, none⟩), .int .i64 (Tx.rtE ((V19 : Nat) : Int) S22 S25), .bool true, .bool true, .slice (some ⟨g32, 0, none⟩) Fs13.length cap32, .int .i64 Fs13.length, .bool true, .bool true, .bool true, .slice (some ⟨g32, 0, none⟩) Fs13.length cap32, .slice (some ⟨g32, 0, none⟩) Fs13.length cap32, .int .i64 Fs13.length, .int .i64 ((Fs13.length - 1 : Nat) : Int), .pointer (pAt (some ⟨g32, 0, none⟩) ((Fs13.length - 1) * 3)), .agg #[.int .i64 ((List.getD Fs13 (Fs13.length - 1) Fe.z).k), .string ⟨((List.getD Fs13 (Fs13.length - 1) Fe.z).a).toArray⟩, .string ⟨((List.getD Fs13 (Fs13.length - 1) Fe.z).v).toArray⟩], .agg #[.int .i64 V19, .string ⟨(S22).toArray⟩, .string ⟨(S25).toArray⟩], .bool (Tx.lesF ((List.getD Fs13 (Fs13.length - 1) Fe.z).k) ((List.getD Fs13 (Fs13.length - 1) Fe.z).a) ((List.getD Fs13 (Fs13.length - 1) Fe.z).v) ((V19 : Nat) : Int) S22 S25), .bool (!(Tx.lesF ((List.getD Fs13 (Fs13.length - 1) Fe.z).k) ((List.getD Fs13 (Fs13.length - 1) Fe.z).a) ((List.getD Fs13 (Fs13.length - 1) Fe.z).v) ((V19 : Nat) : Int) S22 S25)), .bool (!(Tx.lesF ((List.getD Fs13 (Fs13.length - 1) Fe.z).k) ((List.getD Fs13 (Fs13.length - 1) Fe.z).a) ((List.getD Fs13 (Fs13.length - 1) Fe.z).v) ((V19 : Nat) : Int) S22 S25))]), (fun φ52 xs52 => [[(z9, .cells #[.slice a k c, .int .i64 A25, .int .i64 (Tx.rtE ((V19 : Nat) : Int) S22 S25)] 106), (φ26 0, .cells #[.int .i64 V19, .string ⟨(S22).toArray⟩, .string ⟨(S25).toArray⟩] 42)]]), (fun φ52 xs52 => [[default, default, default, default, default, default, default, default, default, default, default, default, default, default, default, default, default, default, default, default, default]]), [], [1, 1, 1, 1, 5, 1, 1, 1, 5, 1, 1, 1, 1, 1, 5, 6, 6, 1, 3, 1, 1]⟩ (fun j => ([MP.any] : List MP).getD j MP.any) [18] [4, 8, 14] [15, 16] (fun φ52 xs52 => []) (fun φ52 xs52 => [(47, pB z9), (48, pB z9), (49, .pointer (some ⟨z9, 2, none⟩)), (50, .int .i64 (Tx.rtE ((V19 : Nat) : Int) S22 S25)), (51, .bool true), (52, .bool true), (53, .slice (some ⟨g32, 0, none⟩) Fs13.length cap32), (54, .int .i64 Fs13.length), (55, .bool true), (56, .bool true), (57, .bool true), (58, .slice (some ⟨g32, 0, none⟩) Fs13.length cap32), (59, .slice (some ⟨g32, 0, none⟩) Fs13.length cap32), (60, .int .i64 Fs13.length), (61, .int .i64 ((Fs13.length - 1 : Nat) : Int)), (62, .pointer (pAt (some ⟨g32, 0, none⟩) ((Fs13.length - 1) * 3))), (63, .agg #[.int .i64 ((List.getD Fs13 (Fs13.length - 1) Fe.z).k), .string ⟨((List.getD Fs13 (Fs13.length - 1) Fe.z).a).toArray⟩, .string ⟨((List.getD Fs13 (Fs13.length - 1) Fe.z).v).toArray⟩]), (64, .agg #[.int .i64 V19, .string ⟨(S22).toArray⟩, .string ⟨(S25).toArray⟩]), (65, .bool (Tx.lesF ((List.getD Fs13 (Fs13.length - 1) Fe.z).k) ((List.getD Fs13 (Fs13.length - 1) Fe.z).a) ((List.getD Fs13 (Fs13.length - 1) Fe.z).v) ((V19 : Nat) : Int) S22 S25)), (66, .bool (!(Tx.lesF ((List.getD Fs13 (Fs13.length - 1) Fe.z).k) ((List.getD Fs13 (Fs13.length - 1) Fe.z).a) ((List.getD Fs13 (Fs13.length - 1) Fe.z).v) ((V19 : Nat) : Int) S22 S25))), (67, .bool (!(Tx.lesF ((List.getD Fs13 (Fs13.length - 1) Fe.z).k) ((List.getD Fs13 (Fs13.length - 1) Fe.z).a) ((List.getD Fs13 (Fs13.length - 1) Fe.z).v) ((V19 : Nat) : Int) S22 S25)))]) (fun φ52 xs52 => [(z9, .cells #[.slice a k c, .int .i64 A25, .int .i64 (Tx.rtE ((V19 : Nat) : Int) S22 S25)] 106), (φ26 0, .cells #[.int .i64 V19, .string ⟨(S22).toArray⟩, .string ⟨(S25).toArray⟩] 42)]) s trivial (by kernel_rfl) (by kernel_rfl) (fun _ _ => by kernel_rfl) (fun _ _ => by kernel_rfl) ⟨fun _ _ => by kernel_rfl, fun _ _ => by kernel_rfl, fun _ _ => by kernel_rfl, fun _ _ => by kernel_rfl⟩ (fun _ _ _ => by kernel_rfl) (fun _ _ => by kernel_rfl) (fun _ _ => by kernel_rfl) (fun _ _ => by kernel_rfl) (fun _ _ => by kernel_rfl) (fun _ _ => by kernel_rfl) ⟨kcast (A := ∀ (φ52 : Nat → Nat) (xs52 : Xs), (.bool (((Tx.rtE ((V19 : Nat) : Int) S22 S25 : Nat) : Int) == ((0 : Nat) : Int)) : Value) = .bool true) (by kernel_rfl) (fun φ52 xs52 => congrArg Value.bool ((nat_eql (a := (Tx.rtE ((V19 : Nat) : Int) S22 S25)) (b := 0)).trans (hc46))), ⟨kcast (A := ∀ (φ52 : Nat → Nat) (xs52 : Xs), (.bool (decide (((Fs13.length : Nat) : Int) > ((0 : Nat) : Int))) : Value) = .bool true) (by kernel_rfl) (fun φ52 xs52 => congrArg Value.bool ((nat_gtr (a := Fs13.length) (b := 0)).trans (hc49))), ⟨kcast (A := ∀ (φ52 : Nat → Nat) (xs52 : Xs), (.int .i64 (IntKind.wrap .i64 (((Fs13.length : Nat) : Int) - ((1 : Nat) : Int))) : Value) = .int .i64 ((Fs13.length - 1 : Nat) : Int)) (by kernel_rfl) (fun φ52 xs52 => congrArg (Value.int .i64) ((nat_subI (a := Fs13.length) (b := 1) (by have e9 := hi13_3; have e8 := hi13_0; have hq0 := dT9 hc6; have hq1 := dT9 hc15; have hq2 := dT9 hc17; have hq3 := dT9 hc28; have hq4 := dT9 hc46; have hq5 := dT9 hc49; (try simp only [List.length_drop, List.length_take, List.length_append, List.length_cons, List.length_nil]); omega) (by have e9 := hi13_3; have e8 := hi13_0; have hq0 := dT9 hc6; have hq1 := dT9 hc15; have hq2 := dT9 hc17; have hq3 := dT9 hc28; have hq4 := dT9 hc46; have hq5 := dT9 hc49; (try simp only [List.length_drop, List.length_take, List.length_append, List.length_cons, List.length_nil]); omega)))), trivial⟩⟩⟩ ⟨kcast (A := ∀ (φ52 : Nat → Nat) (xs52 : Xs) (J : IM) (w : World), I51.Le J → J.Sub w → ((Instr.indexAt 30 (.slice (some ⟨g32, 0, none⟩) Fs13.length cap32) (.int .i64 ((Fs13.length - 1 : Nat) : Int))) : Sem Value).run Tryd.prog w = .ok (.pointer (pAt (some ⟨g32, 0, none⟩) ((Fs13.length - 1) * 3))) w) (by kernel_rfl) (fun φ52 xs52 J w hJ hS => fsl_idx30 (FSl.mono hJ hfs50) (by have e9 := hi13_3; have e8 := hi13_0; have hq0 := dT9 hc6; have hq1 := dT9 hc15; have hq2 := dT9 hc17; have hq3 := dT9 hc28; have hq4 := dT9 hc46; have hq5 := dT9 hc49; (try simp only [List.length_drop, List.length_take, List.length_append, List.length_cons, List.length_nil]); omega)), ⟨kcast (A := ∀ (φ52 : Nat → Nat) (xs52 : Xs) (J : IM) (w : World), I51.Le J → J.Sub w → ((Instr.loadAt 42 (.pointer (pAt (some ⟨g32, 0, none⟩) ((Fs13.length - 1) * 3)))) : Sem Value).run Tryd.prog w = .ok (.agg #[.int .i64 ((List.getD Fs13 (Fs13.length - 1) Fe.z).k), .string ⟨((List.getD Fs13 (Fs13.length - 1) Fe.z).a).toArray⟩, .string ⟨((List.getD Fs13 (Fs13.length - 1) Fe.z).v).toArray⟩]) w) (by kernel_rfl) (fun φ52 xs52 J w hJ hS => fsl_ld42 hS (FSl.mono hJ hfs50) (by have e9 := hi13_3; have e8 := hi13_0; have hq0 := dT9 hc6; have hq1 := dT9 hc15; have hq2 := dT9 hc17; have hq3 := dT9 hc28; have hq4 := dT9 hc46; have hq5 := dT9 hc49; (try simp only [List.length_drop, List.length_take, List.length_append, List.length_cons, List.length_nil]); omega)), trivial⟩⟩ (by kernel_rfl) ⟨?c52_18, trivial⟩ ?k52
        case c52_18 =>
         refine kcast (A := ∀ (φ52 : Nat → Nat) (xs52 : Xs) (J18_52 : IM), I51.Le J18_52 → Fun Tryd.prog 35 #[.agg #[.int .i64 ((List.getD Fs13 (Fs13.length - 1) Fe.z).k), .string ⟨((List.getD Fs13 (Fs13.length - 1) Fe.z).a).toArray⟩, .string ⟨((List.getD Fs13 (Fs13.length - 1) Fe.z).v).toArray⟩], .agg #[.int .i64 V19, .string ⟨(S22).toArray⟩, .string ⟨(S25).toArray⟩]] J18_52 (fun v J' => ∃ x : UX, v = .bool (Tx.lesF ((List.getD Fs13 (Fs13.length - 1) Fe.z).k) ((List.getD Fs13 (Fs13.length - 1) Fe.z).a) ((List.getD Fs13 (Fs13.length - 1) Fe.z).v) ((V19 : Nat) : Int) S22 S25) ∧ (True))) (by kernel_rfl) ?_
         intro φ52 xs52 J18_52 leJ
         exact Fun.mono (Tx.refLess_c (k := (List.getD Fs13 (Fs13.length - 1) Fe.z).k) (A := (List.getD Fs13 (Fs13.length - 1) Fe.z).a) (B := (List.getD Fs13 (Fs13.length - 1) Fe.z).v) (k' := ((V19 : Nat) : Int)) (A' := S22) (B' := S25) (hok9 _ (by have hq0 := dT9 hc6; have hq1 := dT9 hc15; have hq2 := dT9 hc17; have hq3 := dT9 hc28; have hq4 := dT9 hc46; have hq5 := dT9 hc49; omega)).1 (hok9 _ (by have hq0 := dT9 hc6; have hq1 := dT9 hc15; have hq2 := dT9 hc17; have hq3 := dT9 hc28; have hq4 := dT9 hc46; have hq5 := dT9 hc49; omega)).2 (by show List.length S22 ≤ 1000000; have t9 := te_short (P.drop A19) E19 ((12 : Nat) : Int); rw [h22_0, List.length_drop] at t9; omega) (by show List.length S25 ≤ 1000000; have t9 := te_short (P.drop A22) E22 ((40 : Nat) : Int); rw [h25_0, List.length_drop] at t9; omega)) (fun v J' _ h => ⟨UX.d, h, trivial⟩)
        case k52 =>
         rintro φ52 xs52 I52 w52 le52 s _
         replace hl := BSl.mono le52 hl
         replace hle12 := leMono le52 hle12
         replace hT50 := leMono le52 hT50
         replace hk51 := le52 _ _ hk51
         replace s := St.thaw s hk51 hz50.2.1 hz50.2.2
         have leT50 := IM.le_del (g := g32) hT50 hz50.1
         generalize IM.del I52 g32 = J50 at s leT50
         replace hl := BSl.mono leT50 hlK50
         replace hle12 := leMono leT50 hle12K50
         rcases Bool.eq_false_or_eq_true (Tx.lesF ((List.getD Fs13 (Fs13.length - 1) Fe.z).k) ((List.getD Fs13 (Fs13.length - 1) Fe.z).a) ((List.getD Fs13 (Fs13.length - 1) Fe.z).v) ((V19 : Nat) : Int) S22 S25) with hc53 | hc53
         ·
          rw [hc53]
          refine cond_false_rule (b := false) (by kernel_rfl) rfl ?_
          refine wp_skip ?_
          refine region_rule ?_
          refine oA _ [(g32, .cells cur32 42)] 3 [.o 1, .o 1, .o 1] 1 (fun φ54 => [(73, .slice (some ⟨(φ54 0), 0, none⟩) 1 1), (72, .agg #[.int .i64 V19, .string ⟨(S22).toArray⟩, .string ⟨(S25).toArray⟩]), (71, .slice (some ⟨g32, 0, none⟩) Fs13.length cap32)]) (fun φ54 => [(z9, .cells #[.slice a k c, .int .i64 A25, .int .i64 (Tx.rtE ((V19 : Nat) : Int) S22 S25)] 106), (φ26 0, .cells #[.int .i64 V19, .string ⟨(S22).toArray⟩, .string ⟨(S25).toArray⟩] 42), (φ54 0, .cells #[.int .i64 V19, .string ⟨(S22).toArray⟩, .string ⟨(S25).toArray⟩] 42)]) (fun φ54 => [φ26 0, φ26 0, φ26 0]) s (fun φ54 => by kernel_rfl) ?_
          intro φ54 w54 s
          refine append_rule (H := [(z9, .cells #[.slice a k c, .int .i64 A25, .int .i64 (Tx.rtE ((V19 : Nat) : Int) S22 S25)] 106), (φ26 0, .cells #[.int .i64 V19, .string ⟨(S22).toArray⟩, .string ⟨(S25).toArray⟩] 42), (φ54 0, .cells #[.int .i64 V19, .string ⟨(S22).toArray⟩, .string ⟨(S25).toArray⟩] 42)]) (F := [(g32, .cells cur32 42)]) 30 30 42 Tryd.t42 (.agg #[.int .i64 0, .string ⟨#[]⟩, .string ⟨#[]⟩]) 3 40 (some 74) s Tryd.underlying30 (by kernel_rfl) (by kernel_rfl) (by kernel_rfl) (by kernel_rfl) (by kernel_rfl) (by decide) hi13_2 (src_own s 2 (φ54 0) #[.int .i64 V19, .string ⟨(S22).toArray⟩, .string ⟨(S25).toArray⟩] 42 30 42 1 1 3 [.int .i64 V19, .string ⟨(S22).toArray⟩, .string ⟨(S25).toArray⟩] (by kernel_rfl) Tryd.underlying30 (by kernel_rfl) (by kernel_rfl) (by kernel_rfl)) (by simp only [maxLen]; omega) (by omega) (by kernel_rfl) ?_
          intro v55 w55 F55 s h55
          refine oKD _ F55 1 [] 0 (fun φ56 => [(4, v55)]) (fun φ56 => []) s (fun φ56 => by kernel_rfl) (by kernel_rfl) ?_
          intro φ56 w56 s
          refine region_rule ?_
          refine oK _ F55 3 [] 0 (fun φ57 => [(5, .int .u64 (IntKind.wrap .u64 (((i13 : Nat) : Int) + ((1 : Nat) : Int)))), (26, .int .u64 (IntKind.wrap .u64 (((i13 : Nat) : Int) + ((1 : Nat) : Int)))), (25, .int .u64 i13)]) (fun φ57 => []) s (fun φ57 => by kernel_rfl) ?_
          intro φ57 w57 s
          rw [nat_addU (a := i13) (b := 1) (by have e9 := hi13_3; have e8 := hi13_0; have hq0 := dT9 hc6; have hq1 := dT9 hc15; have hq2 := dT9 hc17; have hq3 := dT9 hc28; have hq4 := dT9 hc46; have hq5 := dT9 hc49; omega)]
          refine ops_done (by kernel_rfl) ?_
          have hf9 := fd_of (dT9 hc17) h19_0 h19_1 h19_2 h22_0 h22_1 h22_2 h25_0 h25_1 h25_2
          have hq9 := gd_next (x := Tx.rtE ((V19 : Nat) : Int) S22 S25) (dT9 hc17) hi13_5.1 hd11 (by have hq0 := dT9 hc6; have hq1 := dT9 hc15; have hq2 := dT9 hc17; have hq3 := dT9 hc28; have hq4 := dT9 hc46; have hq5 := dT9 hc49; have := hi13_0; omega) hf9 (.inr (.inr (.inr ⟨dT9 hc28, dT9 hc46, by have := last_pos (L := Fs13) (by have hq0 := dT9 hc6; have hq1 := dT9 hc15; have hq2 := dT9 hc17; have hq3 := dT9 hc28; have hq4 := dT9 hc46; have hq5 := dT9 hc49; omega); rw [this]; exact hc53, dT9 hc46⟩)))
          exact ⟨⟨m13 - 1, (i13 + 1, A25, Tx.rtE ((V19 : Nat) : Int) S22 S25, v55, F55, (Fs13 ++ [(⟨((V19 : Nat) : Int), S22, S25⟩ : Fe)])), _, _, _, by have hq0 := dT9 hc6; have hq1 := dT9 hc15; have hq2 := dT9 hc17; have hq3 := dT9 hc28; have hq4 := dT9 hc46; have hq5 := dT9 hc49; have := hi13_0; omega, rfl, s, (List.Sublist.append (List.Sublist.cons₂ _ (List.Sublist.cons _ (List.Sublist.cons _ List.Sublist.slnil))) (List.Sublist.refl _)), by kernel_rfl, hle12, by have hq0 := dT9 hc6; have hq1 := dT9 hc15; have hq2 := dT9 hc17; have hq3 := dT9 hc28; have hq4 := dT9 hc46; have hq5 := dT9 hc49; have := hi13_0; show i13 + 1 + (m13 - 1) = V3; omega, h25_3, row42_snoc h55 rfl, by have := hi13_3; show (Fs13 ++ [(⟨((V19 : Nat) : Int), S22, S25⟩ : Fe)]).length = i13 + 1; rw [List.length_append, this]; rfl, by have hq0 := dT9 hc6; have hq1 := dT9 hc15; have hq2 := dT9 hc17; have hq3 := dT9 hc28; have hq4 := dT9 hc46; have hq5 := dT9 hc49; have h9 := ((hi13_5).1 (dT9 hc17)).1; have h8 := (co8 h9).1; have h7 := hi13_3; have h6 := hi13_0; show (Fs13 ++ [(⟨((V19 : Nat) : Int), S22, S25⟩ : Fe)]).length ≤ 8; rw [List.length_append]; simp only [List.length_cons, List.length_nil] at h7 ⊢; omega, hq9, snoc_ok hi13_6 ⟨(by show List.length S22 ≤ 1000000; have t9 := te_short (P.drop A19) E19 ((12 : Nat) : Int); rw [h22_0, List.length_drop] at t9; omega), (by show List.length S25 ≤ 1000000; have t9 := te_short (P.drop A22) E22 ((40 : Nat) : Int); rw [h25_0, List.length_drop] at t9; omega)⟩⟩⟩
         ·
          rw [hc53]
          refine cond_true_rule (b := true) (by kernel_rfl) rfl ?_
          refine region_rule ?_
          refine oAD _ [(g32, .cells cur32 42)] 4 [.o 0] 0 (fun φ58 => [(70, .pointer (some ⟨z9, 2, none⟩)), (69, pB z9), (68, pB z9)]) (fun φ58 => [(z9, .cells #[.slice a k c, .int .i64 A25, .int .i64 6] 106), (φ26 0, .cells #[.int .i64 V19, .string ⟨(S22).toArray⟩, .string ⟨(S25).toArray⟩] 42)]) (fun φ58 => [z9]) s (fun φ58 => by kernel_rfl) (by kernel_rfl) ?_
          intro φ58 w58 s
          refine region_rule ?_
          refine oA _ [(g32, .cells cur32 42)] 3 [.o 1, .o 1, .o 1] 1 (fun φ59 => [(73, .slice (some ⟨(φ59 0), 0, none⟩) 1 1), (72, .agg #[.int .i64 V19, .string ⟨(S22).toArray⟩, .string ⟨(S25).toArray⟩]), (71, .slice (some ⟨g32, 0, none⟩) Fs13.length cap32)]) (fun φ59 => [(z9, .cells #[.slice a k c, .int .i64 A25, .int .i64 6] 106), (φ26 0, .cells #[.int .i64 V19, .string ⟨(S22).toArray⟩, .string ⟨(S25).toArray⟩] 42), (φ59 0, .cells #[.int .i64 V19, .string ⟨(S22).toArray⟩, .string ⟨(S25).toArray⟩] 42)]) (fun φ59 => [φ26 0, φ26 0, φ26 0]) s (fun φ59 => by kernel_rfl) ?_
          intro φ59 w59 s
          refine append_rule (H := [(z9, .cells #[.slice a k c, .int .i64 A25, .int .i64 6] 106), (φ26 0, .cells #[.int .i64 V19, .string ⟨(S22).toArray⟩, .string ⟨(S25).toArray⟩] 42), (φ59 0, .cells #[.int .i64 V19, .string ⟨(S22).toArray⟩, .string ⟨(S25).toArray⟩] 42)]) (F := [(g32, .cells cur32 42)]) 30 30 42 Tryd.t42 (.agg #[.int .i64 0, .string ⟨#[]⟩, .string ⟨#[]⟩]) 3 40 (some 74) s Tryd.underlying30 (by kernel_rfl) (by kernel_rfl) (by kernel_rfl) (by kernel_rfl) (by kernel_rfl) (by decide) hi13_2 (src_own s 2 (φ59 0) #[.int .i64 V19, .string ⟨(S22).toArray⟩, .string ⟨(S25).toArray⟩] 42 30 42 1 1 3 [.int .i64 V19, .string ⟨(S22).toArray⟩, .string ⟨(S25).toArray⟩] (by kernel_rfl) Tryd.underlying30 (by kernel_rfl) (by kernel_rfl) (by kernel_rfl)) (by simp only [maxLen]; omega) (by omega) (by kernel_rfl) ?_
          intro v60 w60 F60 s h60
          refine oKD _ F60 1 [] 0 (fun φ61 => [(4, v60)]) (fun φ61 => []) s (fun φ61 => by kernel_rfl) (by kernel_rfl) ?_
          intro φ61 w61 s
          refine region_rule ?_
          refine oK _ F60 3 [] 0 (fun φ62 => [(5, .int .u64 (IntKind.wrap .u64 (((i13 : Nat) : Int) + ((1 : Nat) : Int)))), (26, .int .u64 (IntKind.wrap .u64 (((i13 : Nat) : Int) + ((1 : Nat) : Int)))), (25, .int .u64 i13)]) (fun φ62 => []) s (fun φ62 => by kernel_rfl) ?_
          intro φ62 w62 s
          rw [nat_addU (a := i13) (b := 1) (by have e9 := hi13_3; have e8 := hi13_0; have hq0 := dT9 hc6; have hq1 := dT9 hc15; have hq2 := dT9 hc17; have hq3 := dT9 hc28; have hq4 := dT9 hc46; have hq5 := dT9 hc49; omega)]
          refine ops_done (by kernel_rfl) ?_
          have hf9 := fd_of (dT9 hc17) h19_0 h19_1 h19_2 h22_0 h22_1 h22_2 h25_0 h25_1 h25_2
          have hq9 := gd_next (x := 6) (dT9 hc17) hi13_5.1 hd11 (by have hq0 := dT9 hc6; have hq1 := dT9 hc15; have hq2 := dT9 hc17; have hq3 := dT9 hc28; have hq4 := dT9 hc46; have hq5 := dT9 hc49; have := hi13_0; omega) hf9 (.inr (.inr (.inl ⟨dT9 hc28, dT9 hc46, by have := last_pos (L := Fs13) (by have hq0 := dT9 hc6; have hq1 := dT9 hc15; have hq2 := dT9 hc17; have hq3 := dT9 hc28; have hq4 := dT9 hc46; have hq5 := dT9 hc49; omega); rw [this]; exact hc53, rfl⟩)))
          exact ⟨⟨m13 - 1, (i13 + 1, A25, 6, v60, F60, (Fs13 ++ [(⟨((V19 : Nat) : Int), S22, S25⟩ : Fe)])), _, _, _, by have hq0 := dT9 hc6; have hq1 := dT9 hc15; have hq2 := dT9 hc17; have hq3 := dT9 hc28; have hq4 := dT9 hc46; have hq5 := dT9 hc49; have := hi13_0; omega, rfl, s, (List.Sublist.append (List.Sublist.cons₂ _ (List.Sublist.cons _ (List.Sublist.cons _ List.Sublist.slnil))) (List.Sublist.refl _)), by kernel_rfl, hle12, by have hq0 := dT9 hc6; have hq1 := dT9 hc15; have hq2 := dT9 hc17; have hq3 := dT9 hc28; have hq4 := dT9 hc46; have hq5 := dT9 hc49; have := hi13_0; show i13 + 1 + (m13 - 1) = V3; omega, h25_3, row42_snoc h60 rfl, by have := hi13_3; show (Fs13 ++ [(⟨((V19 : Nat) : Int), S22, S25⟩ : Fe)]).length = i13 + 1; rw [List.length_append, this]; rfl, by have hq0 := dT9 hc6; have hq1 := dT9 hc15; have hq2 := dT9 hc17; have hq3 := dT9 hc28; have hq4 := dT9 hc46; have hq5 := dT9 hc49; have h9 := ((hi13_5).1 (dT9 hc17)).1; have h8 := (co8 h9).1; have h7 := hi13_3; have h6 := hi13_0; show (Fs13 ++ [(⟨((V19 : Nat) : Int), S22, S25⟩ : Fe)]).length ≤ 8; rw [List.length_append]; simp only [List.length_cons, List.length_nil] at h7 ⊢; omega, hq9, snoc_ok hi13_6 ⟨(by show List.length S22 ≤ 1000000; have t9 := te_short (P.drop A19) E19 ((12 : Nat) : Int); rw [h22_0, List.length_drop] at t9; omega), (by show List.length S25 ≤ 1000000; have t9 := te_short (P.drop A22) E22 ((40 : Nat) : Int); rw [h25_0, List.length_drop] at t9; omega)⟩⟩⟩
       ·
        have hz63 := St.none0 s (g := g32) (o := .cells cur32 42) (by simp)
        have hT63 := IM.Le.refl I30
        have hlK63 := hl
        have hle12K63 := hle12
        obtain ⟨I64, le64, hk64, s⟩ := s.freezeAt 2 g32 (.cells cur32 42) [(z9, .cells #[.slice a k c, .int .i64 ((A25 : Nat) : Int), .int .i64 ((Tx.rtE ((V19 : Nat) : Int) S22 S25 : Nat) : Int)] 106), ((φ26 0), .cells #[.int .i64 ((V19 : Nat) : Int), .string ⟨(S22).toArray⟩, .string ⟨(S25).toArray⟩] 42)] (by kernel_rfl) (by kernel_rfl)
        replace hl := BSl.mono le64 hl
        replace hle12 := leMono le64 hle12
        replace hT63 := leMono le64 hT63
        have hfs63 := hfr32 _ hk64
        refine draw_rule (C := []) ⟨(fun φ65 xs65 => [.look 0 [] [], .look 0 [] [], .look 0 [] [], .look 0 [.o 0] [z9], .sub 0 [] [] (.bool (((Tx.rtE ((V19 : Nat) : Int) S22 S25 : Nat) : Int) == ((0 : Nat) : Int))), .look 0 [] [], .look 0 [] [], .look 0 [] [], .sub 0 [] [] (.bool (decide (((Fs13.length : Nat) : Int) > ((0 : Nat) : Int)))), .look 0 [] [], .look 0 [] [], .skip, .skip, .skip, .skip, .skip, .skip, .skip, .skip, .skip, .look 0 [] []]), (fun φ65 xs65 => [pB z9, pB z9, .pointer (some ⟨z9, 2, none⟩), .int .i64 (Tx.rtE ((V19 : Nat) : Int) S22 S25), .bool true, .bool true, .slice (some ⟨g32, 0, none⟩) Fs13.length cap32, .int .i64 Fs13.length, .bool false, .bool false, .bool false, undef, undef, undef, undef, undef, undef, undef, undef, undef, .bool false]), (fun φ65 xs65 => [[(z9, .cells #[.slice a k c, .int .i64 A25, .int .i64 (Tx.rtE ((V19 : Nat) : Int) S22 S25)] 106), (φ26 0, .cells #[.int .i64 V19, .string ⟨(S22).toArray⟩, .string ⟨(S25).toArray⟩] 42)]]), (fun φ65 xs65 => [[default, default, default, default, default, default, default, default, default, default, default, default, default, default, default, default, default, default, default, default, default]]), [], [1, 1, 1, 1, 5, 1, 1, 1, 5, 1, 1, 0, 0, 0, 0, 0, 0, 0, 0, 0, 1]⟩ (fun j => ([MP.any] : List MP).getD j MP.any) [] [4, 8] [] (fun φ65 xs65 => []) (fun φ65 xs65 => [(47, pB z9), (48, pB z9), (49, .pointer (some ⟨z9, 2, none⟩)), (50, .int .i64 (Tx.rtE ((V19 : Nat) : Int) S22 S25)), (51, .bool true), (52, .bool true), (53, .slice (some ⟨g32, 0, none⟩) Fs13.length cap32), (54, .int .i64 Fs13.length), (55, .bool false), (56, .bool false), (57, .bool false), (58, undef), (59, undef), (60, undef), (61, undef), (62, undef), (63, undef), (64, undef), (65, undef), (66, undef), (67, .bool false)]) (fun φ65 xs65 => [(z9, .cells #[.slice a k c, .int .i64 A25, .int .i64 (Tx.rtE ((V19 : Nat) : Int) S22 S25)] 106), (φ26 0, .cells #[.int .i64 V19, .string ⟨(S22).toArray⟩, .string ⟨(S25).toArray⟩] 42)]) s trivial (by kernel_rfl) (by kernel_rfl) (fun _ _ => by kernel_rfl) (fun _ _ => by kernel_rfl) ⟨fun _ _ => by kernel_rfl, fun _ _ => by kernel_rfl, fun _ _ => by kernel_rfl, fun _ _ => by kernel_rfl⟩ (fun _ _ _ => by kernel_rfl) (fun _ _ => by kernel_rfl) (fun _ _ => by kernel_rfl) (fun _ _ => by kernel_rfl) (fun _ _ => by kernel_rfl) (fun _ _ => by kernel_rfl) ⟨kcast (A := ∀ (φ65 : Nat → Nat) (xs65 : Xs), (.bool (((Tx.rtE ((V19 : Nat) : Int) S22 S25 : Nat) : Int) == ((0 : Nat) : Int)) : Value) = .bool true) (by kernel_rfl) (fun φ65 xs65 => congrArg Value.bool ((nat_eql (a := (Tx.rtE ((V19 : Nat) : Int) S22 S25)) (b := 0)).trans (hc46))), ⟨kcast (A := ∀ (φ65 : Nat → Nat) (xs65 : Xs), (.bool (decide (((Fs13.length : Nat) : Int) > ((0 : Nat) : Int))) : Value) = .bool false) (by kernel_rfl) (fun φ65 xs65 => congrArg Value.bool ((nat_gtr (a := Fs13.length) (b := 0)).trans (hc49))), trivial⟩⟩ trivial (by kernel_rfl) trivial ?k65
        case k65 =>
         rintro φ65 xs65 I65 w65 le65 s 
         replace hl := BSl.mono le65 hl
         replace hle12 := leMono le65 hle12
         replace hT63 := leMono le65 hT63
         replace hk64 := le65 _ _ hk64
         replace s := St.thaw s hk64 hz63.2.1 hz63.2.2
         have leT63 := IM.le_del (g := g32) hT63 hz63.1
         generalize IM.del I65 g32 = J63 at s leT63
         replace hl := BSl.mono leT63 hlK63
         replace hle12 := leMono leT63 hle12K63
         refine cond_false_rule (b := false) (by kernel_rfl) rfl ?_
         refine wp_skip ?_
         refine region_rule ?_
         refine oA _ [(g32, .cells cur32 42)] 3 [.o 1, .o 1, .o 1] 1 (fun φ66 => [(73, .slice (some ⟨(φ66 0), 0, none⟩) 1 1), (72, .agg #[.int .i64 V19, .string ⟨(S22).toArray⟩, .string ⟨(S25).toArray⟩]), (71, .slice (some ⟨g32, 0, none⟩) Fs13.length cap32)]) (fun φ66 => [(z9, .cells #[.slice a k c, .int .i64 A25, .int .i64 (Tx.rtE ((V19 : Nat) : Int) S22 S25)] 106), (φ26 0, .cells #[.int .i64 V19, .string ⟨(S22).toArray⟩, .string ⟨(S25).toArray⟩] 42), (φ66 0, .cells #[.int .i64 V19, .string ⟨(S22).toArray⟩, .string ⟨(S25).toArray⟩] 42)]) (fun φ66 => [φ26 0, φ26 0, φ26 0]) s (fun φ66 => by kernel_rfl) ?_
         intro φ66 w66 s
         refine append_rule (H := [(z9, .cells #[.slice a k c, .int .i64 A25, .int .i64 (Tx.rtE ((V19 : Nat) : Int) S22 S25)] 106), (φ26 0, .cells #[.int .i64 V19, .string ⟨(S22).toArray⟩, .string ⟨(S25).toArray⟩] 42), (φ66 0, .cells #[.int .i64 V19, .string ⟨(S22).toArray⟩, .string ⟨(S25).toArray⟩] 42)]) (F := [(g32, .cells cur32 42)]) 30 30 42 Tryd.t42 (.agg #[.int .i64 0, .string ⟨#[]⟩, .string ⟨#[]⟩]) 3 40 (some 74) s Tryd.underlying30 (by kernel_rfl) (by kernel_rfl) (by kernel_rfl) (by kernel_rfl) (by kernel_rfl) (by decide) hi13_2 (src_own s 2 (φ66 0) #[.int .i64 V19, .string ⟨(S22).toArray⟩, .string ⟨(S25).toArray⟩] 42 30 42 1 1 3 [.int .i64 V19, .string ⟨(S22).toArray⟩, .string ⟨(S25).toArray⟩] (by kernel_rfl) Tryd.underlying30 (by kernel_rfl) (by kernel_rfl) (by kernel_rfl)) (by simp only [maxLen]; omega) (by omega) (by kernel_rfl) ?_
         intro v67 w67 F67 s h67
         refine oKD _ F67 1 [] 0 (fun φ68 => [(4, v67)]) (fun φ68 => []) s (fun φ68 => by kernel_rfl) (by kernel_rfl) ?_
         intro φ68 w68 s
         refine region_rule ?_
         refine oK _ F67 3 [] 0 (fun φ69 => [(5, .int .u64 (IntKind.wrap .u64 (((i13 : Nat) : Int) + ((1 : Nat) : Int)))), (26, .int .u64 (IntKind.wrap .u64 (((i13 : Nat) : Int) + ((1 : Nat) : Int)))), (25, .int .u64 i13)]) (fun φ69 => []) s (fun φ69 => by kernel_rfl) ?_
         intro φ69 w69 s
         rw [nat_addU (a := i13) (b := 1) (by have e9 := hi13_3; have e8 := hi13_0; have hq0 := dT9 hc6; have hq1 := dT9 hc15; have hq2 := dT9 hc17; have hq3 := dT9 hc28; have hq4 := dT9 hc46; have hq5 := dF9 hc49; omega)]
         refine ops_done (by kernel_rfl) ?_
         have hf9 := fd_of (dT9 hc17) h19_0 h19_1 h19_2 h22_0 h22_1 h22_2 h25_0 h25_1 h25_2
         have hq9 := gd_next (x := Tx.rtE ((V19 : Nat) : Int) S22 S25) (dT9 hc17) hi13_5.1 hd11 (by have hq0 := dT9 hc6; have hq1 := dT9 hc15; have hq2 := dT9 hc17; have hq3 := dT9 hc28; have hq4 := dT9 hc46; have hq5 := dF9 hc49; have := hi13_0; omega) hf9 (.inr (.inr (.inr ⟨dT9 hc28, dT9 hc46, les_first (by have hq0 := dT9 hc6; have hq1 := dT9 hc15; have hq2 := dT9 hc17; have hq3 := dT9 hc28; have hq4 := dT9 hc46; have hq5 := dF9 hc49; (try simp only [List.length_nil]); omega) (dT9 hc46), dT9 hc46⟩)))
         exact ⟨⟨m13 - 1, (i13 + 1, A25, Tx.rtE ((V19 : Nat) : Int) S22 S25, v67, F67, (Fs13 ++ [(⟨((V19 : Nat) : Int), S22, S25⟩ : Fe)])), _, _, _, by have hq0 := dT9 hc6; have hq1 := dT9 hc15; have hq2 := dT9 hc17; have hq3 := dT9 hc28; have hq4 := dT9 hc46; have hq5 := dF9 hc49; have := hi13_0; omega, rfl, s, (List.Sublist.append (List.Sublist.cons₂ _ (List.Sublist.cons _ (List.Sublist.cons _ List.Sublist.slnil))) (List.Sublist.refl _)), by kernel_rfl, hle12, by have hq0 := dT9 hc6; have hq1 := dT9 hc15; have hq2 := dT9 hc17; have hq3 := dT9 hc28; have hq4 := dT9 hc46; have hq5 := dF9 hc49; have := hi13_0; show i13 + 1 + (m13 - 1) = V3; omega, h25_3, row42_snoc h67 rfl, by have := hi13_3; show (Fs13 ++ [(⟨((V19 : Nat) : Int), S22, S25⟩ : Fe)]).length = i13 + 1; rw [List.length_append, this]; rfl, by have hq0 := dT9 hc6; have hq1 := dT9 hc15; have hq2 := dT9 hc17; have hq3 := dT9 hc28; have hq4 := dT9 hc46; have hq5 := dF9 hc49; have h9 := ((hi13_5).1 (dT9 hc17)).1; have h8 := (co8 h9).1; have h7 := hi13_3; have h6 := hi13_0; show (Fs13 ++ [(⟨((V19 : Nat) : Int), S22, S25⟩ : Fe)]).length ≤ 8; rw [List.length_append]; simp only [List.length_cons, List.length_nil] at h7 ⊢; omega, hq9, snoc_ok hi13_6 ⟨(by show List.length S22 ≤ 1000000; have t9 := te_short (P.drop A19) E19 ((12 : Nat) : Int); rw [h22_0, List.length_drop] at t9; omega), (by show List.length S25 ≤ 1000000; have t9 := te_short (P.drop A22) E22 ((40 : Nat) : Int); rw [h25_0, List.length_drop] at t9; omega)⟩⟩⟩
      ·
       have hz70 := St.none0 s (g := g32) (o := .cells cur32 42) (by simp)
       have hT70 := IM.Le.refl I30
       have hlK70 := hl
       have hle12K70 := hle12
       obtain ⟨I71, le71, hk71, s⟩ := s.freezeAt 2 g32 (.cells cur32 42) [(z9, .cells #[.slice a k c, .int .i64 ((A25 : Nat) : Int), .int .i64 ((Tx.rtE ((V19 : Nat) : Int) S22 S25 : Nat) : Int)] 106), ((φ26 0), .cells #[.int .i64 ((V19 : Nat) : Int), .string ⟨(S22).toArray⟩, .string ⟨(S25).toArray⟩] 42)] (by kernel_rfl) (by kernel_rfl)
       replace hl := BSl.mono le71 hl
       replace hle12 := leMono le71 hle12
       replace hT70 := leMono le71 hT70
       have hfs70 := hfr32 _ hk71
       refine draw_rule (C := []) ⟨(fun φ72 xs72 => [.look 0 [] [], .look 0 [] [], .look 0 [] [], .look 0 [.o 0] [z9], .sub 0 [] [] (.bool (((Tx.rtE ((V19 : Nat) : Int) S22 S25 : Nat) : Int) == ((0 : Nat) : Int))), .look 0 [] [], .skip, .skip, .skip, .look 0 [] [], .look 0 [] [], .skip, .skip, .skip, .skip, .skip, .skip, .skip, .skip, .skip, .look 0 [] []]), (fun φ72 xs72 => [pB z9, pB z9, .pointer (some ⟨z9, 2, none⟩), .int .i64 (Tx.rtE ((V19 : Nat) : Int) S22 S25), .bool false, .bool false, undef, undef, undef, .bool false, .bool false, undef, undef, undef, undef, undef, undef, undef, undef, undef, .bool false]), (fun φ72 xs72 => [[(z9, .cells #[.slice a k c, .int .i64 A25, .int .i64 (Tx.rtE ((V19 : Nat) : Int) S22 S25)] 106), (φ26 0, .cells #[.int .i64 V19, .string ⟨(S22).toArray⟩, .string ⟨(S25).toArray⟩] 42)]]), (fun φ72 xs72 => [[default, default, default, default, default, default, default, default, default, default, default, default, default, default, default, default, default, default, default, default, default]]), [], [1, 1, 1, 1, 5, 1, 0, 0, 0, 1, 1, 0, 0, 0, 0, 0, 0, 0, 0, 0, 1]⟩ (fun j => ([MP.any] : List MP).getD j MP.any) [] [4] [] (fun φ72 xs72 => []) (fun φ72 xs72 => [(47, pB z9), (48, pB z9), (49, .pointer (some ⟨z9, 2, none⟩)), (50, .int .i64 (Tx.rtE ((V19 : Nat) : Int) S22 S25)), (51, .bool false), (52, .bool false), (53, undef), (54, undef), (55, undef), (56, .bool false), (57, .bool false), (58, undef), (59, undef), (60, undef), (61, undef), (62, undef), (63, undef), (64, undef), (65, undef), (66, undef), (67, .bool false)]) (fun φ72 xs72 => [(z9, .cells #[.slice a k c, .int .i64 A25, .int .i64 (Tx.rtE ((V19 : Nat) : Int) S22 S25)] 106), (φ26 0, .cells #[.int .i64 V19, .string ⟨(S22).toArray⟩, .string ⟨(S25).toArray⟩] 42)]) s trivial (by kernel_rfl) (by kernel_rfl) (fun _ _ => by kernel_rfl) (fun _ _ => by kernel_rfl) ⟨fun _ _ => by kernel_rfl, fun _ _ => by kernel_rfl, fun _ _ => by kernel_rfl, fun _ _ => by kernel_rfl⟩ (fun _ _ _ => by kernel_rfl) (fun _ _ => by kernel_rfl) (fun _ _ => by kernel_rfl) (fun _ _ => by kernel_rfl) (fun _ _ => by kernel_rfl) (fun _ _ => by kernel_rfl) ⟨kcast (A := ∀ (φ72 : Nat → Nat) (xs72 : Xs), (.bool (((Tx.rtE ((V19 : Nat) : Int) S22 S25 : Nat) : Int) == ((0 : Nat) : Int)) : Value) = .bool false) (by kernel_rfl) (fun φ72 xs72 => congrArg Value.bool ((nat_eql (a := (Tx.rtE ((V19 : Nat) : Int) S22 S25)) (b := 0)).trans (hc46))), trivial⟩ trivial (by kernel_rfl) trivial ?k72
       case k72 =>
        rintro φ72 xs72 I72 w72 le72 s 
        replace hl := BSl.mono le72 hl
        replace hle12 := leMono le72 hle12
        replace hT70 := leMono le72 hT70
        replace hk71 := le72 _ _ hk71
        replace s := St.thaw s hk71 hz70.2.1 hz70.2.2
        have leT70 := IM.le_del (g := g32) hT70 hz70.1
        generalize IM.del I72 g32 = J70 at s leT70
        replace hl := BSl.mono leT70 hlK70
        replace hle12 := leMono leT70 hle12K70
        refine cond_false_rule (b := false) (by kernel_rfl) rfl ?_
        refine wp_skip ?_
        refine region_rule ?_
        refine oA _ [(g32, .cells cur32 42)] 3 [.o 1, .o 1, .o 1] 1 (fun φ73 => [(73, .slice (some ⟨(φ73 0), 0, none⟩) 1 1), (72, .agg #[.int .i64 V19, .string ⟨(S22).toArray⟩, .string ⟨(S25).toArray⟩]), (71, .slice (some ⟨g32, 0, none⟩) Fs13.length cap32)]) (fun φ73 => [(z9, .cells #[.slice a k c, .int .i64 A25, .int .i64 (Tx.rtE ((V19 : Nat) : Int) S22 S25)] 106), (φ26 0, .cells #[.int .i64 V19, .string ⟨(S22).toArray⟩, .string ⟨(S25).toArray⟩] 42), (φ73 0, .cells #[.int .i64 V19, .string ⟨(S22).toArray⟩, .string ⟨(S25).toArray⟩] 42)]) (fun φ73 => [φ26 0, φ26 0, φ26 0]) s (fun φ73 => by kernel_rfl) ?_
        intro φ73 w73 s
        refine append_rule (H := [(z9, .cells #[.slice a k c, .int .i64 A25, .int .i64 (Tx.rtE ((V19 : Nat) : Int) S22 S25)] 106), (φ26 0, .cells #[.int .i64 V19, .string ⟨(S22).toArray⟩, .string ⟨(S25).toArray⟩] 42), (φ73 0, .cells #[.int .i64 V19, .string ⟨(S22).toArray⟩, .string ⟨(S25).toArray⟩] 42)]) (F := [(g32, .cells cur32 42)]) 30 30 42 Tryd.t42 (.agg #[.int .i64 0, .string ⟨#[]⟩, .string ⟨#[]⟩]) 3 40 (some 74) s Tryd.underlying30 (by kernel_rfl) (by kernel_rfl) (by kernel_rfl) (by kernel_rfl) (by kernel_rfl) (by decide) hi13_2 (src_own s 2 (φ73 0) #[.int .i64 V19, .string ⟨(S22).toArray⟩, .string ⟨(S25).toArray⟩] 42 30 42 1 1 3 [.int .i64 V19, .string ⟨(S22).toArray⟩, .string ⟨(S25).toArray⟩] (by kernel_rfl) Tryd.underlying30 (by kernel_rfl) (by kernel_rfl) (by kernel_rfl)) (by simp only [maxLen]; omega) (by omega) (by kernel_rfl) ?_
        intro v74 w74 F74 s h74
        refine oKD _ F74 1 [] 0 (fun φ75 => [(4, v74)]) (fun φ75 => []) s (fun φ75 => by kernel_rfl) (by kernel_rfl) ?_
        intro φ75 w75 s
        refine region_rule ?_
        refine oK _ F74 3 [] 0 (fun φ76 => [(5, .int .u64 (IntKind.wrap .u64 (((i13 : Nat) : Int) + ((1 : Nat) : Int)))), (26, .int .u64 (IntKind.wrap .u64 (((i13 : Nat) : Int) + ((1 : Nat) : Int)))), (25, .int .u64 i13)]) (fun φ76 => []) s (fun φ76 => by kernel_rfl) ?_
        intro φ76 w76 s
        rw [nat_addU (a := i13) (b := 1) (by have e9 := hi13_3; have e8 := hi13_0; have hq0 := dT9 hc6; have hq1 := dT9 hc15; have hq2 := dT9 hc17; have hq3 := dT9 hc28; have hq4 := dF9 hc46; omega)]
        refine ops_done (by kernel_rfl) ?_
        have hf9 := fd_of (dT9 hc17) h19_0 h19_1 h19_2 h22_0 h22_1 h22_2 h25_0 h25_1 h25_2
        have hq9 := gd_next (x := Tx.rtE ((V19 : Nat) : Int) S22 S25) (dT9 hc17) hi13_5.1 hd11 (by have hq0 := dT9 hc6; have hq1 := dT9 hc15; have hq2 := dT9 hc17; have hq3 := dT9 hc28; have hq4 := dF9 hc46; have := hi13_0; omega) hf9 (.inr (.inl ⟨dT9 hc28, dF9 hc46, rfl⟩))
        exact ⟨⟨m13 - 1, (i13 + 1, A25, Tx.rtE ((V19 : Nat) : Int) S22 S25, v74, F74, (Fs13 ++ [(⟨((V19 : Nat) : Int), S22, S25⟩ : Fe)])), _, _, _, by have hq0 := dT9 hc6; have hq1 := dT9 hc15; have hq2 := dT9 hc17; have hq3 := dT9 hc28; have hq4 := dF9 hc46; have := hi13_0; omega, rfl, s, (List.Sublist.append (List.Sublist.cons₂ _ (List.Sublist.cons _ (List.Sublist.cons _ List.Sublist.slnil))) (List.Sublist.refl _)), by kernel_rfl, hle12, by have hq0 := dT9 hc6; have hq1 := dT9 hc15; have hq2 := dT9 hc17; have hq3 := dT9 hc28; have hq4 := dF9 hc46; have := hi13_0; show i13 + 1 + (m13 - 1) = V3; omega, h25_3, row42_snoc h74 rfl, by have := hi13_3; show (Fs13 ++ [(⟨((V19 : Nat) : Int), S22, S25⟩ : Fe)]).length = i13 + 1; rw [List.length_append, this]; rfl, by have hq0 := dT9 hc6; have hq1 := dT9 hc15; have hq2 := dT9 hc17; have hq3 := dT9 hc28; have hq4 := dF9 hc46; have h9 := ((hi13_5).1 (dT9 hc17)).1; have h8 := (co8 h9).1; have h7 := hi13_3; have h6 := hi13_0; show (Fs13 ++ [(⟨((V19 : Nat) : Int), S22, S25⟩ : Fe)]).length ≤ 8; rw [List.length_append]; simp only [List.length_cons, List.length_nil] at h7 ⊢; omega, hq9, snoc_ok hi13_6 ⟨(by show List.length S22 ≤ 1000000; have t9 := te_short (P.drop A19) E19 ((12 : Nat) : Int); rw [h22_0, List.length_drop] at t9; omega), (by show List.length S25 ≤ 1000000; have t9 := te_short (P.drop A22) E22 ((40 : Nat) : Int); rw [h25_0, List.length_drop] at t9; omega)⟩⟩⟩
    ·
     rw [hc28]
     refine cond_false_rule (b := false) (by kernel_rfl) rfl ?_
     refine wp_skip ?_
     refine wp_seq ?_
     refine wp_seq ?_
     rcases row_cases42 hi13_2 with ⟨hv77, hL77, hF77⟩ | ⟨g77, cap77, cur77, hv77, hF77, hfr77⟩
     ·
      subst hv77
      subst hF77
      have hL9 : Fs13.length = 0 := by rw [hL77]; rfl
      refine draw_rule (C := []) ⟨(fun φ78 xs78 => [.look 0 [] [], .look 0 [] [], .look 0 [] [], .look 0 [.o 0] [z9], .sub 0 [] [] (.bool (((E25 : Nat) : Int) == ((0 : Nat) : Int))), .look 0 [] [], .skip, .skip, .skip, .look 0 [] [], .look 0 [] [], .skip, .skip, .skip, .skip, .skip, .skip, .skip, .skip, .skip, .look 0 [] []]), (fun φ78 xs78 => [pB z9, pB z9, .pointer (some ⟨z9, 2, none⟩), .int .i64 E25, .bool false, .bool false, undef, undef, undef, .bool false, .bool false, undef, undef, undef, undef, undef, undef, undef, undef, undef, .bool false]), (fun φ78 xs78 => [[(z9, .cells #[.slice a k c, .int .i64 A25, .int .i64 E25] 106), (φ26 0, .cells #[.int .i64 V19, .string ⟨(S22).toArray⟩, .string ⟨(S25).toArray⟩] 42)]]), (fun φ78 xs78 => [[default, default, default, default, default, default, default, default, default, default, default, default, default, default, default, default, default, default, default, default, default]]), [], [1, 1, 1, 1, 5, 1, 0, 0, 0, 1, 1, 0, 0, 0, 0, 0, 0, 0, 0, 0, 1]⟩ (fun j => ([MP.any] : List MP).getD j MP.any) [] [4] [] (fun φ78 xs78 => []) (fun φ78 xs78 => [(47, pB z9), (48, pB z9), (49, .pointer (some ⟨z9, 2, none⟩)), (50, .int .i64 E25), (51, .bool false), (52, .bool false), (53, undef), (54, undef), (55, undef), (56, .bool false), (57, .bool false), (58, undef), (59, undef), (60, undef), (61, undef), (62, undef), (63, undef), (64, undef), (65, undef), (66, undef), (67, .bool false)]) (fun φ78 xs78 => [(z9, .cells #[.slice a k c, .int .i64 A25, .int .i64 E25] 106), (φ26 0, .cells #[.int .i64 V19, .string ⟨(S22).toArray⟩, .string ⟨(S25).toArray⟩] 42)]) s trivial (by kernel_rfl) (by kernel_rfl) (fun _ _ => by kernel_rfl) (fun _ _ => by kernel_rfl) ⟨fun _ _ => by kernel_rfl, fun _ _ => by kernel_rfl, fun _ _ => by kernel_rfl, fun _ _ => by kernel_rfl⟩ (fun _ _ _ => by kernel_rfl) (fun _ _ => by kernel_rfl) (fun _ _ => by kernel_rfl) (fun _ _ => by kernel_rfl) (fun _ _ => by kernel_rfl) (fun _ _ => by kernel_rfl) ⟨kcast (A := ∀ (φ78 : Nat → Nat) (xs78 : Xs), (.bool (((E25 : Nat) : Int) == ((0 : Nat) : Int)) : Value) = .bool false) (by kernel_rfl) (fun φ78 xs78 => congrArg Value.bool ((nat_eql (a := E25) (b := 0)).trans (hc28))), trivial⟩ trivial (by kernel_rfl) trivial ?k78
      case k78 =>
       rintro φ78 xs78 I78 w78 le78 s 
       replace hl := BSl.mono le78 hl
       replace hle12 := leMono le78 hle12
       refine cond_false_rule (b := false) (by kernel_rfl) rfl ?_
       refine wp_skip ?_
       refine region_rule ?_
       refine oA [(z9, .cells #[.slice a k c, .int .i64 A25, .int .i64 E25] 106), (φ26 0, .cells #[.int .i64 V19, .string ⟨(S22).toArray⟩, .string ⟨(S25).toArray⟩] 42)] [] 3 [.o 1, .o 1, .o 1] 1 (fun φ79 => [(73, .slice (some ⟨(φ79 0), 0, none⟩) 1 1), (72, .agg #[.int .i64 V19, .string ⟨(S22).toArray⟩, .string ⟨(S25).toArray⟩]), (71, .slice none 0 0)]) (fun φ79 => [(z9, .cells #[.slice a k c, .int .i64 A25, .int .i64 E25] 106), (φ26 0, .cells #[.int .i64 V19, .string ⟨(S22).toArray⟩, .string ⟨(S25).toArray⟩] 42), (φ79 0, .cells #[.int .i64 V19, .string ⟨(S22).toArray⟩, .string ⟨(S25).toArray⟩] 42)]) (fun φ79 => [φ26 0, φ26 0, φ26 0]) s (fun φ79 => by kernel_rfl) ?_
       intro φ79 w79 s
       refine append_rule (H := [(z9, .cells #[.slice a k c, .int .i64 A25, .int .i64 E25] 106), (φ26 0, .cells #[.int .i64 V19, .string ⟨(S22).toArray⟩, .string ⟨(S25).toArray⟩] 42), (φ79 0, .cells #[.int .i64 V19, .string ⟨(S22).toArray⟩, .string ⟨(S25).toArray⟩] 42)]) (F := []) 30 30 42 Tryd.t42 (.agg #[.int .i64 0, .string ⟨#[]⟩, .string ⟨#[]⟩]) 3 40 (some 74) s Tryd.underlying30 (by kernel_rfl) (by kernel_rfl) (by kernel_rfl) (by kernel_rfl) (by kernel_rfl) (by decide) hi13_2 (src_own s 2 (φ79 0) #[.int .i64 V19, .string ⟨(S22).toArray⟩, .string ⟨(S25).toArray⟩] 42 30 42 1 1 3 [.int .i64 V19, .string ⟨(S22).toArray⟩, .string ⟨(S25).toArray⟩] (by kernel_rfl) Tryd.underlying30 (by kernel_rfl) (by kernel_rfl) (by kernel_rfl)) (by simp only [maxLen]; omega) (by omega) (by kernel_rfl) ?_
       intro v80 w80 F80 s h80
       refine oKD _ F80 1 [] 0 (fun φ81 => [(4, v80)]) (fun φ81 => []) s (fun φ81 => by kernel_rfl) (by kernel_rfl) ?_
       intro φ81 w81 s
       refine region_rule ?_
       refine oK _ F80 3 [] 0 (fun φ82 => [(5, .int .u64 (IntKind.wrap .u64 (((i13 : Nat) : Int) + ((1 : Nat) : Int)))), (26, .int .u64 (IntKind.wrap .u64 (((i13 : Nat) : Int) + ((1 : Nat) : Int)))), (25, .int .u64 i13)]) (fun φ82 => []) s (fun φ82 => by kernel_rfl) ?_
       intro φ82 w82 s
       rw [nat_addU (a := i13) (b := 1) (by have e9 := hi13_3; have e8 := hi13_0; have e6 := hL9; have hq0 := dT9 hc6; have hq1 := dT9 hc15; have hq2 := dT9 hc17; have hq3 := dF9 hc28; omega)]
       refine ops_done (by kernel_rfl) ?_
       have hf9 := fd_of (dT9 hc17) h19_0 h19_1 h19_2 h22_0 h22_1 h22_2 h25_0 h25_1 h25_2
       have hq9 := gd_next (x := E25) (dT9 hc17) hi13_5.1 hd11 (by have hq0 := dT9 hc6; have hq1 := dT9 hc15; have hq2 := dT9 hc17; have hq3 := dF9 hc28; have := hi13_0; omega) hf9 (.inl ⟨dF9 hc28, rfl⟩)
       exact ⟨⟨m13 - 1, (i13 + 1, A25, E25, v80, F80, (Fs13 ++ [(⟨((V19 : Nat) : Int), S22, S25⟩ : Fe)])), _, _, _, by have hq0 := dT9 hc6; have hq1 := dT9 hc15; have hq2 := dT9 hc17; have hq3 := dF9 hc28; have := hi13_0; omega, rfl, s, (List.Sublist.append (List.Sublist.cons₂ _ (List.Sublist.cons _ (List.Sublist.cons _ List.Sublist.slnil))) (List.Sublist.refl _)), by kernel_rfl, hle12, by have hq0 := dT9 hc6; have hq1 := dT9 hc15; have hq2 := dT9 hc17; have hq3 := dF9 hc28; have := hi13_0; show i13 + 1 + (m13 - 1) = V3; omega, h25_3, row42_snoc h80 rfl, by have := hi13_3; show (Fs13 ++ [(⟨((V19 : Nat) : Int), S22, S25⟩ : Fe)]).length = i13 + 1; rw [List.length_append, this]; rfl, by have hq0 := dT9 hc6; have hq1 := dT9 hc15; have hq2 := dT9 hc17; have hq3 := dF9 hc28; have h9 := ((hi13_5).1 (dT9 hc17)).1; have h8 := (co8 h9).1; have h7 := hi13_3; have h6 := hi13_0; show (Fs13 ++ [(⟨((V19 : Nat) : Int), S22, S25⟩ : Fe)]).length ≤ 8; rw [List.length_append]; simp only [List.length_cons, List.length_nil] at h7 ⊢; omega, hq9, snoc_ok hi13_6 ⟨(by show List.length S22 ≤ 1000000; have t9 := te_short (P.drop A19) E19 ((12 : Nat) : Int); rw [h22_0, List.length_drop] at t9; omega), (by show List.length S25 ≤ 1000000; have t9 := te_short (P.drop A22) E22 ((40 : Nat) : Int); rw [h25_0, List.length_drop] at t9; omega)⟩⟩⟩
     ·
      subst hv77
      subst hF77
      have hz83 := St.none0 s (g := g77) (o := .cells cur77 42) (by simp)
      have hT83 := IM.Le.refl I25
      have hlK83 := hl
      have hle12K83 := hle12
      obtain ⟨I84, le84, hk84, s⟩ := s.freezeAt 2 g77 (.cells cur77 42) [(z9, .cells #[.slice a k c, .int .i64 ((A25 : Nat) : Int), .int .i64 ((E25 : Nat) : Int)] 106), ((φ26 0), .cells #[.int .i64 ((V19 : Nat) : Int), .string ⟨(S22).toArray⟩, .string ⟨(S25).toArray⟩] 42)] (by kernel_rfl) (by kernel_rfl)
      replace hl := BSl.mono le84 hl
      replace hle12 := leMono le84 hle12
      replace hT83 := leMono le84 hT83
      have hfs83 := hfr77 _ hk84
      refine draw_rule (C := []) ⟨(fun φ85 xs85 => [.look 0 [] [], .look 0 [] [], .look 0 [] [], .look 0 [.o 0] [z9], .sub 0 [] [] (.bool (((E25 : Nat) : Int) == ((0 : Nat) : Int))), .look 0 [] [], .skip, .skip, .skip, .look 0 [] [], .look 0 [] [], .skip, .skip, .skip, .skip, .skip, .skip, .skip, .skip, .skip, .look 0 [] []]), (fun φ85 xs85 => [pB z9, pB z9, .pointer (some ⟨z9, 2, none⟩), .int .i64 E25, .bool false, .bool false, undef, undef, undef, .bool false, .bool false, undef, undef, undef, undef, undef, undef, undef, undef, undef, .bool false]), (fun φ85 xs85 => [[(z9, .cells #[.slice a k c, .int .i64 A25, .int .i64 E25] 106), (φ26 0, .cells #[.int .i64 V19, .string ⟨(S22).toArray⟩, .string ⟨(S25).toArray⟩] 42)]]), (fun φ85 xs85 => [[default, default, default, default, default, default, default, default, default, default, default, default, default, default, default, default, default, default, default, default, default]]), [], [1, 1, 1, 1, 5, 1, 0, 0, 0, 1, 1, 0, 0, 0, 0, 0, 0, 0, 0, 0, 1]⟩ (fun j => ([MP.any] : List MP).getD j MP.any) [] [4] [] (fun φ85 xs85 => []) (fun φ85 xs85 => [(47, pB z9), (48, pB z9), (49, .pointer (some ⟨z9, 2, none⟩)), (50, .int .i64 E25), (51, .bool false), (52, .bool false), (53, undef), (54, undef), (55, undef), (56, .bool false), (57, .bool false), (58, undef), (59, undef), (60, undef), (61, undef), (62, undef), (63, undef), (64, undef), (65, undef), (66, undef), (67, .bool false)]) (fun φ85 xs85 => [(z9, .cells #[.slice a k c, .int .i64 A25, .int .i64 E25] 106), (φ26 0, .cells #[.int .i64 V19, .string ⟨(S22).toArray⟩, .string ⟨(S25).toArray⟩] 42)]) s trivial (by kernel_rfl) (by kernel_rfl) (fun _ _ => by kernel_rfl) (fun _ _ => by kernel_rfl) ⟨fun _ _ => by kernel_rfl, fun _ _ => by kernel_rfl, fun _ _ => by kernel_rfl, fun _ _ => by kernel_rfl⟩ (fun _ _ _ => by kernel_rfl) (fun _ _ => by kernel_rfl) (fun _ _ => by kernel_rfl) (fun _ _ => by kernel_rfl) (fun _ _ => by kernel_rfl) (fun _ _ => by kernel_rfl) ⟨kcast (A := ∀ (φ85 : Nat → Nat) (xs85 : Xs), (.bool (((E25 : Nat) : Int) == ((0 : Nat) : Int)) : Value) = .bool false) (by kernel_rfl) (fun φ85 xs85 => congrArg Value.bool ((nat_eql (a := E25) (b := 0)).trans (hc28))), trivial⟩ trivial (by kernel_rfl) trivial ?k85
      case k85 =>
       rintro φ85 xs85 I85 w85 le85 s 
       replace hl := BSl.mono le85 hl
       replace hle12 := leMono le85 hle12
       replace hT83 := leMono le85 hT83
       replace hk84 := le85 _ _ hk84
       replace s := St.thaw s hk84 hz83.2.1 hz83.2.2
       have leT83 := IM.le_del (g := g77) hT83 hz83.1
       generalize IM.del I85 g77 = J83 at s leT83
       replace hl := BSl.mono leT83 hlK83
       replace hle12 := leMono leT83 hle12K83
       refine cond_false_rule (b := false) (by kernel_rfl) rfl ?_
       refine wp_skip ?_
       refine region_rule ?_
       refine oA _ [(g77, .cells cur77 42)] 3 [.o 1, .o 1, .o 1] 1 (fun φ86 => [(73, .slice (some ⟨(φ86 0), 0, none⟩) 1 1), (72, .agg #[.int .i64 V19, .string ⟨(S22).toArray⟩, .string ⟨(S25).toArray⟩]), (71, .slice (some ⟨g77, 0, none⟩) Fs13.length cap77)]) (fun φ86 => [(z9, .cells #[.slice a k c, .int .i64 A25, .int .i64 E25] 106), (φ26 0, .cells #[.int .i64 V19, .string ⟨(S22).toArray⟩, .string ⟨(S25).toArray⟩] 42), (φ86 0, .cells #[.int .i64 V19, .string ⟨(S22).toArray⟩, .string ⟨(S25).toArray⟩] 42)]) (fun φ86 => [φ26 0, φ26 0, φ26 0]) s (fun φ86 => by kernel_rfl) ?_
       intro φ86 w86 s
       refine append_rule (H := [(z9, .cells #[.slice a k c, .int .i64 A25, .int .i64 E25] 106), (φ26 0, .cells #[.int .i64 V19, .string ⟨(S22).toArray⟩, .string ⟨(S25).toArray⟩] 42), (φ86 0, .cells #[.int .i64 V19, .string ⟨(S22).toArray⟩, .string ⟨(S25).toArray⟩] 42)]) (F := [(g77, .cells cur77 42)]) 30 30 42 Tryd.t42 (.agg #[.int .i64 0, .string ⟨#[]⟩, .string ⟨#[]⟩]) 3 40 (some 74) s Tryd.underlying30 (by kernel_rfl) (by kernel_rfl) (by kernel_rfl) (by kernel_rfl) (by kernel_rfl) (by decide) hi13_2 (src_own s 2 (φ86 0) #[.int .i64 V19, .string ⟨(S22).toArray⟩, .string ⟨(S25).toArray⟩] 42 30 42 1 1 3 [.int .i64 V19, .string ⟨(S22).toArray⟩, .string ⟨(S25).toArray⟩] (by kernel_rfl) Tryd.underlying30 (by kernel_rfl) (by kernel_rfl) (by kernel_rfl)) (by simp only [maxLen]; omega) (by omega) (by kernel_rfl) ?_
       intro v87 w87 F87 s h87
       refine oKD _ F87 1 [] 0 (fun φ88 => [(4, v87)]) (fun φ88 => []) s (fun φ88 => by kernel_rfl) (by kernel_rfl) ?_
       intro φ88 w88 s
       refine region_rule ?_
       refine oK _ F87 3 [] 0 (fun φ89 => [(5, .int .u64 (IntKind.wrap .u64 (((i13 : Nat) : Int) + ((1 : Nat) : Int)))), (26, .int .u64 (IntKind.wrap .u64 (((i13 : Nat) : Int) + ((1 : Nat) : Int)))), (25, .int .u64 i13)]) (fun φ89 => []) s (fun φ89 => by kernel_rfl) ?_
       intro φ89 w89 s
       rw [nat_addU (a := i13) (b := 1) (by have e9 := hi13_3; have e8 := hi13_0; have hq0 := dT9 hc6; have hq1 := dT9 hc15; have hq2 := dT9 hc17; have hq3 := dF9 hc28; omega)]
       refine ops_done (by kernel_rfl) ?_
       have hf9 := fd_of (dT9 hc17) h19_0 h19_1 h19_2 h22_0 h22_1 h22_2 h25_0 h25_1 h25_2
       have hq9 := gd_next (x := E25) (dT9 hc17) hi13_5.1 hd11 (by have hq0 := dT9 hc6; have hq1 := dT9 hc15; have hq2 := dT9 hc17; have hq3 := dF9 hc28; have := hi13_0; omega) hf9 (.inl ⟨dF9 hc28, rfl⟩)
       exact ⟨⟨m13 - 1, (i13 + 1, A25, E25, v87, F87, (Fs13 ++ [(⟨((V19 : Nat) : Int), S22, S25⟩ : Fe)])), _, _, _, by have hq0 := dT9 hc6; have hq1 := dT9 hc15; have hq2 := dT9 hc17; have hq3 := dF9 hc28; have := hi13_0; omega, rfl, s, (List.Sublist.append (List.Sublist.cons₂ _ (List.Sublist.cons _ (List.Sublist.cons _ List.Sublist.slnil))) (List.Sublist.refl _)), by kernel_rfl, hle12, by have hq0 := dT9 hc6; have hq1 := dT9 hc15; have hq2 := dT9 hc17; have hq3 := dF9 hc28; have := hi13_0; show i13 + 1 + (m13 - 1) = V3; omega, h25_3, row42_snoc h87 rfl, by have := hi13_3; show (Fs13 ++ [(⟨((V19 : Nat) : Int), S22, S25⟩ : Fe)]).length = i13 + 1; rw [List.length_append, this]; rfl, by have hq0 := dT9 hc6; have hq1 := dT9 hc15; have hq2 := dT9 hc17; have hq3 := dF9 hc28; have h9 := ((hi13_5).1 (dT9 hc17)).1; have h8 := (co8 h9).1; have h7 := hi13_3; have h6 := hi13_0; show (Fs13 ++ [(⟨((V19 : Nat) : Int), S22, S25⟩ : Fe)]).length ≤ 8; rw [List.length_append]; simp only [List.length_cons, List.length_nil] at h7 ⊢; omega, hq9, snoc_ok hi13_6 ⟨(by show List.length S22 ≤ 1000000; have t9 := te_short (P.drop A19) E19 ((12 : Nat) : Int); rw [h22_0, List.length_drop] at t9; omega), (by show List.length S25 ≤ 1000000; have t9 := te_short (P.drop A22) E22 ((40 : Nat) : Int); rw [h25_0, List.length_drop] at t9; omega)⟩⟩⟩
   ·
    rw [hc17]
    refine cond_false_rule (b := false) (by kernel_rfl) rfl ?_
    refine wp_exit ?_
    refine wp_seq ?_
    refine seqR ?_
    refine oK _ F13 5 [.o 0] 0 (fun φ90 => [(79, .bool (((e13 : Nat) : Int) != ((0 : Nat) : Int))), (78, .int .i64 e13), (77, .pointer (some ⟨z9, 2, none⟩)), (76, pB z9), (75, pB z9)]) (fun φ90 => [z9]) s (fun φ90 => by kernel_rfl) ?_
    intro φ90 w90 s
    rw [nat_neq (a := e13) (b := 0)]
    refine ops_done (by kernel_rfl) ?_
    rcases Bool.eq_false_or_eq_true (decide (e13 ≠ 0)) with hc91 | hc91
    ·
     rw [hc91]
     refine cond_true_rule (b := true) (by kernel_rfl) rfl ?_
     refine seqR ?_
     refine oKD _ F13 1 [] 0 (fun φ92 => [(2, .slice none 0 0)]) (fun φ92 => []) s (fun φ92 => by kernel_rfl) (by kernel_rfl) ?_
     intro φ92 w92 s
     refine wp_ret ?_
     refine ret_rule (C := []) _ F13 (.slice none 0 0) [] [] s trivial (by kernel_rfl) ?_
     replace s := s.drop (List.Sublist.append (List.Sublist.cons₂ _ List.Sublist.slnil) (List.Sublist.refl F13))
     replace s := s.drop (List.sublist_append_left _ F13)
     exact ⟨_, _, _, rfl, s, ⟨_, rfl, rfl, [], _, _, none, 0, rfl, rfl, hi13_1, hi13_5.2 (dT9 hc91), fsl_nil _⟩⟩
    ·
     rw [hc91]
     refine cond_false_rule (b := false) (by kernel_rfl) rfl ?_
     refine wp_skip ?_
     refine seqR ?_
     refine oKD _ F13 2 [] 0 (fun φ93 => [(2, v13), (80, v13)]) (fun φ93 => []) s (fun φ93 => by kernel_rfl) (by kernel_rfl) ?_
     intro φ93 w93 s
     refine wp_ret ?_
     refine ret_rule (C := []) _ F13 (v13) [] [] s trivial (by kernel_rfl) ?_
     replace s := s.drop (List.Sublist.append (List.Sublist.cons₂ _ List.Sublist.slnil) (List.Sublist.refl F13))
     have hz9 : e13 = 0 := Decidable.not_not.1 (dF9 hc91)
     have hg9 := gd_end hi13_5.1 hd11 (by have hq0 := dT9 hc6; have hq1 := dT9 hc15; have hq2 := dF9 hc17; have hq3 := dF9 hc91; have := hi13_0; omega : m13 = 0) hz9
     obtain ⟨J94, le94, hk94, s⟩ := freeze_row42 (H := [(z9, .cells #[.slice a k c, .int .i64 ((A13 : Nat) : Int), .int .i64 ((e13 : Nat) : Int)] 106)]) (F := F13) s hi13_2
     obtain ⟨a94, c94, hv94, -, hk94⟩ := hk94.open
     subst hv94
     replace hg9 : gcP (P.drop 0) = (Fs13, P.drop A13, e13) := hg9.trans (by rw [hz9])
     exact ⟨_, _, _, rfl, s, ⟨_, rfl, rfl, Fs13, _, _, _, _, rfl, rfl, hi13_1, hg9, hk94⟩⟩
  ·
   rw [hc15]
   refine oKD _ F13 6 [] 0 (fun φ95 => [(24, .bool false), (23, undef), (22, undef), (21, undef), (20, undef), (19, undef)]) (fun φ95 => []) s (fun φ95 => by kernel_rfl) (by kernel_rfl) ?_
   intro φ95 w95 s
   refine cond_false_rule (b := false) (by kernel_rfl) rfl ?_
   refine wp_exit ?_
   refine wp_seq ?_
   refine seqR ?_
   refine oK _ F13 5 [.o 0] 0 (fun φ96 => [(79, .bool (((e13 : Nat) : Int) != ((0 : Nat) : Int))), (78, .int .i64 e13), (77, .pointer (some ⟨z9, 2, none⟩)), (76, pB z9), (75, pB z9)]) (fun φ96 => [z9]) s (fun φ96 => by kernel_rfl) ?_
   intro φ96 w96 s
   rw [nat_neq (a := e13) (b := 0)]
   refine ops_done (by kernel_rfl) ?_
   rcases Bool.eq_false_or_eq_true (decide (e13 ≠ 0)) with hc97 | hc97
   ·
    rw [hc97]
    refine cond_true_rule (b := true) (by kernel_rfl) rfl ?_
    refine seqR ?_
    refine oKD _ F13 1 [] 0 (fun φ98 => [(2, .slice none 0 0)]) (fun φ98 => []) s (fun φ98 => by kernel_rfl) (by kernel_rfl) ?_
    intro φ98 w98 s
    refine wp_ret ?_
    refine ret_rule (C := []) _ F13 (.slice none 0 0) [] [] s trivial (by kernel_rfl) ?_
    replace s := s.drop (List.Sublist.append (List.Sublist.cons₂ _ List.Sublist.slnil) (List.Sublist.refl F13))
    replace s := s.drop (List.sublist_append_left _ F13)
    exact ⟨_, _, _, rfl, s, ⟨_, rfl, rfl, [], _, _, none, 0, rfl, rfl, hi13_1, hi13_5.2 (dT9 hc97), fsl_nil _⟩⟩
   ·
    rw [hc97]
    refine cond_false_rule (b := false) (by kernel_rfl) rfl ?_
    refine wp_skip ?_
    refine seqR ?_
    refine oKD _ F13 2 [] 0 (fun φ99 => [(2, v13), (80, v13)]) (fun φ99 => []) s (fun φ99 => by kernel_rfl) (by kernel_rfl) ?_
    intro φ99 w99 s
    refine wp_ret ?_
    refine ret_rule (C := []) _ F13 (v13) [] [] s trivial (by kernel_rfl) ?_
    replace s := s.drop (List.Sublist.append (List.Sublist.cons₂ _ List.Sublist.slnil) (List.Sublist.refl F13))
    have hz9 : e13 = 0 := Decidable.not_not.1 (dF9 hc97)
    have hg9 := gd_end hi13_5.1 hd11 (by have hq0 := dT9 hc6; have hq1 := dF9 hc15; have hq2 := dF9 hc97; have := hi13_0; omega : m13 = 0) hz9
    obtain ⟨J100, le100, hk100, s⟩ := freeze_row42 (H := [(z9, .cells #[.slice a k c, .int .i64 ((A13 : Nat) : Int), .int .i64 ((e13 : Nat) : Int)] 106)]) (F := F13) s hi13_2
    obtain ⟨a100, c100, hv100, -, hk100⟩ := hk100.open
    subst hv100
    replace hg9 : gcP (P.drop 0) = (Fs13, P.drop A13, e13) := hg9.trans (by rw [hz9])
    exact ⟨_, _, _, rfl, s, ⟨_, rfl, rfl, Fs13, _, _, _, _, rfl, rfl, hi13_1, hg9, hk100⟩⟩
 ·
  rw [hc6]
  refine cond_false_rule (b := false) (by kernel_rfl) rfl ?_
  refine wp_skip ?_
  refine seqR ?_
  refine oKD _ [] 1 [] 0 (fun φ101 => [(4, .slice none 0 0)]) (fun φ101 => []) s (fun φ101 => by kernel_rfl) (by kernel_rfl) ?_
  intro φ101 w101 s
  refine wp_seq ?_
  refine seqR ?_
  refine oKD _ [] 1 [] 0 (fun φ102 => [(5, .int .u64 0)]) (fun φ102 => []) s (fun φ102 => by kernel_rfl) (by kernel_rfl) ?_
  intro φ102 w102 s
  refine wp_block ?_
  have hd103 := h3_2
  have hi103 := gd_small h3_0 h3_1 hd103 (dF9 hc6)
  have hle104 := IM.Le.refl I3
  refine loop_rule (fun (x : Nat × Nat × Nat × Value × List OB × List Fe) => [(0, pB z9), (2, .slice none 0 0), (3, .int .u64 V3), (5, .int .u64 x.1), (4, x.2.2.2.1)]) (fun (x : Nat × Nat × Nat × Value × List OB × List Fe) => [(z9, .cells #[.slice a k c, .int .i64 x.2.1, .int .i64 x.2.2.1] 106)] ++ x.2.2.2.2.1) (fun m (x : Nat × Nat × Nat × Value × List OB × List Fe) J => IM.Le I3 J ∧ x.1 + m = V3 ∧ x.2.1 ≤ P.length ∧ RowH 42 3 x.2.2.2.1 (x.2.2.2.2.2).length (fcs x.2.2.2.2.2) x.2.2.2.2.1 ∧ (x.2.2.2.2.2).length = x.1 ∧ (x.2.2.2.2.2).length ≤ 8 ∧ ((x.2.2.1 = 0 → coG (P.drop 0) 0 8 8 = (V3, 0) ∧ cR V3 Fe.z (P.drop A3) = (x.2.2.2.2.2 ++ (cR m (lastF x.2.2.2.2.2) (P.drop x.2.1)).1, (cR m (lastF x.2.2.2.2.2) (P.drop x.2.1)).2)) ∧ (x.2.2.1 ≠ 0 → gcP (P.drop 0) = ([], P.drop x.2.1, x.2.2.1))) ∧ (∀ j, j < (x.2.2.2.2.2).length → ((x.2.2.2.2.2).getD j Fe.z).a.length ≤ 1000000 ∧ ((x.2.2.2.2.2).getD j Fe.z).v.length ≤ 1000000)) (V3) (0, A3, E3, (.slice none 0 0), [], []) s (by kernel_rfl) (List.Sublist.refl _) ⟨IM.Le.refl _, Nat.zero_add _, h3_3, (RowH.nil 42 3), rfl, Nat.zero_le _, hi103, fun j hj => absurd hj (Nat.not_lt_zero _)⟩ ?_
  rintro m105 ⟨i105, A105, e105, v105, F105, Fs105⟩ I105 w105 ev105 s ⟨le105, hi105_0, hi105_1, hi105_2, hi105_3, hi105_4, hi105_5, hi105_6⟩
  try dsimp only at s hi105_0 hi105_1 hi105_2 hi105_3 hi105_4 hi105_5 hi105_6 ⊢
  replace hl := BSl.mono le105 hl
  replace hle104 := leMono le105 hle104
  have hl9 : Fs105.length ≤ 8 := hi105_4
  have hok9 := hi105_6
  refine wp_seq ?_
  refine seqR ?_
  refine oK _ F105 4 [] 0 (fun φ106 => [(18, .bool (decide (((i105 : Nat) : Int) < ((V3 : Nat) : Int)))), (17, .bool (decide (((i105 : Nat) : Int) < ((V3 : Nat) : Int)))), (16, .int .u64 V3), (15, .int .u64 i105)]) (fun φ106 => []) s (fun φ106 => by kernel_rfl) ?_
  intro φ106 w106 s
  rw [nat_lss (a := i105) (b := V3)]
  rcases Bool.eq_false_or_eq_true (decide (i105 < V3)) with hc107 | hc107
  ·
   rw [hc107]
   refine oK _ F105 6 [.o 0] 0 (fun φ108 => [(24, .bool (((e105 : Nat) : Int) == ((0 : Nat) : Int))), (23, .bool (((e105 : Nat) : Int) == ((0 : Nat) : Int))), (22, .int .i64 e105), (21, .pointer (some ⟨z9, 2, none⟩)), (20, pB z9), (19, pB z9)]) (fun φ108 => [z9]) s (fun φ108 => by kernel_rfl) ?_
   intro φ108 w108 s
   rw [nat_eql (a := e105) (b := 0)]
   refine ops_done (by kernel_rfl) ?_
   rcases Bool.eq_false_or_eq_true (decide (e105 = 0)) with hc109 | hc109
   ·
    rw [hc109]
    refine cond_true_rule (b := true) (by kernel_rfl) rfl ?_
    refine wp_skip ?_
    refine wp_seq ?_
    refine wp_block ?_
    refine seqR ?_
    refine oK _ F105 1 [] 0 (fun φ110 => [(27, pB z9)]) (fun φ110 => []) s (fun φ110 => by kernel_rfl) ?_
    intro φ110 w110 s
    refine callB_rule (b := (z9, .cells #[.slice a k c, .int .i64 A105, .int .i64 e105] 106)) (F := F105) (Hr := []) (some 28) 0 s (by kernel_rfl) (by kernel_rfl) (rByteV (z9 := z9) (at0 := A105) (e := e105) hl hn9 hi105_1) (by kernel_rfl) ?_
    rintro v111 I111 w111 b111 le111 - h111 s
    replace hl := BSl.mono le111 hl
    replace hle104 := leMono le111 hle104
    obtain ⟨V111, E111, A111, rfl, rfl, h111_0, h111_1, h111_2, h111_3⟩ := h111
    refine oKD _ F105 1 [] 0 (fun φ112 => [(6, .int .u8 V111)]) (fun φ112 => []) s (fun φ112 => by kernel_rfl) (by kernel_rfl) ?_
    intro φ112 w112 s
    refine seqR ?_
    refine oK _ F105 1 [] 0 (fun φ113 => [(29, pB z9)]) (fun φ113 => []) s (fun φ113 => by kernel_rfl) ?_
    intro φ113 w113 s
    refine callB_rule (b := (z9, .cells #[.slice a k c, .int .i64 A111, .int .i64 E111] 106)) (F := F105) (Hr := []) (some 30) 0 s (by kernel_rfl) (by kernel_rfl) (rTextV (z9 := z9) (at0 := A111) (e := E111) hl hn9 h111_3 (z := 12) (by decide)) (by kernel_rfl) ?_
    rintro v114 I114 w114 b114 le114 - h114 s
    replace hl := BSl.mono le114 hl
    replace hle104 := leMono le114 hle104
    obtain ⟨S114, E114, A114, rfl, rfl, h114_0, h114_1, h114_2, h114_3⟩ := h114
    refine oKD _ F105 1 [] 0 (fun φ115 => [(7, .string ⟨(S114).toArray⟩)]) (fun φ115 => []) s (fun φ115 => by kernel_rfl) (by kernel_rfl) ?_
    intro φ115 w115 s
    refine seqR ?_
    refine oK _ F105 4 [] 0 (fun φ116 => [(34, pB z9), (33, .string ⟨(S114).toArray⟩), (32, .int .i64 (IntKind.wrap .i64 ((V111 : Nat) : Int))), (31, .int .u8 V111)]) (fun φ116 => []) s (fun φ116 => by kernel_rfl) ?_
    intro φ116 w116 s
    rw [nat_wrapI (a := V111) (by have h9 := byV_lt (P.drop A105) e105; rw [h111_0] at h9; omega)]
    refine callB_rule (b := (z9, .cells #[.slice a k c, .int .i64 A114, .int .i64 E114] 106)) (F := F105) (Hr := []) (some 35) 0 s (by kernel_rfl) (by kernel_rfl) (rTextV (z9 := z9) (at0 := A114) (e := E114) hl hn9 h114_3 (z := 40) (by decide)) (by kernel_rfl) ?_
    rintro v117 I117 w117 b117 le117 - h117 s
    replace hl := BSl.mono le117 hl
    replace hle104 := leMono le117 hle104
    obtain ⟨S117, E117, A117, rfl, rfl, h117_0, h117_1, h117_2, h117_3⟩ := h117
    refine oAD _ F105 3 [.o 1, .o 1, .o 1] 1 (fun φ118 => [(8, pB (φ118 0)), (36, .agg #[.int .i64 V111, .string ⟨(S114).toArray⟩, .string ⟨(S117).toArray⟩])]) (fun φ118 => [(z9, .cells #[.slice a k c, .int .i64 A117, .int .i64 E117] 106), (φ118 0, .cells #[.int .i64 V111, .string ⟨(S114).toArray⟩, .string ⟨(S117).toArray⟩] 42)]) (fun φ118 => [φ118 0, φ118 0, φ118 0]) s (fun φ118 => by kernel_rfl) (by kernel_rfl) ?_
    intro φ118 w118 s
    refine wp_seq ?_
    refine seqR ?_
    refine oK _ F105 5 [.o 0] 0 (fun φ119 => [(41, .bool (((E117 : Nat) : Int) == ((0 : Nat) : Int))), (40, .int .i64 E117), (39, .pointer (some ⟨z9, 2, none⟩)), (38, pB z9), (37, pB z9)]) (fun φ119 => [z9]) s (fun φ119 => by kernel_rfl) ?_
    intro φ119 w119 s
    rw [nat_eql (a := E117) (b := 0)]
    refine ops_done (by kernel_rfl) ?_
    rcases Bool.eq_false_or_eq_true (decide (E117 = 0)) with hc120 | hc120
    ·
     rw [hc120]
     refine cond_true_rule (b := true) (by kernel_rfl) rfl ?_
     refine region_rule ?_
     refine oK _ F105 2 [.o 1, .o 1, .o 1] 0 (fun φ121 => [(43, .agg #[.int .i64 V111, .string ⟨(S114).toArray⟩, .string ⟨(S117).toArray⟩]), (42, pB z9)]) (fun φ121 => [φ118 0, φ118 0, φ118 0]) s (fun φ121 => by kernel_rfl) ?_
     intro φ121 w121 s
     refine call_rule (some 44) s (Tx.refRight_c (z := ((V111 : Nat) : Int)) (A := S114) (B := S117) (by show List.length S114 ≤ 1000000; have t9 := te_short (P.drop A111) E111 ((12 : Nat) : Int); rw [h114_0, List.length_drop] at t9; omega) (by show List.length S117 ≤ 1000000; have t9 := te_short (P.drop A114) E114 ((40 : Nat) : Int); rw [h117_0, List.length_drop] at t9; omega)) (by kernel_rfl) ?_
     intro v122 I122 w122 le122 h122 s
     replace hl := BSl.mono le122 hl
     replace hle104 := leMono le122 hle104
     obtain rfl := h122
     refine oAD _ F105 3 [.o 0] 0 (fun φ123 => [(46, .pointer (some ⟨z9, 2, none⟩)), (45, pB z9)]) (fun φ123 => [(z9, .cells #[.slice a k c, .int .i64 A117, .int .i64 (Tx.rtE ((V111 : Nat) : Int) S114 S117)] 106), (φ118 0, .cells #[.int .i64 V111, .string ⟨(S114).toArray⟩, .string ⟨(S117).toArray⟩] 42)]) (fun φ123 => [z9]) s (fun φ123 => by kernel_rfl) (by kernel_rfl) ?_
     intro φ123 w123 s
     refine wp_seq ?_
     refine wp_seq ?_
     rcases row_cases42 hi105_2 with ⟨hv124, hL124, hF124⟩ | ⟨g124, cap124, cur124, hv124, hF124, hfr124⟩
     ·
      subst hv124
      subst hF124
      have hL9 : Fs105.length = 0 := by rw [hL124]; rfl
      rcases Bool.eq_false_or_eq_true (decide ((Tx.rtE ((V111 : Nat) : Int) S114 S117) = 0)) with hc125 | hc125
      ·
       refine draw_rule (C := []) ⟨(fun φ126 xs126 => [.look 0 [] [], .look 0 [] [], .look 0 [] [], .look 0 [.o 0] [z9], .sub 0 [] [] (.bool (((Tx.rtE ((V111 : Nat) : Int) S114 S117 : Nat) : Int) == ((0 : Nat) : Int))), .look 0 [] [], .look 0 [] [], .look 0 [] [], .look 0 [] [], .look 0 [] [], .look 0 [] [], .skip, .skip, .skip, .skip, .skip, .skip, .skip, .skip, .skip, .look 0 [] []]), (fun φ126 xs126 => [pB z9, pB z9, .pointer (some ⟨z9, 2, none⟩), .int .i64 (Tx.rtE ((V111 : Nat) : Int) S114 S117), .bool true, .bool true, .slice none 0 0, .int .i64 0, .bool false, .bool false, .bool false, undef, undef, undef, undef, undef, undef, undef, undef, undef, .bool false]), (fun φ126 xs126 => [[(z9, .cells #[.slice a k c, .int .i64 A117, .int .i64 (Tx.rtE ((V111 : Nat) : Int) S114 S117)] 106), (φ118 0, .cells #[.int .i64 V111, .string ⟨(S114).toArray⟩, .string ⟨(S117).toArray⟩] 42)]]), (fun φ126 xs126 => [[default, default, default, default, default, default, default, default, default, default, default, default, default, default, default, default, default, default, default, default, default]]), [], [1, 1, 1, 1, 5, 1, 1, 1, 1, 1, 1, 0, 0, 0, 0, 0, 0, 0, 0, 0, 1]⟩ (fun j => ([MP.any] : List MP).getD j MP.any) [] [4] [] (fun φ126 xs126 => []) (fun φ126 xs126 => [(47, pB z9), (48, pB z9), (49, .pointer (some ⟨z9, 2, none⟩)), (50, .int .i64 (Tx.rtE ((V111 : Nat) : Int) S114 S117)), (51, .bool true), (52, .bool true), (53, .slice none 0 0), (54, .int .i64 0), (55, .bool false), (56, .bool false), (57, .bool false), (58, undef), (59, undef), (60, undef), (61, undef), (62, undef), (63, undef), (64, undef), (65, undef), (66, undef), (67, .bool false)]) (fun φ126 xs126 => [(z9, .cells #[.slice a k c, .int .i64 A117, .int .i64 (Tx.rtE ((V111 : Nat) : Int) S114 S117)] 106), (φ118 0, .cells #[.int .i64 V111, .string ⟨(S114).toArray⟩, .string ⟨(S117).toArray⟩] 42)]) s trivial (by kernel_rfl) (by kernel_rfl) (fun _ _ => by kernel_rfl) (fun _ _ => by kernel_rfl) ⟨fun _ _ => by kernel_rfl, fun _ _ => by kernel_rfl, fun _ _ => by kernel_rfl, fun _ _ => by kernel_rfl⟩ (fun _ _ _ => by kernel_rfl) (fun _ _ => by kernel_rfl) (fun _ _ => by kernel_rfl) (fun _ _ => by kernel_rfl) (fun _ _ => by kernel_rfl) (fun _ _ => by kernel_rfl) ⟨kcast (A := ∀ (φ126 : Nat → Nat) (xs126 : Xs), (.bool (((Tx.rtE ((V111 : Nat) : Int) S114 S117 : Nat) : Int) == ((0 : Nat) : Int)) : Value) = .bool true) (by kernel_rfl) (fun φ126 xs126 => congrArg Value.bool ((nat_eql (a := (Tx.rtE ((V111 : Nat) : Int) S114 S117)) (b := 0)).trans (hc125))), trivial⟩ trivial (by kernel_rfl) trivial ?k126
       case k126 =>
        rintro φ126 xs126 I126 w126 le126 s 
        replace hl := BSl.mono le126 hl
        replace hle104 := leMono le126 hle104
        refine cond_false_rule (b := false) (by kernel_rfl) rfl ?_
        refine wp_skip ?_
        refine region_rule ?_
        refine oA [(z9, .cells #[.slice a k c, .int .i64 A117, .int .i64 (Tx.rtE ((V111 : Nat) : Int) S114 S117)] 106), (φ118 0, .cells #[.int .i64 V111, .string ⟨(S114).toArray⟩, .string ⟨(S117).toArray⟩] 42)] [] 3 [.o 1, .o 1, .o 1] 1 (fun φ127 => [(73, .slice (some ⟨(φ127 0), 0, none⟩) 1 1), (72, .agg #[.int .i64 V111, .string ⟨(S114).toArray⟩, .string ⟨(S117).toArray⟩]), (71, .slice none 0 0)]) (fun φ127 => [(z9, .cells #[.slice a k c, .int .i64 A117, .int .i64 (Tx.rtE ((V111 : Nat) : Int) S114 S117)] 106), (φ118 0, .cells #[.int .i64 V111, .string ⟨(S114).toArray⟩, .string ⟨(S117).toArray⟩] 42), (φ127 0, .cells #[.int .i64 V111, .string ⟨(S114).toArray⟩, .string ⟨(S117).toArray⟩] 42)]) (fun φ127 => [φ118 0, φ118 0, φ118 0]) s (fun φ127 => by kernel_rfl) ?_
        intro φ127 w127 s
        refine append_rule (H := [(z9, .cells #[.slice a k c, .int .i64 A117, .int .i64 (Tx.rtE ((V111 : Nat) : Int) S114 S117)] 106), (φ118 0, .cells #[.int .i64 V111, .string ⟨(S114).toArray⟩, .string ⟨(S117).toArray⟩] 42), (φ127 0, .cells #[.int .i64 V111, .string ⟨(S114).toArray⟩, .string ⟨(S117).toArray⟩] 42)]) (F := []) 30 30 42 Tryd.t42 (.agg #[.int .i64 0, .string ⟨#[]⟩, .string ⟨#[]⟩]) 3 40 (some 74) s Tryd.underlying30 (by kernel_rfl) (by kernel_rfl) (by kernel_rfl) (by kernel_rfl) (by kernel_rfl) (by decide) hi105_2 (src_own s 2 (φ127 0) #[.int .i64 V111, .string ⟨(S114).toArray⟩, .string ⟨(S117).toArray⟩] 42 30 42 1 1 3 [.int .i64 V111, .string ⟨(S114).toArray⟩, .string ⟨(S117).toArray⟩] (by kernel_rfl) Tryd.underlying30 (by kernel_rfl) (by kernel_rfl) (by kernel_rfl)) (by simp only [maxLen]; omega) (by omega) (by kernel_rfl) ?_
        intro v128 w128 F128 s h128
        refine oKD _ F128 1 [] 0 (fun φ129 => [(4, v128)]) (fun φ129 => []) s (fun φ129 => by kernel_rfl) (by kernel_rfl) ?_
        intro φ129 w129 s
        refine region_rule ?_
        refine oK _ F128 3 [] 0 (fun φ130 => [(5, .int .u64 (IntKind.wrap .u64 (((i105 : Nat) : Int) + ((1 : Nat) : Int)))), (26, .int .u64 (IntKind.wrap .u64 (((i105 : Nat) : Int) + ((1 : Nat) : Int)))), (25, .int .u64 i105)]) (fun φ130 => []) s (fun φ130 => by kernel_rfl) ?_
        intro φ130 w130 s
        rw [nat_addU (a := i105) (b := 1) (by have e9 := hi105_3; have e8 := hi105_0; have e6 := hL9; have hq0 := dF9 hc6; have hq1 := dT9 hc107; have hq2 := dT9 hc109; have hq3 := dT9 hc120; have hq4 := dT9 hc125; omega)]
        refine ops_done (by kernel_rfl) ?_
        have hf9 := fd_of (dT9 hc109) h111_0 h111_1 h111_2 h114_0 h114_1 h114_2 h117_0 h117_1 h117_2
        have hq9 := gd_next (x := Tx.rtE ((V111 : Nat) : Int) S114 S117) (dT9 hc109) hi105_5.1 hd103 (by have hq0 := dF9 hc6; have hq1 := dT9 hc107; have hq2 := dT9 hc109; have hq3 := dT9 hc120; have hq4 := dT9 hc125; have := hi105_0; omega) hf9 (.inr (.inr (.inr ⟨dT9 hc120, dT9 hc125, les_first (by have hq0 := dF9 hc6; have hq1 := dT9 hc107; have hq2 := dT9 hc109; have hq3 := dT9 hc120; have hq4 := dT9 hc125; (try simp only [List.length_nil]); omega) (dT9 hc125), dT9 hc125⟩)))
        exact ⟨⟨m105 - 1, (i105 + 1, A117, Tx.rtE ((V111 : Nat) : Int) S114 S117, v128, F128, (Fs105 ++ [(⟨((V111 : Nat) : Int), S114, S117⟩ : Fe)])), _, _, _, by have hq0 := dF9 hc6; have hq1 := dT9 hc107; have hq2 := dT9 hc109; have hq3 := dT9 hc120; have hq4 := dT9 hc125; have := hi105_0; omega, rfl, s, (List.Sublist.append (List.Sublist.cons₂ _ (List.Sublist.cons _ (List.Sublist.cons _ List.Sublist.slnil))) (List.Sublist.refl _)), by kernel_rfl, hle104, by have hq0 := dF9 hc6; have hq1 := dT9 hc107; have hq2 := dT9 hc109; have hq3 := dT9 hc120; have hq4 := dT9 hc125; have := hi105_0; show i105 + 1 + (m105 - 1) = V3; omega, h117_3, row42_snoc h128 rfl, by have := hi105_3; show (Fs105 ++ [(⟨((V111 : Nat) : Int), S114, S117⟩ : Fe)]).length = i105 + 1; rw [List.length_append, this]; rfl, by have hq0 := dF9 hc6; have hq1 := dT9 hc107; have hq2 := dT9 hc109; have hq3 := dT9 hc120; have hq4 := dT9 hc125; have h9 := ((hi105_5).1 (dT9 hc109)).1; have h8 := (co8 h9).1; have h7 := hi105_3; have h6 := hi105_0; show (Fs105 ++ [(⟨((V111 : Nat) : Int), S114, S117⟩ : Fe)]).length ≤ 8; rw [List.length_append]; simp only [List.length_cons, List.length_nil] at h7 ⊢; omega, hq9, snoc_ok hi105_6 ⟨(by show List.length S114 ≤ 1000000; have t9 := te_short (P.drop A111) E111 ((12 : Nat) : Int); rw [h114_0, List.length_drop] at t9; omega), (by show List.length S117 ≤ 1000000; have t9 := te_short (P.drop A114) E114 ((40 : Nat) : Int); rw [h117_0, List.length_drop] at t9; omega)⟩⟩⟩
      ·
       refine draw_rule (C := []) ⟨(fun φ131 xs131 => [.look 0 [] [], .look 0 [] [], .look 0 [] [], .look 0 [.o 0] [z9], .sub 0 [] [] (.bool (((Tx.rtE ((V111 : Nat) : Int) S114 S117 : Nat) : Int) == ((0 : Nat) : Int))), .look 0 [] [], .skip, .skip, .skip, .look 0 [] [], .look 0 [] [], .skip, .skip, .skip, .skip, .skip, .skip, .skip, .skip, .skip, .look 0 [] []]), (fun φ131 xs131 => [pB z9, pB z9, .pointer (some ⟨z9, 2, none⟩), .int .i64 (Tx.rtE ((V111 : Nat) : Int) S114 S117), .bool false, .bool false, undef, undef, undef, .bool false, .bool false, undef, undef, undef, undef, undef, undef, undef, undef, undef, .bool false]), (fun φ131 xs131 => [[(z9, .cells #[.slice a k c, .int .i64 A117, .int .i64 (Tx.rtE ((V111 : Nat) : Int) S114 S117)] 106), (φ118 0, .cells #[.int .i64 V111, .string ⟨(S114).toArray⟩, .string ⟨(S117).toArray⟩] 42)]]), (fun φ131 xs131 => [[default, default, default, default, default, default, default, default, default, default, default, default, default, default, default, default, default, default, default, default, default]]), [], [1, 1, 1, 1, 5, 1, 0, 0, 0, 1, 1, 0, 0, 0, 0, 0, 0, 0, 0, 0, 1]⟩ (fun j => ([MP.any] : List MP).getD j MP.any) [] [4] [] (fun φ131 xs131 => []) (fun φ131 xs131 => [(47, pB z9), (48, pB z9), (49, .pointer (some ⟨z9, 2, none⟩)), (50, .int .i64 (Tx.rtE ((V111 : Nat) : Int) S114 S117)), (51, .bool false), (52, .bool false), (53, undef), (54, undef), (55, undef), (56, .bool false), (57, .bool false), (58, undef), (59, undef), (60, undef), (61, undef), (62, undef), (63, undef), (64, undef), (65, undef), (66, undef), (67, .bool false)]) (fun φ131 xs131 => [(z9, .cells #[.slice a k c, .int .i64 A117, .int .i64 (Tx.rtE ((V111 : Nat) : Int) S114 S117)] 106), (φ118 0, .cells #[.int .i64 V111, .string ⟨(S114).toArray⟩, .string ⟨(S117).toArray⟩] 42)]) s trivial (by kernel_rfl) (by kernel_rfl) (fun _ _ => by kernel_rfl) (fun _ _ => by kernel_rfl) ⟨fun _ _ => by kernel_rfl, fun _ _ => by kernel_rfl, fun _ _ => by kernel_rfl, fun _ _ => by kernel_rfl⟩ (fun _ _ _ => by kernel_rfl) (fun _ _ => by kernel_rfl) (fun _ _ => by kernel_rfl) (fun _ _ => by kernel_rfl) (fun _ _ => by kernel_rfl) (fun _ _ => by kernel_rfl) ⟨kcast (A := ∀ (φ131 : Nat → Nat) (xs131 : Xs), (.bool (((Tx.rtE ((V111 : Nat) : Int) S114 S117 : Nat) : Int) == ((0 : Nat) : Int)) : Value) = .bool false) (by kernel_rfl) (fun φ131 xs131 => congrArg Value.bool ((nat_eql (a := (Tx.rtE ((V111 : Nat) : Int) S114 S117)) (b := 0)).trans (hc125))), trivial⟩ trivial (by kernel_rfl) trivial ?k131
       case k131 =>
        rintro φ131 xs131 I131 w131 le131 s 
        replace hl := BSl.mono le131 hl
        replace hle104 := leMono le131 hle104
        refine cond_false_rule (b := false) (by kernel_rfl) rfl ?_
        refine wp_skip ?_
        refine region_rule ?_
        refine oA [(z9, .cells #[.slice a k c, .int .i64 A117, .int .i64 (Tx.rtE ((V111 : Nat) : Int) S114 S117)] 106), (φ118 0, .cells #[.int .i64 V111, .string ⟨(S114).toArray⟩, .string ⟨(S117).toArray⟩] 42)] [] 3 [.o 1, .o 1, .o 1] 1 (fun φ132 => [(73, .slice (some ⟨(φ132 0), 0, none⟩) 1 1), (72, .agg #[.int .i64 V111, .string ⟨(S114).toArray⟩, .string ⟨(S117).toArray⟩]), (71, .slice none 0 0)]) (fun φ132 => [(z9, .cells #[.slice a k c, .int .i64 A117, .int .i64 (Tx.rtE ((V111 : Nat) : Int) S114 S117)] 106), (φ118 0, .cells #[.int .i64 V111, .string ⟨(S114).toArray⟩, .string ⟨(S117).toArray⟩] 42), (φ132 0, .cells #[.int .i64 V111, .string ⟨(S114).toArray⟩, .string ⟨(S117).toArray⟩] 42)]) (fun φ132 => [φ118 0, φ118 0, φ118 0]) s (fun φ132 => by kernel_rfl) ?_
        intro φ132 w132 s
        refine append_rule (H := [(z9, .cells #[.slice a k c, .int .i64 A117, .int .i64 (Tx.rtE ((V111 : Nat) : Int) S114 S117)] 106), (φ118 0, .cells #[.int .i64 V111, .string ⟨(S114).toArray⟩, .string ⟨(S117).toArray⟩] 42), (φ132 0, .cells #[.int .i64 V111, .string ⟨(S114).toArray⟩, .string ⟨(S117).toArray⟩] 42)]) (F := []) 30 30 42 Tryd.t42 (.agg #[.int .i64 0, .string ⟨#[]⟩, .string ⟨#[]⟩]) 3 40 (some 74) s Tryd.underlying30 (by kernel_rfl) (by kernel_rfl) (by kernel_rfl) (by kernel_rfl) (by kernel_rfl) (by decide) hi105_2 (src_own s 2 (φ132 0) #[.int .i64 V111, .string ⟨(S114).toArray⟩, .string ⟨(S117).toArray⟩] 42 30 42 1 1 3 [.int .i64 V111, .string ⟨(S114).toArray⟩, .string ⟨(S117).toArray⟩] (by kernel_rfl) Tryd.underlying30 (by kernel_rfl) (by kernel_rfl) (by kernel_rfl)) (by simp only [maxLen]; omega) (by omega) (by kernel_rfl) ?_
        intro v133 w133 F133 s h133
        refine oKD _ F133 1 [] 0 (fun φ134 => [(4, v133)]) (fun φ134 => []) s (fun φ134 => by kernel_rfl) (by kernel_rfl) ?_
        intro φ134 w134 s
        refine region_rule ?_
        refine oK _ F133 3 [] 0 (fun φ135 => [(5, .int .u64 (IntKind.wrap .u64 (((i105 : Nat) : Int) + ((1 : Nat) : Int)))), (26, .int .u64 (IntKind.wrap .u64 (((i105 : Nat) : Int) + ((1 : Nat) : Int)))), (25, .int .u64 i105)]) (fun φ135 => []) s (fun φ135 => by kernel_rfl) ?_
        intro φ135 w135 s
        rw [nat_addU (a := i105) (b := 1) (by have e9 := hi105_3; have e8 := hi105_0; have e6 := hL9; have hq0 := dF9 hc6; have hq1 := dT9 hc107; have hq2 := dT9 hc109; have hq3 := dT9 hc120; have hq4 := dF9 hc125; omega)]
        refine ops_done (by kernel_rfl) ?_
        have hf9 := fd_of (dT9 hc109) h111_0 h111_1 h111_2 h114_0 h114_1 h114_2 h117_0 h117_1 h117_2
        have hq9 := gd_next (x := Tx.rtE ((V111 : Nat) : Int) S114 S117) (dT9 hc109) hi105_5.1 hd103 (by have hq0 := dF9 hc6; have hq1 := dT9 hc107; have hq2 := dT9 hc109; have hq3 := dT9 hc120; have hq4 := dF9 hc125; have := hi105_0; omega) hf9 (.inr (.inl ⟨dT9 hc120, dF9 hc125, rfl⟩))
        exact ⟨⟨m105 - 1, (i105 + 1, A117, Tx.rtE ((V111 : Nat) : Int) S114 S117, v133, F133, (Fs105 ++ [(⟨((V111 : Nat) : Int), S114, S117⟩ : Fe)])), _, _, _, by have hq0 := dF9 hc6; have hq1 := dT9 hc107; have hq2 := dT9 hc109; have hq3 := dT9 hc120; have hq4 := dF9 hc125; have := hi105_0; omega, rfl, s, (List.Sublist.append (List.Sublist.cons₂ _ (List.Sublist.cons _ (List.Sublist.cons _ List.Sublist.slnil))) (List.Sublist.refl _)), by kernel_rfl, hle104, by have hq0 := dF9 hc6; have hq1 := dT9 hc107; have hq2 := dT9 hc109; have hq3 := dT9 hc120; have hq4 := dF9 hc125; have := hi105_0; show i105 + 1 + (m105 - 1) = V3; omega, h117_3, row42_snoc h133 rfl, by have := hi105_3; show (Fs105 ++ [(⟨((V111 : Nat) : Int), S114, S117⟩ : Fe)]).length = i105 + 1; rw [List.length_append, this]; rfl, by have hq0 := dF9 hc6; have hq1 := dT9 hc107; have hq2 := dT9 hc109; have hq3 := dT9 hc120; have hq4 := dF9 hc125; have h9 := ((hi105_5).1 (dT9 hc109)).1; have h8 := (co8 h9).1; have h7 := hi105_3; have h6 := hi105_0; show (Fs105 ++ [(⟨((V111 : Nat) : Int), S114, S117⟩ : Fe)]).length ≤ 8; rw [List.length_append]; simp only [List.length_cons, List.length_nil] at h7 ⊢; omega, hq9, snoc_ok hi105_6 ⟨(by show List.length S114 ≤ 1000000; have t9 := te_short (P.drop A111) E111 ((12 : Nat) : Int); rw [h114_0, List.length_drop] at t9; omega), (by show List.length S117 ≤ 1000000; have t9 := te_short (P.drop A114) E114 ((40 : Nat) : Int); rw [h117_0, List.length_drop] at t9; omega)⟩⟩⟩
     ·
      subst hv124
      subst hF124
      rcases Bool.eq_false_or_eq_true (decide ((Tx.rtE ((V111 : Nat) : Int) S114 S117) = 0)) with hc138 | hc138
      ·
       rcases Bool.eq_false_or_eq_true (decide (0 < Fs105.length)) with hc141 | hc141
       ·
        have hz142 := St.none0 s (g := g124) (o := .cells cur124 42) (by simp)
        have hT142 := IM.Le.refl I122
        have hlK142 := hl
        have hle104K142 := hle104
        obtain ⟨I143, le143, hk143, s⟩ := s.freezeAt 2 g124 (.cells cur124 42) [(z9, .cells #[.slice a k c, .int .i64 ((A117 : Nat) : Int), .int .i64 ((Tx.rtE ((V111 : Nat) : Int) S114 S117 : Nat) : Int)] 106), ((φ118 0), .cells #[.int .i64 ((V111 : Nat) : Int), .string ⟨(S114).toArray⟩, .string ⟨(S117).toArray⟩] 42)] (by kernel_rfl) (by kernel_rfl)
        replace hl := BSl.mono le143 hl
        replace hle104 := leMono le143 hle104
        replace hT142 := leMono le143 hT142
        have hfs142 := hfr124 _ hk143
        refine draw_rule (C := []) ⟨(fun φ144 xs144 => [.look 0 [] [], .look 0 [] [], .look 0 [] [], .look 0 [.o 0] [z9], .sub 0 [] [] (.bool (((Tx.rtE ((V111 : Nat) : Int) S114 S117 : Nat) : Int) == ((0 : Nat) : Int))), .look 0 [] [], .look 0 [] [], .look 0 [] [], .sub 0 [] [] (.bool (decide (((Fs105.length : Nat) : Int) > ((0 : Nat) : Int)))), .look 0 [] [], .look 0 [] [], .look 0 [] [], .look 0 [] [], .look 0 [] [], .sub 0 [] [] (.int .i64 (IntKind.wrap .i64 (((Fs105.length : Nat) : Int) - ((1 : Nat) : Int)))), .ran (Instr.indexAt 30 (.slice (some ⟨g124, 0, none⟩) Fs105.length cap124) (.int .i64 ((Fs105.length - 1 : Nat) : Int))), .ran (Instr.loadAt 42 (.pointer (pAt (some ⟨g124, 0, none⟩) ((Fs105.length - 1) * 3)))), .look 0 [.o 1, .o 1, .o 1] [φ118 0, φ118 0, φ118 0], .call 35 #[.agg #[.int .i64 ((List.getD Fs105 (Fs105.length - 1) Fe.z).k), .string ⟨((List.getD Fs105 (Fs105.length - 1) Fe.z).a).toArray⟩, .string ⟨((List.getD Fs105 (Fs105.length - 1) Fe.z).v).toArray⟩], .agg #[.int .i64 V111, .string ⟨(S114).toArray⟩, .string ⟨(S117).toArray⟩]], .look 0 [] [], .look 0 [] []]), (fun φ144 xs144 => [pB z9, pB z9, .pointer (some ⟨z9, 2, none⟩), .int .i64 (Tx.rtE ((V111 : Nat) : Int) S114 S117), .bool true, .bool true, .slice (some ⟨g124, 0, none⟩) Fs105.length cap124, .int .i64 Fs105.length, .bool true, .bool true, .bool true, .slice (some ⟨g124, 0, none⟩) Fs105.length cap124, .slice (some ⟨g124, 0, none⟩) Fs105.length cap124, .int .i64 Fs105.length, .int .i64 ((Fs105.length - 1 : Nat) : Int), .pointer (pAt (some ⟨g124, 0, none⟩) ((Fs105.length - 1) * 3)), .agg #[.int .i64 ((List.getD Fs105 (Fs105.length - 1) Fe.z).k), .string ⟨((List.getD Fs105 (Fs105.length - 1) Fe.z).a).toArray⟩, .string ⟨((List.getD Fs105 (Fs105.length - 1) Fe.z).v).toArray⟩], .agg #[.int .i64 V111, .string ⟨(S114).toArray⟩, .string ⟨(S117).toArray⟩], .bool (Tx.lesF ((List.getD Fs105 (Fs105.length - 1) Fe.z).k) ((List.getD Fs105 (Fs105.length - 1) Fe.z).a) ((List.getD Fs105 (Fs105.length - 1) Fe.z).v) ((V111 : Nat) : Int) S114 S117), .bool (!(Tx.lesF ((List.getD Fs105 (Fs105.length - 1) Fe.z).k) ((List.getD Fs105 (Fs105.length - 1) Fe.z).a) ((List.getD Fs105 (Fs105.length - 1) Fe.z).v) ((V111 : Nat) : Int) S114 S117)), .bool (!(Tx.lesF ((List.getD Fs105 (Fs105.length - 1) Fe.z).k) ((List.getD Fs105 (Fs105.length - 1) Fe.z).a) ((List.getD Fs105 (Fs105.length - 1) Fe.z).v) ((V111 : Nat) : Int) S114 S117))]), (fun φ144 xs144 => [[(z9, .cells #[.slice a k c, .int .i64 A117, .int .i64 (Tx.rtE ((V111 : Nat) : Int) S114 S117)] 106), (φ118 0, .cells #[.int .i64 V111, .string ⟨(S114).toArray⟩, .string ⟨(S117).toArray⟩] 42)]]), (fun φ144 xs144 => [[default, default, default, default, default, default, default, default, default, default, default, default, default, default, default, default, default, default, default, default, default]]), [], [1, 1, 1, 1, 5, 1, 1, 1, 5, 1, 1, 1, 1, 1, 5, 6, 6, 1, 3, 1, 1]⟩ (fun j => ([MP.any] : List MP).getD j MP.any) [18] [4, 8, 14] [15, 16] (fun φ144 xs144 => []) (fun φ144 xs144 => [(47, pB z9), (48, pB z9), (49, .pointer (some ⟨z9, 2, none⟩)), (50, .int .i64 (Tx.rtE ((V111 : Nat) : Int) S114 S117)), (51, .bool true), (52, .bool true), (53, .slice (some ⟨g124, 0, none⟩) Fs105.length cap124), (54, .int .i64 Fs105.length), (55, .bool true), (56, .bool true), (57, .bool true), (58, .slice (some ⟨g124, 0, none⟩) Fs105.length cap124), (59, .slice (some ⟨g124, 0, none⟩) Fs105.length cap124), (60, .int .i64 Fs105.length), (61, .int .i64 ((Fs105.length - 1 : Nat) : Int)), (62, .pointer (pAt (some ⟨g124, 0, none⟩) ((Fs105.length - 1) * 3))), (63, .agg #[.int .i64 ((List.getD Fs105 (Fs105.length - 1) Fe.z).k), .string ⟨((List.getD Fs105 (Fs105.length - 1) Fe.z).a).toArray⟩, .string ⟨((List.getD Fs105 (Fs105.length - 1) Fe.z).v).toArray⟩]), (64, .agg #[.int .i64 V111, .string ⟨(S114).toArray⟩, .string ⟨(S117).toArray⟩]), (65, .bool (Tx.lesF ((List.getD Fs105 (Fs105.length - 1) Fe.z).k) ((List.getD Fs105 (Fs105.length - 1) Fe.z).a) ((List.getD Fs105 (Fs105.length - 1) Fe.z).v) ((V111 : Nat) : Int) S114 S117)), (66, .bool (!(Tx.lesF ((List.getD Fs105 (Fs105.length - 1) Fe.z).k) ((List.getD Fs105 (Fs105.length - 1) Fe.z).a) ((List.getD Fs105 (Fs105.length - 1) Fe.z).v) ((V111 : Nat) : Int) S114 S117))), (67, .bool (!(Tx.lesF ((List.getD Fs105 (Fs105.length - 1) Fe.z).k) ((List.getD Fs105 (Fs105.length - 1) Fe.z).a) ((List.getD Fs105 (Fs105.length - 1) Fe.z).v) ((V111 : Nat) : Int) S114 S117)))]) (fun φ144 xs144 => [(z9, .cells #[.slice a k c, .int .i64 A117, .int .i64 (Tx.rtE ((V111 : Nat) : Int) S114 S117)] 106), (φ118 0, .cells #[.int .i64 V111, .string ⟨(S114).toArray⟩, .string ⟨(S117).toArray⟩] 42)]) s trivial (by kernel_rfl) (by kernel_rfl) (fun _ _ => by kernel_rfl) (fun _ _ => by kernel_rfl) ⟨fun _ _ => by kernel_rfl, fun _ _ => by kernel_rfl, fun _ _ => by kernel_rfl, fun _ _ => by kernel_rfl⟩ (fun _ _ _ => by kernel_rfl) (fun _ _ => by kernel_rfl) (fun _ _ => by kernel_rfl) (fun _ _ => by kernel_rfl) (fun _ _ => by kernel_rfl) (fun _ _ => by kernel_rfl) ⟨kcast (A := ∀ (φ144 : Nat → Nat) (xs144 : Xs), (.bool (((Tx.rtE ((V111 : Nat) : Int) S114 S117 : Nat) : Int) == ((0 : Nat) : Int)) : Value) = .bool true) (by kernel_rfl) (fun φ144 xs144 => congrArg Value.bool ((nat_eql (a := (Tx.rtE ((V111 : Nat) : Int) S114 S117)) (b := 0)).trans (hc138))), ⟨kcast (A := ∀ (φ144 : Nat → Nat) (xs144 : Xs), (.bool (decide (((Fs105.length : Nat) : Int) > ((0 : Nat) : Int))) : Value) = .bool true) (by kernel_rfl) (fun φ144 xs144 => congrArg Value.bool ((nat_gtr (a := Fs105.length) (b := 0)).trans (hc141))), ⟨kcast (A := ∀ (φ144 : Nat → Nat) (xs144 : Xs), (.int .i64 (IntKind.wrap .i64 (((Fs105.length : Nat) : Int) - ((1 : Nat) : Int))) : Value) = .int .i64 ((Fs105.length - 1 : Nat) : Int)) (by kernel_rfl) (fun φ144 xs144 => congrArg (Value.int .i64) ((nat_subI (a := Fs105.length) (b := 1) (by have e9 := hi105_3; have e8 := hi105_0; have hq0 := dF9 hc6; have hq1 := dT9 hc107; have hq2 := dT9 hc109; have hq3 := dT9 hc120; have hq4 := dT9 hc138; have hq5 := dT9 hc141; (try simp only [List.length_drop, List.length_take, List.length_append, List.length_cons, List.length_nil]); omega) (by have e9 := hi105_3; have e8 := hi105_0; have hq0 := dF9 hc6; have hq1 := dT9 hc107; have hq2 := dT9 hc109; have hq3 := dT9 hc120; have hq4 := dT9 hc138; have hq5 := dT9 hc141; (try simp only [List.length_drop, List.length_take, List.length_append, List.length_cons, List.length_nil]); omega)))), trivial⟩⟩⟩ ⟨kcast (A := ∀ (φ144 : Nat → Nat) (xs144 : Xs) (J : IM) (w : World), I143.Le J → J.Sub w → ((Instr.indexAt 30 (.slice (some ⟨g124, 0, none⟩) Fs105.length cap124) (.int .i64 ((Fs105.length - 1 : Nat) : Int))) : Sem Value).run Tryd.prog w = .ok (.pointer (pAt (some ⟨g124, 0, none⟩) ((Fs105.length - 1) * 3))) w) (by kernel_rfl) (fun φ144 xs144 J w hJ hS => fsl_idx30 (FSl.mono hJ hfs142) (by have e9 := hi105_3; have e8 := hi105_0; have hq0 := dF9 hc6; have hq1 := dT9 hc107; have hq2 := dT9 hc109; have hq3 := dT9 hc120; have hq4 := dT9 hc138; have hq5 := dT9 hc141; (try simp only [List.length_drop, List.length_take, List.length_append, List.length_cons, List.length_nil]); omega)), ⟨kcast (A := ∀ (φ144 : Nat → Nat) (xs144 : Xs) (J : IM) (w : World), I143.Le J → J.Sub w → ((Instr.loadAt 42 (.pointer (pAt (some ⟨g124, 0, none⟩) ((Fs105.length - 1) * 3)))) : Sem Value).run Tryd.prog w = .ok (.agg #[.int .i64 ((List.getD Fs105 (Fs105.length - 1) Fe.z).k), .string ⟨((List.getD Fs105 (Fs105.length - 1) Fe.z).a).toArray⟩, .string ⟨((List.getD Fs105 (Fs105.length - 1) Fe.z).v).toArray⟩]) w) (by kernel_rfl) (fun φ144 xs144 J w hJ hS => fsl_ld42 hS (FSl.mono hJ hfs142) (by have e9 := hi105_3; have e8 := hi105_0; have hq0 := dF9 hc6; have hq1 := dT9 hc107; have hq2 := dT9 hc109; have hq3 := dT9 hc120; have hq4 := dT9 hc138; have hq5 := dT9 hc141; (try simp only [List.length_drop, List.length_take, List.length_append, List.length_cons, List.length_nil]); omega)), trivial⟩⟩ (by kernel_rfl) ⟨?c144_18, trivial⟩ ?k144
        case c144_18 =>
         refine kcast (A := ∀ (φ144 : Nat → Nat) (xs144 : Xs) (J18_144 : IM), I143.Le J18_144 → Fun Tryd.prog 35 #[.agg #[.int .i64 ((List.getD Fs105 (Fs105.length - 1) Fe.z).k), .string ⟨((List.getD Fs105 (Fs105.length - 1) Fe.z).a).toArray⟩, .string ⟨((List.getD Fs105 (Fs105.length - 1) Fe.z).v).toArray⟩], .agg #[.int .i64 V111, .string ⟨(S114).toArray⟩, .string ⟨(S117).toArray⟩]] J18_144 (fun v J' => ∃ x : UX, v = .bool (Tx.lesF ((List.getD Fs105 (Fs105.length - 1) Fe.z).k) ((List.getD Fs105 (Fs105.length - 1) Fe.z).a) ((List.getD Fs105 (Fs105.length - 1) Fe.z).v) ((V111 : Nat) : Int) S114 S117) ∧ (True))) (by kernel_rfl) ?_
         intro φ144 xs144 J18_144 leJ
         exact Fun.mono (Tx.refLess_c (k := (List.getD Fs105 (Fs105.length - 1) Fe.z).k) (A := (List.getD Fs105 (Fs105.length - 1) Fe.z).a) (B := (List.getD Fs105 (Fs105.length - 1) Fe.z).v) (k' := ((V111 : Nat) : Int)) (A' := S114) (B' := S117) (hok9 _ (by have hq0 := dF9 hc6; have hq1 := dT9 hc107; have hq2 := dT9 hc109; have hq3 := dT9 hc120; have hq4 := dT9 hc138; have hq5 := dT9 hc141; omega)).1 (hok9 _ (by have hq0 := dF9 hc6; have hq1 := dT9 hc107; have hq2 := dT9 hc109; have hq3 := dT9 hc120; have hq4 := dT9 hc138; have hq5 := dT9 hc141; omega)).2 (by show List.length S114 ≤ 1000000; have t9 := te_short (P.drop A111) E111 ((12 : Nat) : Int); rw [h114_0, List.length_drop] at t9; omega) (by show List.length S117 ≤ 1000000; have t9 := te_short (P.drop A114) E114 ((40 : Nat) : Int); rw [h117_0, List.length_drop] at t9; omega)) (fun v J' _ h => ⟨UX.d, h, trivial⟩)
        case k144 =>
         rintro φ144 xs144 I144 w144 le144 s _
         replace hl := BSl.mono le144 hl
         replace hle104 := leMono le144 hle104
         replace hT142 := leMono le144 hT142
         replace hk143 := le144 _ _ hk143
         replace s := St.thaw s hk143 hz142.2.1 hz142.2.2
         have leT142 := IM.le_del (g := g124) hT142 hz142.1
         generalize IM.del I144 g124 = J142 at s leT142
         replace hl := BSl.mono leT142 hlK142
         replace hle104 := leMono leT142 hle104K142
         rcases Bool.eq_false_or_eq_true (Tx.lesF ((List.getD Fs105 (Fs105.length - 1) Fe.z).k) ((List.getD Fs105 (Fs105.length - 1) Fe.z).a) ((List.getD Fs105 (Fs105.length - 1) Fe.z).v) ((V111 : Nat) : Int) S114 S117) with hc145 | hc145
         ·
          rw [hc145]
          refine cond_false_rule (b := false) (by kernel_rfl) rfl ?_
          refine wp_skip ?_
          refine region_rule ?_
          refine oA _ [(g124, .cells cur124 42)] 3 [.o 1, .o 1, .o 1] 1 (fun φ146 => [(73, .slice (some ⟨(φ146 0), 0, none⟩) 1 1), (72, .agg #[.int .i64 V111, .string ⟨(S114).toArray⟩, .string ⟨(S117).toArray⟩]), (71, .slice (some ⟨g124, 0, none⟩) Fs105.length cap124)]) (fun φ146 => [(z9, .cells #[.slice a k c, .int .i64 A117, .int .i64 (Tx.rtE ((V111 : Nat) : Int) S114 S117)] 106), (φ118 0, .cells #[.int .i64 V111, .string ⟨(S114).toArray⟩, .string ⟨(S117).toArray⟩] 42), (φ146 0, .cells #[.int .i64 V111, .string ⟨(S114).toArray⟩, .string ⟨(S117).toArray⟩] 42)]) (fun φ146 => [φ118 0, φ118 0, φ118 0]) s (fun φ146 => by kernel_rfl) ?_
          intro φ146 w146 s
          refine append_rule (H := [(z9, .cells #[.slice a k c, .int .i64 A117, .int .i64 (Tx.rtE ((V111 : Nat) : Int) S114 S117)] 106), (φ118 0, .cells #[.int .i64 V111, .string ⟨(S114).toArray⟩, .string ⟨(S117).toArray⟩] 42), (φ146 0, .cells #[.int .i64 V111, .string ⟨(S114).toArray⟩, .string ⟨(S117).toArray⟩] 42)]) (F := [(g124, .cells cur124 42)]) 30 30 42 Tryd.t42 (.agg #[.int .i64 0, .string ⟨#[]⟩, .string ⟨#[]⟩]) 3 40 (some 74) s Tryd.underlying30 (by kernel_rfl) (by kernel_rfl) (by kernel_rfl) (by kernel_rfl) (by kernel_rfl) (by decide) hi105_2 (src_own s 2 (φ146 0) #[.int .i64 V111, .string ⟨(S114).toArray⟩, .string ⟨(S117).toArray⟩] 42 30 42 1 1 3 [.int .i64 V111, .string ⟨(S114).toArray⟩, .string ⟨(S117).toArray⟩] (by kernel_rfl) Tryd.underlying30 (by kernel_rfl) (by kernel_rfl) (by kernel_rfl)) (by simp only [maxLen]; omega) (by omega) (by kernel_rfl) ?_
          intro v147 w147 F147 s h147
          refine oKD _ F147 1 [] 0 (fun φ148 => [(4, v147)]) (fun φ148 => []) s (fun φ148 => by kernel_rfl) (by kernel_rfl) ?_
          intro φ148 w148 s
          refine region_rule ?_
          refine oK _ F147 3 [] 0 (fun φ149 => [(5, .int .u64 (IntKind.wrap .u64 (((i105 : Nat) : Int) + ((1 : Nat) : Int)))), (26, .int .u64 (IntKind.wrap .u64 (((i105 : Nat) : Int) + ((1 : Nat) : Int)))), (25, .int .u64 i105)]) (fun φ149 => []) s (fun φ149 => by kernel_rfl) ?_
          intro φ149 w149 s
          rw [nat_addU (a := i105) (b := 1) (by have e9 := hi105_3; have e8 := hi105_0; have hq0 := dF9 hc6; have hq1 := dT9 hc107; have hq2 := dT9 hc109; have hq3 := dT9 hc120; have hq4 := dT9 hc138; have hq5 := dT9 hc141; omega)]
          refine ops_done (by kernel_rfl) ?_
          have hf9 := fd_of (dT9 hc109) h111_0 h111_1 h111_2 h114_0 h114_1 h114_2 h117_0 h117_1 h117_2
          have hq9 := gd_next (x := Tx.rtE ((V111 : Nat) : Int) S114 S117) (dT9 hc109) hi105_5.1 hd103 (by have hq0 := dF9 hc6; have hq1 := dT9 hc107; have hq2 := dT9 hc109; have hq3 := dT9 hc120; have hq4 := dT9 hc138; have hq5 := dT9 hc141; have := hi105_0; omega) hf9 (.inr (.inr (.inr ⟨dT9 hc120, dT9 hc138, by have := last_pos (L := Fs105) (by have hq0 := dF9 hc6; have hq1 := dT9 hc107; have hq2 := dT9 hc109; have hq3 := dT9 hc120; have hq4 := dT9 hc138; have hq5 := dT9 hc141; omega); rw [this]; exact hc145, dT9 hc138⟩)))
          exact ⟨⟨m105 - 1, (i105 + 1, A117, Tx.rtE ((V111 : Nat) : Int) S114 S117, v147, F147, (Fs105 ++ [(⟨((V111 : Nat) : Int), S114, S117⟩ : Fe)])), _, _, _, by have hq0 := dF9 hc6; have hq1 := dT9 hc107; have hq2 := dT9 hc109; have hq3 := dT9 hc120; have hq4 := dT9 hc138; have hq5 := dT9 hc141; have := hi105_0; omega, rfl, s, (List.Sublist.append (List.Sublist.cons₂ _ (List.Sublist.cons _ (List.Sublist.cons _ List.Sublist.slnil))) (List.Sublist.refl _)), by kernel_rfl, hle104, by have hq0 := dF9 hc6; have hq1 := dT9 hc107; have hq2 := dT9 hc109; have hq3 := dT9 hc120; have hq4 := dT9 hc138; have hq5 := dT9 hc141; have := hi105_0; show i105 + 1 + (m105 - 1) = V3; omega, h117_3, row42_snoc h147 rfl, by have := hi105_3; show (Fs105 ++ [(⟨((V111 : Nat) : Int), S114, S117⟩ : Fe)]).length = i105 + 1; rw [List.length_append, this]; rfl, by have hq0 := dF9 hc6; have hq1 := dT9 hc107; have hq2 := dT9 hc109; have hq3 := dT9 hc120; have hq4 := dT9 hc138; have hq5 := dT9 hc141; have h9 := ((hi105_5).1 (dT9 hc109)).1; have h8 := (co8 h9).1; have h7 := hi105_3; have h6 := hi105_0; show (Fs105 ++ [(⟨((V111 : Nat) : Int), S114, S117⟩ : Fe)]).length ≤ 8; rw [List.length_append]; simp only [List.length_cons, List.length_nil] at h7 ⊢; omega, hq9, snoc_ok hi105_6 ⟨(by show List.length S114 ≤ 1000000; have t9 := te_short (P.drop A111) E111 ((12 : Nat) : Int); rw [h114_0, List.length_drop] at t9; omega), (by show List.length S117 ≤ 1000000; have t9 := te_short (P.drop A114) E114 ((40 : Nat) : Int); rw [h117_0, List.length_drop] at t9; omega)⟩⟩⟩
         ·
          rw [hc145]
          refine cond_true_rule (b := true) (by kernel_rfl) rfl ?_
          refine region_rule ?_
          refine oAD _ [(g124, .cells cur124 42)] 4 [.o 0] 0 (fun φ150 => [(70, .pointer (some ⟨z9, 2, none⟩)), (69, pB z9), (68, pB z9)]) (fun φ150 => [(z9, .cells #[.slice a k c, .int .i64 A117, .int .i64 6] 106), (φ118 0, .cells #[.int .i64 V111, .string ⟨(S114).toArray⟩, .string ⟨(S117).toArray⟩] 42)]) (fun φ150 => [z9]) s (fun φ150 => by kernel_rfl) (by kernel_rfl) ?_
          intro φ150 w150 s
          refine region_rule ?_
          refine oA _ [(g124, .cells cur124 42)] 3 [.o 1, .o 1, .o 1] 1 (fun φ151 => [(73, .slice (some ⟨(φ151 0), 0, none⟩) 1 1), (72, .agg #[.int .i64 V111, .string ⟨(S114).toArray⟩, .string ⟨(S117).toArray⟩]), (71, .slice (some ⟨g124, 0, none⟩) Fs105.length cap124)]) (fun φ151 => [(z9, .cells #[.slice a k c, .int .i64 A117, .int .i64 6] 106), (φ118 0, .cells #[.int .i64 V111, .string ⟨(S114).toArray⟩, .string ⟨(S117).toArray⟩] 42), (φ151 0, .cells #[.int .i64 V111, .string ⟨(S114).toArray⟩, .string ⟨(S117).toArray⟩] 42)]) (fun φ151 => [φ118 0, φ118 0, φ118 0]) s (fun φ151 => by kernel_rfl) ?_
          intro φ151 w151 s
          refine append_rule (H := [(z9, .cells #[.slice a k c, .int .i64 A117, .int .i64 6] 106), (φ118 0, .cells #[.int .i64 V111, .string ⟨(S114).toArray⟩, .string ⟨(S117).toArray⟩] 42), (φ151 0, .cells #[.int .i64 V111, .string ⟨(S114).toArray⟩, .string ⟨(S117).toArray⟩] 42)]) (F := [(g124, .cells cur124 42)]) 30 30 42 Tryd.t42 (.agg #[.int .i64 0, .string ⟨#[]⟩, .string ⟨#[]⟩]) 3 40 (some 74) s Tryd.underlying30 (by kernel_rfl) (by kernel_rfl) (by kernel_rfl) (by kernel_rfl) (by kernel_rfl) (by decide) hi105_2 (src_own s 2 (φ151 0) #[.int .i64 V111, .string ⟨(S114).toArray⟩, .string ⟨(S117).toArray⟩] 42 30 42 1 1 3 [.int .i64 V111, .string ⟨(S114).toArray⟩, .string ⟨(S117).toArray⟩] (by kernel_rfl) Tryd.underlying30 (by kernel_rfl) (by kernel_rfl) (by kernel_rfl)) (by simp only [maxLen]; omega) (by omega) (by kernel_rfl) ?_
          intro v152 w152 F152 s h152
          refine oKD _ F152 1 [] 0 (fun φ153 => [(4, v152)]) (fun φ153 => []) s (fun φ153 => by kernel_rfl) (by kernel_rfl) ?_
          intro φ153 w153 s
          refine region_rule ?_
          refine oK _ F152 3 [] 0 (fun φ154 => [(5, .int .u64 (IntKind.wrap .u64 (((i105 : Nat) : Int) + ((1 : Nat) : Int)))), (26, .int .u64 (IntKind.wrap .u64 (((i105 : Nat) : Int) + ((1 : Nat) : Int)))), (25, .int .u64 i105)]) (fun φ154 => []) s (fun φ154 => by kernel_rfl) ?_
          intro φ154 w154 s
          rw [nat_addU (a := i105) (b := 1) (by have e9 := hi105_3; have e8 := hi105_0; have hq0 := dF9 hc6; have hq1 := dT9 hc107; have hq2 := dT9 hc109; have hq3 := dT9 hc120; have hq4 := dT9 hc138; have hq5 := dT9 hc141; omega)]
          refine ops_done (by kernel_rfl) ?_
          have hf9 := fd_of (dT9 hc109) h111_0 h111_1 h111_2 h114_0 h114_1 h114_2 h117_0 h117_1 h117_2
          have hq9 := gd_next (x := 6) (dT9 hc109) hi105_5.1 hd103 (by have hq0 := dF9 hc6; have hq1 := dT9 hc107; have hq2 := dT9 hc109; have hq3 := dT9 hc120; have hq4 := dT9 hc138; have hq5 := dT9 hc141; have := hi105_0; omega) hf9 (.inr (.inr (.inl ⟨dT9 hc120, dT9 hc138, by have := last_pos (L := Fs105) (by have hq0 := dF9 hc6; have hq1 := dT9 hc107; have hq2 := dT9 hc109; have hq3 := dT9 hc120; have hq4 := dT9 hc138; have hq5 := dT9 hc141; omega); rw [this]; exact hc145, rfl⟩)))
          exact ⟨⟨m105 - 1, (i105 + 1, A117, 6, v152, F152, (Fs105 ++ [(⟨((V111 : Nat) : Int), S114, S117⟩ : Fe)])), _, _, _, by have hq0 := dF9 hc6; have hq1 := dT9 hc107; have hq2 := dT9 hc109; have hq3 := dT9 hc120; have hq4 := dT9 hc138; have hq5 := dT9 hc141; have := hi105_0; omega, rfl, s, (List.Sublist.append (List.Sublist.cons₂ _ (List.Sublist.cons _ (List.Sublist.cons _ List.Sublist.slnil))) (List.Sublist.refl _)), by kernel_rfl, hle104, by have hq0 := dF9 hc6; have hq1 := dT9 hc107; have hq2 := dT9 hc109; have hq3 := dT9 hc120; have hq4 := dT9 hc138; have hq5 := dT9 hc141; have := hi105_0; show i105 + 1 + (m105 - 1) = V3; omega, h117_3, row42_snoc h152 rfl, by have := hi105_3; show (Fs105 ++ [(⟨((V111 : Nat) : Int), S114, S117⟩ : Fe)]).length = i105 + 1; rw [List.length_append, this]; rfl, by have hq0 := dF9 hc6; have hq1 := dT9 hc107; have hq2 := dT9 hc109; have hq3 := dT9 hc120; have hq4 := dT9 hc138; have hq5 := dT9 hc141; have h9 := ((hi105_5).1 (dT9 hc109)).1; have h8 := (co8 h9).1; have h7 := hi105_3; have h6 := hi105_0; show (Fs105 ++ [(⟨((V111 : Nat) : Int), S114, S117⟩ : Fe)]).length ≤ 8; rw [List.length_append]; simp only [List.length_cons, List.length_nil] at h7 ⊢; omega, hq9, snoc_ok hi105_6 ⟨(by show List.length S114 ≤ 1000000; have t9 := te_short (P.drop A111) E111 ((12 : Nat) : Int); rw [h114_0, List.length_drop] at t9; omega), (by show List.length S117 ≤ 1000000; have t9 := te_short (P.drop A114) E114 ((40 : Nat) : Int); rw [h117_0, List.length_drop] at t9; omega)⟩⟩⟩
       ·
        have hz155 := St.none0 s (g := g124) (o := .cells cur124 42) (by simp)
        have hT155 := IM.Le.refl I122
        have hlK155 := hl
        have hle104K155 := hle104
        obtain ⟨I156, le156, hk156, s⟩ := s.freezeAt 2 g124 (.cells cur124 42) [(z9, .cells #[.slice a k c, .int .i64 ((A117 : Nat) : Int), .int .i64 ((Tx.rtE ((V111 : Nat) : Int) S114 S117 : Nat) : Int)] 106), ((φ118 0), .cells #[.int .i64 ((V111 : Nat) : Int), .string ⟨(S114).toArray⟩, .string ⟨(S117).toArray⟩] 42)] (by kernel_rfl) (by kernel_rfl)
        replace hl := BSl.mono le156 hl
        replace hle104 := leMono le156 hle104
        replace hT155 := leMono le156 hT155
        have hfs155 := hfr124 _ hk156
        refine draw_rule (C := []) ⟨(fun φ157 xs157 => [.look 0 [] [], .look 0 [] [], .look 0 [] [], .look 0 [.o 0] [z9], .sub 0 [] [] (.bool (((Tx.rtE ((V111 : Nat) : Int) S114 S117 : Nat) : Int) == ((0 : Nat) : Int))), .look 0 [] [], .look 0 [] [], .look 0 [] [], .sub 0 [] [] (.bool (decide (((Fs105.length : Nat) : Int) > ((0 : Nat) : Int)))), .look 0 [] [], .look 0 [] [], .skip, .skip, .skip, .skip, .skip, .skip, .skip, .skip, .skip, .look 0 [] []]), (fun φ157 xs157 => [pB z9, pB z9, .pointer (some ⟨z9, 2, none⟩), .int .i64 (Tx.rtE ((V111 : Nat) : Int) S114 S117), .bool true, .bool true, .slice (some ⟨g124, 0, none⟩) Fs105.length cap124, .int .i64 Fs105.length, .bool false, .bool false, .bool false, undef, undef, undef, undef, undef, undef, undef, undef, undef, .bool false]), (fun φ157 xs157 => [[(z9, .cells #[.slice a k c, .int .i64 A117, .int .i64 (Tx.rtE ((V111 : Nat) : Int) S114 S117)] 106), (φ118 0, .cells #[.int .i64 V111, .string ⟨(S114).toArray⟩, .string ⟨(S117).toArray⟩] 42)]]), (fun φ157 xs157 => [[default, default, default, default, default, default, default, default, default, default, default, default, default, default, default, default, default, default, default, default, default]]), [], [1, 1, 1, 1, 5, 1, 1, 1, 5, 1, 1, 0, 0, 0, 0, 0, 0, 0, 0, 0, 1]⟩ (fun j => ([MP.any] : List MP).getD j MP.any) [] [4, 8] [] (fun φ157 xs157 => []) (fun φ157 xs157 => [(47, pB z9), (48, pB z9), (49, .pointer (some ⟨z9, 2, none⟩)), (50, .int .i64 (Tx.rtE ((V111 : Nat) : Int) S114 S117)), (51, .bool true), (52, .bool true), (53, .slice (some ⟨g124, 0, none⟩) Fs105.length cap124), (54, .int .i64 Fs105.length), (55, .bool false), (56, .bool false), (57, .bool false), (58, undef), (59, undef), (60, undef), (61, undef), (62, undef), (63, undef), (64, undef), (65, undef), (66, undef), (67, .bool false)]) (fun φ157 xs157 => [(z9, .cells #[.slice a k c, .int .i64 A117, .int .i64 (Tx.rtE ((V111 : Nat) : Int) S114 S117)] 106), (φ118 0, .cells #[.int .i64 V111, .string ⟨(S114).toArray⟩, .string ⟨(S117).toArray⟩] 42)]) s trivial (by kernel_rfl) (by kernel_rfl) (fun _ _ => by kernel_rfl) (fun _ _ => by kernel_rfl) ⟨fun _ _ => by kernel_rfl, fun _ _ => by kernel_rfl, fun _ _ => by kernel_rfl, fun _ _ => by kernel_rfl⟩ (fun _ _ _ => by kernel_rfl) (fun _ _ => by kernel_rfl) (fun _ _ => by kernel_rfl) (fun _ _ => by kernel_rfl) (fun _ _ => by kernel_rfl) (fun _ _ => by kernel_rfl) ⟨kcast (A := ∀ (φ157 : Nat → Nat) (xs157 : Xs), (.bool (((Tx.rtE ((V111 : Nat) : Int) S114 S117 : Nat) : Int) == ((0 : Nat) : Int)) : Value) = .bool true) (by kernel_rfl) (fun φ157 xs157 => congrArg Value.bool ((nat_eql (a := (Tx.rtE ((V111 : Nat) : Int) S114 S117)) (b := 0)).trans (hc138))), ⟨kcast (A := ∀ (φ157 : Nat → Nat) (xs157 : Xs), (.bool (decide (((Fs105.length : Nat) : Int) > ((0 : Nat) : Int))) : Value) = .bool false) (by kernel_rfl) (fun φ157 xs157 => congrArg Value.bool ((nat_gtr (a := Fs105.length) (b := 0)).trans (hc141))), trivial⟩⟩ trivial (by kernel_rfl) trivial ?k157
        case k157 =>
         rintro φ157 xs157 I157 w157 le157 s 
         replace hl := BSl.mono le157 hl
         replace hle104 := leMono le157 hle104
         replace hT155 := leMono le157 hT155
         replace hk156 := le157 _ _ hk156
         replace s := St.thaw s hk156 hz155.2.1 hz155.2.2
         have leT155 := IM.le_del (g := g124) hT155 hz155.1
         generalize IM.del I157 g124 = J155 at s leT155
         replace hl := BSl.mono leT155 hlK155
         replace hle104 := leMono leT155 hle104K155
         refine cond_false_rule (b := false) (by kernel_rfl) rfl ?_
         refine wp_skip ?_
         refine region_rule ?_
         refine oA _ [(g124, .cells cur124 42)] 3 [.o 1, .o 1, .o 1] 1 (fun φ158 => [(73, .slice (some ⟨(φ158 0), 0, none⟩) 1 1), (72, .agg #[.int .i64 V111, .string ⟨(S114).toArray⟩, .string ⟨(S117).toArray⟩]), (71, .slice (some ⟨g124, 0, none⟩) Fs105.length cap124)]) (fun φ158 => [(z9, .cells #[.slice a k c, .int .i64 A117, .int .i64 (Tx.rtE ((V111 : Nat) : Int) S114 S117)] 106), (φ118 0, .cells #[.int .i64 V111, .string ⟨(S114).toArray⟩, .string ⟨(S117).toArray⟩] 42), (φ158 0, .cells #[.int .i64 V111, .string ⟨(S114).toArray⟩, .string ⟨(S117).toArray⟩] 42)]) (fun φ158 => [φ118 0, φ118 0, φ118 0]) s (fun φ158 => by kernel_rfl) ?_
         intro φ158 w158 s
         refine append_rule (H := [(z9, .cells #[.slice a k c, .int .i64 A117, .int .i64 (Tx.rtE ((V111 : Nat) : Int) S114 S117)] 106), (φ118 0, .cells #[.int .i64 V111, .string ⟨(S114).toArray⟩, .string ⟨(S117).toArray⟩] 42), (φ158 0, .cells #[.int .i64 V111, .string ⟨(S114).toArray⟩, .string ⟨(S117).toArray⟩] 42)]) (F := [(g124, .cells cur124 42)]) 30 30 42 Tryd.t42 (.agg #[.int .i64 0, .string ⟨#[]⟩, .string ⟨#[]⟩]) 3 40 (some 74) s Tryd.underlying30 (by kernel_rfl) (by kernel_rfl) (by kernel_rfl) (by kernel_rfl) (by kernel_rfl) (by decide) hi105_2 (src_own s 2 (φ158 0) #[.int .i64 V111, .string ⟨(S114).toArray⟩, .string ⟨(S117).toArray⟩] 42 30 42 1 1 3 [.int .i64 V111, .string ⟨(S114).toArray⟩, .string ⟨(S117).toArray⟩] (by kernel_rfl) Tryd.underlying30 (by kernel_rfl) (by kernel_rfl) (by kernel_rfl)) (by simp only [maxLen]; omega) (by omega) (by kernel_rfl) ?_
         intro v159 w159 F159 s h159
         refine oKD _ F159 1 [] 0 (fun φ160 => [(4, v159)]) (fun φ160 => []) s (fun φ160 => by kernel_rfl) (by kernel_rfl) ?_
         intro φ160 w160 s
         refine region_rule ?_
         refine oK _ F159 3 [] 0 (fun φ161 => [(5, .int .u64 (IntKind.wrap .u64 (((i105 : Nat) : Int) + ((1 : Nat) : Int)))), (26, .int .u64 (IntKind.wrap .u64 (((i105 : Nat) : Int) + ((1 : Nat) : Int)))), (25, .int .u64 i105)]) (fun φ161 => []) s (fun φ161 => by kernel_rfl) ?_
         intro φ161 w161 s
         rw [nat_addU (a := i105) (b := 1) (by have e9 := hi105_3; have e8 := hi105_0; have hq0 := dF9 hc6; have hq1 := dT9 hc107; have hq2 := dT9 hc109; have hq3 := dT9 hc120; have hq4 := dT9 hc138; have hq5 := dF9 hc141; omega)]
         refine ops_done (by kernel_rfl) ?_
         have hf9 := fd_of (dT9 hc109) h111_0 h111_1 h111_2 h114_0 h114_1 h114_2 h117_0 h117_1 h117_2
         have hq9 := gd_next (x := Tx.rtE ((V111 : Nat) : Int) S114 S117) (dT9 hc109) hi105_5.1 hd103 (by have hq0 := dF9 hc6; have hq1 := dT9 hc107; have hq2 := dT9 hc109; have hq3 := dT9 hc120; have hq4 := dT9 hc138; have hq5 := dF9 hc141; have := hi105_0; omega) hf9 (.inr (.inr (.inr ⟨dT9 hc120, dT9 hc138, les_first (by have hq0 := dF9 hc6; have hq1 := dT9 hc107; have hq2 := dT9 hc109; have hq3 := dT9 hc120; have hq4 := dT9 hc138; have hq5 := dF9 hc141; (try simp only [List.length_nil]); omega) (dT9 hc138), dT9 hc138⟩)))
         exact ⟨⟨m105 - 1, (i105 + 1, A117, Tx.rtE ((V111 : Nat) : Int) S114 S117, v159, F159, (Fs105 ++ [(⟨((V111 : Nat) : Int), S114, S117⟩ : Fe)])), _, _, _, by have hq0 := dF9 hc6; have hq1 := dT9 hc107; have hq2 := dT9 hc109; have hq3 := dT9 hc120; have hq4 := dT9 hc138; have hq5 := dF9 hc141; have := hi105_0; omega, rfl, s, (List.Sublist.append (List.Sublist.cons₂ _ (List.Sublist.cons _ (List.Sublist.cons _ List.Sublist.slnil))) (List.Sublist.refl _)), by kernel_rfl, hle104, by have hq0 := dF9 hc6; have hq1 := dT9 hc107; have hq2 := dT9 hc109; have hq3 := dT9 hc120; have hq4 := dT9 hc138; have hq5 := dF9 hc141; have := hi105_0; show i105 + 1 + (m105 - 1) = V3; omega, h117_3, row42_snoc h159 rfl, by have := hi105_3; show (Fs105 ++ [(⟨((V111 : Nat) : Int), S114, S117⟩ : Fe)]).length = i105 + 1; rw [List.length_append, this]; rfl, by have hq0 := dF9 hc6; have hq1 := dT9 hc107; have hq2 := dT9 hc109; have hq3 := dT9 hc120; have hq4 := dT9 hc138; have hq5 := dF9 hc141; have h9 := ((hi105_5).1 (dT9 hc109)).1; have h8 := (co8 h9).1; have h7 := hi105_3; have h6 := hi105_0; show (Fs105 ++ [(⟨((V111 : Nat) : Int), S114, S117⟩ : Fe)]).length ≤ 8; rw [List.length_append]; simp only [List.length_cons, List.length_nil] at h7 ⊢; omega, hq9, snoc_ok hi105_6 ⟨(by show List.length S114 ≤ 1000000; have t9 := te_short (P.drop A111) E111 ((12 : Nat) : Int); rw [h114_0, List.length_drop] at t9; omega), (by show List.length S117 ≤ 1000000; have t9 := te_short (P.drop A114) E114 ((40 : Nat) : Int); rw [h117_0, List.length_drop] at t9; omega)⟩⟩⟩
      ·
       have hz162 := St.none0 s (g := g124) (o := .cells cur124 42) (by simp)
       have hT162 := IM.Le.refl I122
       have hlK162 := hl
       have hle104K162 := hle104
       obtain ⟨I163, le163, hk163, s⟩ := s.freezeAt 2 g124 (.cells cur124 42) [(z9, .cells #[.slice a k c, .int .i64 ((A117 : Nat) : Int), .int .i64 ((Tx.rtE ((V111 : Nat) : Int) S114 S117 : Nat) : Int)] 106), ((φ118 0), .cells #[.int .i64 ((V111 : Nat) : Int), .string ⟨(S114).toArray⟩, .string ⟨(S117).toArray⟩] 42)] (by kernel_rfl) (by kernel_rfl)
       replace hl := BSl.mono le163 hl
       replace hle104 := leMono le163 hle104
       replace hT162 := leMono le163 hT162
       have hfs162 := hfr124 _ hk163
       refine draw_rule (C := []) ⟨(fun φ164 xs164 => [.look 0 [] [], .look 0 [] [], .look 0 [] [], .look 0 [.o 0] [z9], .sub 0 [] [] (.bool (((Tx.rtE ((V111 : Nat) : Int) S114 S117 : Nat) : Int) == ((0 : Nat) : Int))), .look 0 [] [], .skip, .skip, .skip, .look 0 [] [], .look 0 [] [], .skip, .skip, .skip, .skip, .skip, .skip, .skip, .skip, .skip, .look 0 [] []]), (fun φ164 xs164 => [pB z9, pB z9, .pointer (some ⟨z9, 2, none⟩), .int .i64 (Tx.rtE ((V111 : Nat) : Int) S114 S117), .bool false, .bool false, undef, undef, undef, .bool false, .bool false, undef, undef, undef, undef, undef, undef, undef, undef, undef, .bool false]), (fun φ164 xs164 => [[(z9, .cells #[.slice a k c, .int .i64 A117, .int .i64 (Tx.rtE ((V111 : Nat) : Int) S114 S117)] 106), (φ118 0, .cells #[.int .i64 V111, .string ⟨(S114).toArray⟩, .string ⟨(S117).toArray⟩] 42)]]), (fun φ164 xs164 => [[default, default, default, default, default, default, default, default, default, default, default, default, default, default, default, default, default, default, default, default, default]]), [], [1, 1, 1, 1, 5, 1, 0, 0, 0, 1, 1, 0, 0, 0, 0, 0, 0, 0, 0, 0, 1]⟩ (fun j => ([MP.any] : List MP).getD j MP.any) [] [4] [] (fun φ164 xs164 => []) (fun φ164 xs164 => [(47, pB z9), (48, pB z9), (49, .pointer (some ⟨z9, 2, none⟩)), (50, .int .i64 (Tx.rtE ((V111 : Nat) : Int) S114 S117)), (51, .bool false), (52, .bool false), (53, undef), (54, undef), (55, undef), (56, .bool false), (57, .bool false), (58, undef), (59, undef), (60, undef), (61, undef), (62, undef), (63, undef), (64, undef), (65, undef), (66, undef), (67, .bool false)]) (fun φ164 xs164 => [(z9, .cells #[.slice a k c, .int .i64 A117, .int .i64 (Tx.rtE ((V111 : Nat) : Int) S114 S117)] 106), (φ118 0, .cells #[.int .i64 V111, .string ⟨(S114).toArray⟩, .string ⟨(S117).toArray⟩] 42)]) s trivial (by kernel_rfl) (by kernel_rfl) (fun _ _ => by kernel_rfl) (fun _ _ => by kernel_rfl) ⟨fun _ _ => by kernel_rfl, fun _ _ => by kernel_rfl, fun _ _ => by kernel_rfl, fun _ _ => by kernel_rfl⟩ (fun _ _ _ => by kernel_rfl) (fun _ _ => by kernel_rfl) (fun _ _ => by kernel_rfl) (fun _ _ => by kernel_rfl) (fun _ _ => by kernel_rfl) (fun _ _ => by kernel_rfl) ⟨kcast (A := ∀ (φ164 : Nat → Nat) (xs164 : Xs), (.bool (((Tx.rtE ((V111 : Nat) : Int) S114 S117 : Nat) : Int) == ((0 : Nat) : Int)) : Value) = .bool false) (by kernel_rfl) (fun φ164 xs164 => congrArg Value.bool ((nat_eql (a := (Tx.rtE ((V111 : Nat) : Int) S114 S117)) (b := 0)).trans (hc138))), trivial⟩ trivial (by kernel_rfl) trivial ?k164
       case k164 =>
        rintro φ164 xs164 I164 w164 le164 s 
        replace hl := BSl.mono le164 hl
        replace hle104 := leMono le164 hle104
        replace hT162 := leMono le164 hT162
        replace hk163 := le164 _ _ hk163
        replace s := St.thaw s hk163 hz162.2.1 hz162.2.2
        have leT162 := IM.le_del (g := g124) hT162 hz162.1
        generalize IM.del I164 g124 = J162 at s leT162
        replace hl := BSl.mono leT162 hlK162
        replace hle104 := leMono leT162 hle104K162
        refine cond_false_rule (b := false) (by kernel_rfl) rfl ?_
        refine wp_skip ?_
        refine region_rule ?_
        refine oA _ [(g124, .cells cur124 42)] 3 [.o 1, .o 1, .o 1] 1 (fun φ165 => [(73, .slice (some ⟨(φ165 0), 0, none⟩) 1 1), (72, .agg #[.int .i64 V111, .string ⟨(S114).toArray⟩, .string ⟨(S117).toArray⟩]), (71, .slice (some ⟨g124, 0, none⟩) Fs105.length cap124)]) (fun φ165 => [(z9, .cells #[.slice a k c, .int .i64 A117, .int .i64 (Tx.rtE ((V111 : Nat) : Int) S114 S117)] 106), (φ118 0, .cells #[.int .i64 V111, .string ⟨(S114).toArray⟩, .string ⟨(S117).toArray⟩] 42), (φ165 0, .cells #[.int .i64 V111, .string ⟨(S114).toArray⟩, .string ⟨(S117).toArray⟩] 42)]) (fun φ165 => [φ118 0, φ118 0, φ118 0]) s (fun φ165 => by kernel_rfl) ?_
        intro φ165 w165 s
        refine append_rule (H := [(z9, .cells #[.slice a k c, .int .i64 A117, .int .i64 (Tx.rtE ((V111 : Nat) : Int) S114 S117)] 106), (φ118 0, .cells #[.int .i64 V111, .string ⟨(S114).toArray⟩, .string ⟨(S117).toArray⟩] 42), (φ165 0, .cells #[.int .i64 V111, .string ⟨(S114).toArray⟩, .string ⟨(S117).toArray⟩] 42)]) (F := [(g124, .cells cur124 42)]) 30 30 42 Tryd.t42 (.agg #[.int .i64 0, .string ⟨#[]⟩, .string ⟨#[]⟩]) 3 40 (some 74) s Tryd.underlying30 (by kernel_rfl) (by kernel_rfl) (by kernel_rfl) (by kernel_rfl) (by kernel_rfl) (by decide) hi105_2 (src_own s 2 (φ165 0) #[.int .i64 V111, .string ⟨(S114).toArray⟩, .string ⟨(S117).toArray⟩] 42 30 42 1 1 3 [.int .i64 V111, .string ⟨(S114).toArray⟩, .string ⟨(S117).toArray⟩] (by kernel_rfl) Tryd.underlying30 (by kernel_rfl) (by kernel_rfl) (by kernel_rfl)) (by simp only [maxLen]; omega) (by omega) (by kernel_rfl) ?_
        intro v166 w166 F166 s h166
        refine oKD _ F166 1 [] 0 (fun φ167 => [(4, v166)]) (fun φ167 => []) s (fun φ167 => by kernel_rfl) (by kernel_rfl) ?_
        intro φ167 w167 s
        refine region_rule ?_
        refine oK _ F166 3 [] 0 (fun φ168 => [(5, .int .u64 (IntKind.wrap .u64 (((i105 : Nat) : Int) + ((1 : Nat) : Int)))), (26, .int .u64 (IntKind.wrap .u64 (((i105 : Nat) : Int) + ((1 : Nat) : Int)))), (25, .int .u64 i105)]) (fun φ168 => []) s (fun φ168 => by kernel_rfl) ?_
        intro φ168 w168 s
        rw [nat_addU (a := i105) (b := 1) (by have e9 := hi105_3; have e8 := hi105_0; have hq0 := dF9 hc6; have hq1 := dT9 hc107; have hq2 := dT9 hc109; have hq3 := dT9 hc120; have hq4 := dF9 hc138; omega)]
        refine ops_done (by kernel_rfl) ?_
        have hf9 := fd_of (dT9 hc109) h111_0 h111_1 h111_2 h114_0 h114_1 h114_2 h117_0 h117_1 h117_2
        have hq9 := gd_next (x := Tx.rtE ((V111 : Nat) : Int) S114 S117) (dT9 hc109) hi105_5.1 hd103 (by have hq0 := dF9 hc6; have hq1 := dT9 hc107; have hq2 := dT9 hc109; have hq3 := dT9 hc120; have hq4 := dF9 hc138; have := hi105_0; omega) hf9 (.inr (.inl ⟨dT9 hc120, dF9 hc138, rfl⟩))
        exact ⟨⟨m105 - 1, (i105 + 1, A117, Tx.rtE ((V111 : Nat) : Int) S114 S117, v166, F166, (Fs105 ++ [(⟨((V111 : Nat) : Int), S114, S117⟩ : Fe)])), _, _, _, by have hq0 := dF9 hc6; have hq1 := dT9 hc107; have hq2 := dT9 hc109; have hq3 := dT9 hc120; have hq4 := dF9 hc138; have := hi105_0; omega, rfl, s, (List.Sublist.append (List.Sublist.cons₂ _ (List.Sublist.cons _ (List.Sublist.cons _ List.Sublist.slnil))) (List.Sublist.refl _)), by kernel_rfl, hle104, by have hq0 := dF9 hc6; have hq1 := dT9 hc107; have hq2 := dT9 hc109; have hq3 := dT9 hc120; have hq4 := dF9 hc138; have := hi105_0; show i105 + 1 + (m105 - 1) = V3; omega, h117_3, row42_snoc h166 rfl, by have := hi105_3; show (Fs105 ++ [(⟨((V111 : Nat) : Int), S114, S117⟩ : Fe)]).length = i105 + 1; rw [List.length_append, this]; rfl, by have hq0 := dF9 hc6; have hq1 := dT9 hc107; have hq2 := dT9 hc109; have hq3 := dT9 hc120; have hq4 := dF9 hc138; have h9 := ((hi105_5).1 (dT9 hc109)).1; have h8 := (co8 h9).1; have h7 := hi105_3; have h6 := hi105_0; show (Fs105 ++ [(⟨((V111 : Nat) : Int), S114, S117⟩ : Fe)]).length ≤ 8; rw [List.length_append]; simp only [List.length_cons, List.length_nil] at h7 ⊢; omega, hq9, snoc_ok hi105_6 ⟨(by show List.length S114 ≤ 1000000; have t9 := te_short (P.drop A111) E111 ((12 : Nat) : Int); rw [h114_0, List.length_drop] at t9; omega), (by show List.length S117 ≤ 1000000; have t9 := te_short (P.drop A114) E114 ((40 : Nat) : Int); rw [h117_0, List.length_drop] at t9; omega)⟩⟩⟩
    ·
     rw [hc120]
     refine cond_false_rule (b := false) (by kernel_rfl) rfl ?_
     refine wp_skip ?_
     refine wp_seq ?_
     refine wp_seq ?_
     rcases row_cases42 hi105_2 with ⟨hv169, hL169, hF169⟩ | ⟨g169, cap169, cur169, hv169, hF169, hfr169⟩
     ·
      subst hv169
      subst hF169
      have hL9 : Fs105.length = 0 := by rw [hL169]; rfl
      refine draw_rule (C := []) ⟨(fun φ170 xs170 => [.look 0 [] [], .look 0 [] [], .look 0 [] [], .look 0 [.o 0] [z9], .sub 0 [] [] (.bool (((E117 : Nat) : Int) == ((0 : Nat) : Int))), .look 0 [] [], .skip, .skip, .skip, .look 0 [] [], .look 0 [] [], .skip, .skip, .skip, .skip, .skip, .skip, .skip, .skip, .skip, .look 0 [] []]), (fun φ170 xs170 => [pB z9, pB z9, .pointer (some ⟨z9, 2, none⟩), .int .i64 E117, .bool false, .bool false, undef, undef, undef, .bool false, .bool false, undef, undef, undef, undef, undef, undef, undef, undef, undef, .bool false]), (fun φ170 xs170 => [[(z9, .cells #[.slice a k c, .int .i64 A117, .int .i64 E117] 106), (φ118 0, .cells #[.int .i64 V111, .string ⟨(S114).toArray⟩, .string ⟨(S117).toArray⟩] 42)]]), (fun φ170 xs170 => [[default, default, default, default, default, default, default, default, default, default, default, default, default, default, default, default, default, default, default, default, default]]), [], [1, 1, 1, 1, 5, 1, 0, 0, 0, 1, 1, 0, 0, 0, 0, 0, 0, 0, 0, 0, 1]⟩ (fun j => ([MP.any] : List MP).getD j MP.any) [] [4] [] (fun φ170 xs170 => []) (fun φ170 xs170 => [(47, pB z9), (48, pB z9), (49, .pointer (some ⟨z9, 2, none⟩)), (50, .int .i64 E117), (51, .bool false), (52, .bool false), (53, undef), (54, undef), (55, undef), (56, .bool false), (57, .bool false), (58, undef), (59, undef), (60, undef), (61, undef), (62, undef), (63, undef), (64, undef), (65, undef), (66, undef), (67, .bool false)]) (fun φ170 xs170 => [(z9, .cells #[.slice a k c, .int .i64 A117, .int .i64 E117] 106), (φ118 0, .cells #[.int .i64 V111, .string ⟨(S114).toArray⟩, .string ⟨(S117).toArray⟩] 42)]) s trivial (by kernel_rfl) (by kernel_rfl) (fun _ _ => by kernel_rfl) (fun _ _ => by kernel_rfl) ⟨fun _ _ => by kernel_rfl, fun _ _ => by kernel_rfl, fun _ _ => by kernel_rfl, fun _ _ => by kernel_rfl⟩ (fun _ _ _ => by kernel_rfl) (fun _ _ => by kernel_rfl) (fun _ _ => by kernel_rfl) (fun _ _ => by kernel_rfl) (fun _ _ => by kernel_rfl) (fun _ _ => by kernel_rfl) ⟨kcast (A := ∀ (φ170 : Nat → Nat) (xs170 : Xs), (.bool (((E117 : Nat) : Int) == ((0 : Nat) : Int)) : Value) = .bool false) (by kernel_rfl) (fun φ170 xs170 => congrArg Value.bool ((nat_eql (a := E117) (b := 0)).trans (hc120))), trivial⟩ trivial (by kernel_rfl) trivial ?k170
      case k170 =>
       rintro φ170 xs170 I170 w170 le170 s 
       replace hl := BSl.mono le170 hl
       replace hle104 := leMono le170 hle104
       refine cond_false_rule (b := false) (by kernel_rfl) rfl ?_
       refine wp_skip ?_
       refine region_rule ?_
       refine oA [(z9, .cells #[.slice a k c, .int .i64 A117, .int .i64 E117] 106), (φ118 0, .cells #[.int .i64 V111, .string ⟨(S114).toArray⟩, .string ⟨(S117).toArray⟩] 42)] [] 3 [.o 1, .o 1, .o 1] 1 (fun φ171 => [(73, .slice (some ⟨(φ171 0), 0, none⟩) 1 1), (72, .agg #[.int .i64 V111, .string ⟨(S114).toArray⟩, .string ⟨(S117).toArray⟩]), (71, .slice none 0 0)]) (fun φ171 => [(z9, .cells #[.slice a k c, .int .i64 A117, .int .i64 E117] 106), (φ118 0, .cells #[.int .i64 V111, .string ⟨(S114).toArray⟩, .string ⟨(S117).toArray⟩] 42), (φ171 0, .cells #[.int .i64 V111, .string ⟨(S114).toArray⟩, .string ⟨(S117).toArray⟩] 42)]) (fun φ171 => [φ118 0, φ118 0, φ118 0]) s (fun φ171 => by kernel_rfl) ?_
       intro φ171 w171 s
       refine append_rule (H := [(z9, .cells #[.slice a k c, .int .i64 A117, .int .i64 E117] 106), (φ118 0, .cells #[.int .i64 V111, .string ⟨(S114).toArray⟩, .string ⟨(S117).toArray⟩] 42), (φ171 0, .cells #[.int .i64 V111, .string ⟨(S114).toArray⟩, .string ⟨(S117).toArray⟩] 42)]) (F := []) 30 30 42 Tryd.t42 (.agg #[.int .i64 0, .string ⟨#[]⟩, .string ⟨#[]⟩]) 3 40 (some 74) s Tryd.underlying30 (by kernel_rfl) (by kernel_rfl) (by kernel_rfl) (by kernel_rfl) (by kernel_rfl) (by decide) hi105_2 (src_own s 2 (φ171 0) #[.int .i64 V111, .string ⟨(S114).toArray⟩, .string ⟨(S117).toArray⟩] 42 30 42 1 1 3 [.int .i64 V111, .string ⟨(S114).toArray⟩, .string ⟨(S117).toArray⟩] (by kernel_rfl) Tryd.underlying30 (by kernel_rfl) (by kernel_rfl) (by kernel_rfl)) (by simp only [maxLen]; omega) (by omega) (by kernel_rfl) ?_
       intro v172 w172 F172 s h172
       refine oKD _ F172 1 [] 0 (fun φ173 => [(4, v172)]) (fun φ173 => []) s (fun φ173 => by kernel_rfl) (by kernel_rfl) ?_
       intro φ173 w173 s
       refine region_rule ?_
       refine oK _ F172 3 [] 0 (fun φ174 => [(5, .int .u64 (IntKind.wrap .u64 (((i105 : Nat) : Int) + ((1 : Nat) : Int)))), (26, .int .u64 (IntKind.wrap .u64 (((i105 : Nat) : Int) + ((1 : Nat) : Int)))), (25, .int .u64 i105)]) (fun φ174 => []) s (fun φ174 => by kernel_rfl) ?_
       intro φ174 w174 s
       rw [nat_addU (a := i105) (b := 1) (by have e9 := hi105_3; have e8 := hi105_0; have e6 := hL9; have hq0 := dF9 hc6; have hq1 := dT9 hc107; have hq2 := dT9 hc109; have hq3 := dF9 hc120; omega)]
       refine ops_done (by kernel_rfl) ?_
       have hf9 := fd_of (dT9 hc109) h111_0 h111_1 h111_2 h114_0 h114_1 h114_2 h117_0 h117_1 h117_2
       have hq9 := gd_next (x := E117) (dT9 hc109) hi105_5.1 hd103 (by have hq0 := dF9 hc6; have hq1 := dT9 hc107; have hq2 := dT9 hc109; have hq3 := dF9 hc120; have := hi105_0; omega) hf9 (.inl ⟨dF9 hc120, rfl⟩)
       exact ⟨⟨m105 - 1, (i105 + 1, A117, E117, v172, F172, (Fs105 ++ [(⟨((V111 : Nat) : Int), S114, S117⟩ : Fe)])), _, _, _, by have hq0 := dF9 hc6; have hq1 := dT9 hc107; have hq2 := dT9 hc109; have hq3 := dF9 hc120; have := hi105_0; omega, rfl, s, (List.Sublist.append (List.Sublist.cons₂ _ (List.Sublist.cons _ (List.Sublist.cons _ List.Sublist.slnil))) (List.Sublist.refl _)), by kernel_rfl, hle104, by have hq0 := dF9 hc6; have hq1 := dT9 hc107; have hq2 := dT9 hc109; have hq3 := dF9 hc120; have := hi105_0; show i105 + 1 + (m105 - 1) = V3; omega, h117_3, row42_snoc h172 rfl, by have := hi105_3; show (Fs105 ++ [(⟨((V111 : Nat) : Int), S114, S117⟩ : Fe)]).length = i105 + 1; rw [List.length_append, this]; rfl, by have hq0 := dF9 hc6; have hq1 := dT9 hc107; have hq2 := dT9 hc109; have hq3 := dF9 hc120; have h9 := ((hi105_5).1 (dT9 hc109)).1; have h8 := (co8 h9).1; have h7 := hi105_3; have h6 := hi105_0; show (Fs105 ++ [(⟨((V111 : Nat) : Int), S114, S117⟩ : Fe)]).length ≤ 8; rw [List.length_append]; simp only [List.length_cons, List.length_nil] at h7 ⊢; omega, hq9, snoc_ok hi105_6 ⟨(by show List.length S114 ≤ 1000000; have t9 := te_short (P.drop A111) E111 ((12 : Nat) : Int); rw [h114_0, List.length_drop] at t9; omega), (by show List.length S117 ≤ 1000000; have t9 := te_short (P.drop A114) E114 ((40 : Nat) : Int); rw [h117_0, List.length_drop] at t9; omega)⟩⟩⟩
     ·
      subst hv169
      subst hF169
      have hz175 := St.none0 s (g := g169) (o := .cells cur169 42) (by simp)
      have hT175 := IM.Le.refl I117
      have hlK175 := hl
      have hle104K175 := hle104
      obtain ⟨I176, le176, hk176, s⟩ := s.freezeAt 2 g169 (.cells cur169 42) [(z9, .cells #[.slice a k c, .int .i64 ((A117 : Nat) : Int), .int .i64 ((E117 : Nat) : Int)] 106), ((φ118 0), .cells #[.int .i64 ((V111 : Nat) : Int), .string ⟨(S114).toArray⟩, .string ⟨(S117).toArray⟩] 42)] (by kernel_rfl) (by kernel_rfl)
      replace hl := BSl.mono le176 hl
      replace hle104 := leMono le176 hle104
      replace hT175 := leMono le176 hT175
      have hfs175 := hfr169 _ hk176
      refine draw_rule (C := []) ⟨(fun φ177 xs177 => [.look 0 [] [], .look 0 [] [], .look 0 [] [], .look 0 [.o 0] [z9], .sub 0 [] [] (.bool (((E117 : Nat) : Int) == ((0 : Nat) : Int))), .look 0 [] [], .skip, .skip, .skip, .look 0 [] [], .look 0 [] [], .skip, .skip, .skip, .skip, .skip, .skip, .skip, .skip, .skip, .look 0 [] []]), (fun φ177 xs177 => [pB z9, pB z9, .pointer (some ⟨z9, 2, none⟩), .int .i64 E117, .bool false, .bool false, undef, undef, undef, .bool false, .bool false, undef, undef, undef, undef, undef, undef, undef, undef, undef, .bool false]), (fun φ177 xs177 => [[(z9, .cells #[.slice a k c, .int .i64 A117, .int .i64 E117] 106), (φ118 0, .cells #[.int .i64 V111, .string ⟨(S114).toArray⟩, .string ⟨(S117).toArray⟩] 42)]]), (fun φ177 xs177 => [[default, default, default, default, default, default, default, default, default, default, default, default, default, default, default, default, default, default, default, default, default]]), [], [1, 1, 1, 1, 5, 1, 0, 0, 0, 1, 1, 0, 0, 0, 0, 0, 0, 0, 0, 0, 1]⟩ (fun j => ([MP.any] : List MP).getD j MP.any) [] [4] [] (fun φ177 xs177 => []) (fun φ177 xs177 => [(47, pB z9), (48, pB z9), (49, .pointer (some ⟨z9, 2, none⟩)), (50, .int .i64 E117), (51, .bool false), (52, .bool false), (53, undef), (54, undef), (55, undef), (56, .bool false), (57, .bool false), (58, undef), (59, undef), (60, undef), (61, undef), (62, undef), (63, undef), (64, undef), (65, undef), (66, undef), (67, .bool false)]) (fun φ177 xs177 => [(z9, .cells #[.slice a k c, .int .i64 A117, .int .i64 E117] 106), (φ118 0, .cells #[.int .i64 V111, .string ⟨(S114).toArray⟩, .string ⟨(S117).toArray⟩] 42)]) s trivial (by kernel_rfl) (by kernel_rfl) (fun _ _ => by kernel_rfl) (fun _ _ => by kernel_rfl) ⟨fun _ _ => by kernel_rfl, fun _ _ => by kernel_rfl, fun _ _ => by kernel_rfl, fun _ _ => by kernel_rfl⟩ (fun _ _ _ => by kernel_rfl) (fun _ _ => by kernel_rfl) (fun _ _ => by kernel_rfl) (fun _ _ => by kernel_rfl) (fun _ _ => by kernel_rfl) (fun _ _ => by kernel_rfl) ⟨kcast (A := ∀ (φ177 : Nat → Nat) (xs177 : Xs), (.bool (((E117 : Nat) : Int) == ((0 : Nat) : Int)) : Value) = .bool false) (by kernel_rfl) (fun φ177 xs177 => congrArg Value.bool ((nat_eql (a := E117) (b := 0)).trans (hc120))), trivial⟩ trivial (by kernel_rfl) trivial ?k177
      case k177 =>
       rintro φ177 xs177 I177 w177 le177 s 
       replace hl := BSl.mono le177 hl
       replace hle104 := leMono le177 hle104
       replace hT175 := leMono le177 hT175
       replace hk176 := le177 _ _ hk176
       replace s := St.thaw s hk176 hz175.2.1 hz175.2.2
       have leT175 := IM.le_del (g := g169) hT175 hz175.1
       generalize IM.del I177 g169 = J175 at s leT175
       replace hl := BSl.mono leT175 hlK175
       replace hle104 := leMono leT175 hle104K175
       refine cond_false_rule (b := false) (by kernel_rfl) rfl ?_
       refine wp_skip ?_
       refine region_rule ?_
       refine oA _ [(g169, .cells cur169 42)] 3 [.o 1, .o 1, .o 1] 1 (fun φ178 => [(73, .slice (some ⟨(φ178 0), 0, none⟩) 1 1), (72, .agg #[.int .i64 V111, .string ⟨(S114).toArray⟩, .string ⟨(S117).toArray⟩]), (71, .slice (some ⟨g169, 0, none⟩) Fs105.length cap169)]) (fun φ178 => [(z9, .cells #[.slice a k c, .int .i64 A117, .int .i64 E117] 106), (φ118 0, .cells #[.int .i64 V111, .string ⟨(S114).toArray⟩, .string ⟨(S117).toArray⟩] 42), (φ178 0, .cells #[.int .i64 V111, .string ⟨(S114).toArray⟩, .string ⟨(S117).toArray⟩] 42)]) (fun φ178 => [φ118 0, φ118 0, φ118 0]) s (fun φ178 => by kernel_rfl) ?_
       intro φ178 w178 s
       refine append_rule (H := [(z9, .cells #[.slice a k c, .int .i64 A117, .int .i64 E117] 106), (φ118 0, .cells #[.int .i64 V111, .string ⟨(S114).toArray⟩, .string ⟨(S117).toArray⟩] 42), (φ178 0, .cells #[.int .i64 V111, .string ⟨(S114).toArray⟩, .string ⟨(S117).toArray⟩] 42)]) (F := [(g169, .cells cur169 42)]) 30 30 42 Tryd.t42 (.agg #[.int .i64 0, .string ⟨#[]⟩, .string ⟨#[]⟩]) 3 40 (some 74) s Tryd.underlying30 (by kernel_rfl) (by kernel_rfl) (by kernel_rfl) (by kernel_rfl) (by kernel_rfl) (by decide) hi105_2 (src_own s 2 (φ178 0) #[.int .i64 V111, .string ⟨(S114).toArray⟩, .string ⟨(S117).toArray⟩] 42 30 42 1 1 3 [.int .i64 V111, .string ⟨(S114).toArray⟩, .string ⟨(S117).toArray⟩] (by kernel_rfl) Tryd.underlying30 (by kernel_rfl) (by kernel_rfl) (by kernel_rfl)) (by simp only [maxLen]; omega) (by omega) (by kernel_rfl) ?_
       intro v179 w179 F179 s h179
       refine oKD _ F179 1 [] 0 (fun φ180 => [(4, v179)]) (fun φ180 => []) s (fun φ180 => by kernel_rfl) (by kernel_rfl) ?_
       intro φ180 w180 s
       refine region_rule ?_
       refine oK _ F179 3 [] 0 (fun φ181 => [(5, .int .u64 (IntKind.wrap .u64 (((i105 : Nat) : Int) + ((1 : Nat) : Int)))), (26, .int .u64 (IntKind.wrap .u64 (((i105 : Nat) : Int) + ((1 : Nat) : Int)))), (25, .int .u64 i105)]) (fun φ181 => []) s (fun φ181 => by kernel_rfl) ?_
       intro φ181 w181 s
       rw [nat_addU (a := i105) (b := 1) (by have e9 := hi105_3; have e8 := hi105_0; have hq0 := dF9 hc6; have hq1 := dT9 hc107; have hq2 := dT9 hc109; have hq3 := dF9 hc120; omega)]
       refine ops_done (by kernel_rfl) ?_
       have hf9 := fd_of (dT9 hc109) h111_0 h111_1 h111_2 h114_0 h114_1 h114_2 h117_0 h117_1 h117_2
       have hq9 := gd_next (x := E117) (dT9 hc109) hi105_5.1 hd103 (by have hq0 := dF9 hc6; have hq1 := dT9 hc107; have hq2 := dT9 hc109; have hq3 := dF9 hc120; have := hi105_0; omega) hf9 (.inl ⟨dF9 hc120, rfl⟩)
       exact ⟨⟨m105 - 1, (i105 + 1, A117, E117, v179, F179, (Fs105 ++ [(⟨((V111 : Nat) : Int), S114, S117⟩ : Fe)])), _, _, _, by have hq0 := dF9 hc6; have hq1 := dT9 hc107; have hq2 := dT9 hc109; have hq3 := dF9 hc120; have := hi105_0; omega, rfl, s, (List.Sublist.append (List.Sublist.cons₂ _ (List.Sublist.cons _ (List.Sublist.cons _ List.Sublist.slnil))) (List.Sublist.refl _)), by kernel_rfl, hle104, by have hq0 := dF9 hc6; have hq1 := dT9 hc107; have hq2 := dT9 hc109; have hq3 := dF9 hc120; have := hi105_0; show i105 + 1 + (m105 - 1) = V3; omega, h117_3, row42_snoc h179 rfl, by have := hi105_3; show (Fs105 ++ [(⟨((V111 : Nat) : Int), S114, S117⟩ : Fe)]).length = i105 + 1; rw [List.length_append, this]; rfl, by have hq0 := dF9 hc6; have hq1 := dT9 hc107; have hq2 := dT9 hc109; have hq3 := dF9 hc120; have h9 := ((hi105_5).1 (dT9 hc109)).1; have h8 := (co8 h9).1; have h7 := hi105_3; have h6 := hi105_0; show (Fs105 ++ [(⟨((V111 : Nat) : Int), S114, S117⟩ : Fe)]).length ≤ 8; rw [List.length_append]; simp only [List.length_cons, List.length_nil] at h7 ⊢; omega, hq9, snoc_ok hi105_6 ⟨(by show List.length S114 ≤ 1000000; have t9 := te_short (P.drop A111) E111 ((12 : Nat) : Int); rw [h114_0, List.length_drop] at t9; omega), (by show List.length S117 ≤ 1000000; have t9 := te_short (P.drop A114) E114 ((40 : Nat) : Int); rw [h117_0, List.length_drop] at t9; omega)⟩⟩⟩
   ·
    rw [hc109]
    refine cond_false_rule (b := false) (by kernel_rfl) rfl ?_
    refine wp_exit ?_
    refine wp_seq ?_
    refine seqR ?_
    refine oK _ F105 5 [.o 0] 0 (fun φ182 => [(79, .bool (((e105 : Nat) : Int) != ((0 : Nat) : Int))), (78, .int .i64 e105), (77, .pointer (some ⟨z9, 2, none⟩)), (76, pB z9), (75, pB z9)]) (fun φ182 => [z9]) s (fun φ182 => by kernel_rfl) ?_
    intro φ182 w182 s
    rw [nat_neq (a := e105) (b := 0)]
    refine ops_done (by kernel_rfl) ?_
    rcases Bool.eq_false_or_eq_true (decide (e105 ≠ 0)) with hc183 | hc183
    ·
     rw [hc183]
     refine cond_true_rule (b := true) (by kernel_rfl) rfl ?_
     refine seqR ?_
     refine oKD _ F105 1 [] 0 (fun φ184 => [(2, .slice none 0 0)]) (fun φ184 => []) s (fun φ184 => by kernel_rfl) (by kernel_rfl) ?_
     intro φ184 w184 s
     refine wp_ret ?_
     refine ret_rule (C := []) _ F105 (.slice none 0 0) [] [] s trivial (by kernel_rfl) ?_
     replace s := s.drop (List.Sublist.append (List.Sublist.cons₂ _ List.Sublist.slnil) (List.Sublist.refl F105))
     replace s := s.drop (List.sublist_append_left _ F105)
     exact ⟨_, _, _, rfl, s, ⟨_, rfl, rfl, [], _, _, none, 0, rfl, rfl, hi105_1, hi105_5.2 (dT9 hc183), fsl_nil _⟩⟩
    ·
     rw [hc183]
     refine cond_false_rule (b := false) (by kernel_rfl) rfl ?_
     refine wp_skip ?_
     refine seqR ?_
     refine oKD _ F105 2 [] 0 (fun φ185 => [(2, v105), (80, v105)]) (fun φ185 => []) s (fun φ185 => by kernel_rfl) (by kernel_rfl) ?_
     intro φ185 w185 s
     refine wp_ret ?_
     refine ret_rule (C := []) _ F105 (v105) [] [] s trivial (by kernel_rfl) ?_
     replace s := s.drop (List.Sublist.append (List.Sublist.cons₂ _ List.Sublist.slnil) (List.Sublist.refl F105))
     have hz9 : e105 = 0 := Decidable.not_not.1 (dF9 hc183)
     have hg9 := gd_end hi105_5.1 hd103 (by have hq0 := dF9 hc6; have hq1 := dT9 hc107; have hq2 := dF9 hc109; have hq3 := dF9 hc183; have := hi105_0; omega : m105 = 0) hz9
     obtain ⟨J186, le186, hk186, s⟩ := freeze_row42 (H := [(z9, .cells #[.slice a k c, .int .i64 ((A105 : Nat) : Int), .int .i64 ((e105 : Nat) : Int)] 106)]) (F := F105) s hi105_2
     obtain ⟨a186, c186, hv186, -, hk186⟩ := hk186.open
     subst hv186
     replace hg9 : gcP (P.drop 0) = (Fs105, P.drop A105, e105) := hg9.trans (by rw [hz9])
     exact ⟨_, _, _, rfl, s, ⟨_, rfl, rfl, Fs105, _, _, _, _, rfl, rfl, hi105_1, hg9, hk186⟩⟩
  ·
   rw [hc107]
   refine oKD _ F105 6 [] 0 (fun φ187 => [(24, .bool false), (23, undef), (22, undef), (21, undef), (20, undef), (19, undef)]) (fun φ187 => []) s (fun φ187 => by kernel_rfl) (by kernel_rfl) ?_
   intro φ187 w187 s
   refine cond_false_rule (b := false) (by kernel_rfl) rfl ?_
   refine wp_exit ?_
   refine wp_seq ?_
   refine seqR ?_
   refine oK _ F105 5 [.o 0] 0 (fun φ188 => [(79, .bool (((e105 : Nat) : Int) != ((0 : Nat) : Int))), (78, .int .i64 e105), (77, .pointer (some ⟨z9, 2, none⟩)), (76, pB z9), (75, pB z9)]) (fun φ188 => [z9]) s (fun φ188 => by kernel_rfl) ?_
   intro φ188 w188 s
   rw [nat_neq (a := e105) (b := 0)]
   refine ops_done (by kernel_rfl) ?_
   rcases Bool.eq_false_or_eq_true (decide (e105 ≠ 0)) with hc189 | hc189
   ·
    rw [hc189]
    refine cond_true_rule (b := true) (by kernel_rfl) rfl ?_
    refine seqR ?_
    refine oKD _ F105 1 [] 0 (fun φ190 => [(2, .slice none 0 0)]) (fun φ190 => []) s (fun φ190 => by kernel_rfl) (by kernel_rfl) ?_
    intro φ190 w190 s
    refine wp_ret ?_
    refine ret_rule (C := []) _ F105 (.slice none 0 0) [] [] s trivial (by kernel_rfl) ?_
    replace s := s.drop (List.Sublist.append (List.Sublist.cons₂ _ List.Sublist.slnil) (List.Sublist.refl F105))
    replace s := s.drop (List.sublist_append_left _ F105)
    exact ⟨_, _, _, rfl, s, ⟨_, rfl, rfl, [], _, _, none, 0, rfl, rfl, hi105_1, hi105_5.2 (dT9 hc189), fsl_nil _⟩⟩
   ·
    rw [hc189]
    refine cond_false_rule (b := false) (by kernel_rfl) rfl ?_
    refine wp_skip ?_
    refine seqR ?_
    refine oKD _ F105 2 [] 0 (fun φ191 => [(2, v105), (80, v105)]) (fun φ191 => []) s (fun φ191 => by kernel_rfl) (by kernel_rfl) ?_
    intro φ191 w191 s
    refine wp_ret ?_
    refine ret_rule (C := []) _ F105 (v105) [] [] s trivial (by kernel_rfl) ?_
    replace s := s.drop (List.Sublist.append (List.Sublist.cons₂ _ List.Sublist.slnil) (List.Sublist.refl F105))
    have hz9 : e105 = 0 := Decidable.not_not.1 (dF9 hc189)
    have hg9 := gd_end hi105_5.1 hd103 (by have hq0 := dF9 hc6; have hq1 := dF9 hc107; have hq2 := dF9 hc189; have := hi105_0; omega : m105 = 0) hz9
    obtain ⟨J192, le192, hk192, s⟩ := freeze_row42 (H := [(z9, .cells #[.slice a k c, .int .i64 ((A105 : Nat) : Int), .int .i64 ((e105 : Nat) : Int)] 106)]) (F := F105) s hi105_2
    obtain ⟨a192, c192, hv192, -, hk192⟩ := hk192.open
    subst hv192
    replace hg9 : gcP (P.drop 0) = (Fs105, P.drop A105, e105) := hg9.trans (by rw [hz9])
    exact ⟨_, _, _, rfl, s, ⟨_, rfl, rfl, Fs105, _, _, _, _, rfl, rfl, hi105_1, hg9, hk192⟩⟩

end Go.Proofs.YtcpmjogeafhpnaaDoor
