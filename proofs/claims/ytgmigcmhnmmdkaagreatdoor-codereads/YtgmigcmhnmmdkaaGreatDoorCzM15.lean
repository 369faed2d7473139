/- The program reads a number in few bits. -/
import Derived.Test.YtgmigcmhnmmdkaaGreatDoorCzM14
import Derived.Test.YtgmigcmhnmmdkaaGreatDoorCzM13
import Derived.Test.YtgmigcmhnmmdkaaGreatDoorCzS13
import Derived.Test.YtgmigcmhnmmdkaaGreatDoorCzS11
import Derived.OrdersHeld
import Derived.Scope
set_option linter.all false
set_option maxRecDepth 100000
namespace Go.Proofs.YtgmigcmhnmmdkaaGreatDoor
open Go.RowKit Go.Sep
attribute [local irreducible] Go.wpList Go.Code.wp

set_option maxHeartbeats 2000000 in
theorem numR_c {I : IM} {l : List UInt8} {a : Option Addr} {n c : Nat} (hl : BSl I l (.slice a n c)) (hn9 : l.length ≤ 1000000) {r p : Nat} (hp : p ≤ l.length * 8) : FunM Tryz.prog 84 #[.pointer (some ⟨r, 0, none⟩)] I [(r, .cells #[.slice a n c, .int .i64 ((p : Nat) : Int), .int .i64 0] 99)] (fun v J H' => ∃ b' : OB, H' = [b'] ∧ b'.1 = r ∧ v = .int .u64 ((bnV ((bitsL l).drop p) 0 : Nat) : Int) ∧ b' = (r, .cells #[.slice a n c, .int .i64 ((p + bnD ((bitsL l).drop p) 0 : Nat) : Int), .int .i64 ((bnE ((bitsL l).drop p) 0 : Nat) : Int)] 99)) := by
 obtain ⟨rfl, -⟩ := hl.cap
 refine enterM_rule 49 [(0, pB r)] Tryz.func84 rfl (by kernel_rfl) ?_
 intro w s
 refine seqR ?_
 refine oKD [(r, .cells #[.slice a l.length c, .int .i64 p, .int .i64 0] 99)] [] 1 [] 0 (fun φ1 => [(2, .int .u64 0)]) (fun φ1 => []) s (fun φ1 => by kernel_rfl) (by kernel_rfl) ?_
 intro φ1 w1 s
 have hle2 := IM.Le.refl I
 refine goto_rule s 0 (fun j : Nat => [(0, pB r), (3, .int .i64 p), (4, .int .i64 ((j + 2 : Nat) : Int))]) (fun j : Nat => [(r, .cells #[.slice a l.length c, .int .i64 ((p + j : Nat) : Int), .int .i64 0] 99)]) (fun n j J => IM.Le I J ∧ p + j + n = l.length * 8 ∧ OnesL l p j) rfl ?_ ?_
 ·
  rintro m3 j3 I3 w3 ev3 s ⟨le3, hm3, ho3⟩
  replace hl := BSl.mono le3 hl
  replace hle2 := leMono le3 hle2
  refine wp_seq ?_
  refine wp_skip ?_
  refine wp_seq ?_
  refine seqR ?_
  refine oK [(r, .cells #[.slice a l.length c, .int .i64 ((p + j3 : Nat) : Int), .int .i64 0] 99)] [] 1 [] 0 (fun φ4 => [(14, pB r)]) (fun φ4 => []) s (fun φ4 => by kernel_rfl) ?_
  intro φ4 w4 s
  rcases Bool.eq_false_or_eq_true (decide (p + j3 + 1 ≤ l.length * 8)) with hc5 | hc5
  ·
   refine callB_rule (b := (r, .cells #[.slice a l.length c, .int .i64 ((p + j3 : Nat) : Int), .int .i64 0] 99)) (F := []) (Hr := []) (some 15) 0 s (by kernel_rfl) (by kernel_rfl) (get_c (r := r) (p := p + j3) hl (hn9) (k := 1) (by decide) (of_decide_eq_true hc5)) (by kernel_rfl) ?_
   rintro v6 I6 w6 b6 le6 - h6 s
   replace hl := BSl.mono le6 hl
   replace hle2 := leMono le6 hle2
   obtain ⟨rfl, rfl⟩ := h6
   refine oK _ [] 1 [] 0 (fun φ7 => [(16, .bool (((rd l (p + j3) 1 : Nat) : Int) == ((1 : Nat) : Int)))]) (fun φ7 => []) s (fun φ7 => by kernel_rfl) ?_
   intro φ7 w7 s
   rw [nat_eql (a := (rd l (p + j3) 1)) (b := 1)]
   refine ops_done (by kernel_rfl) ?_
   rcases Bool.eq_false_or_eq_true (decide ((rd l (p + j3) 1) = 1)) with hc8 | hc8
   ·
    rw [hc8]
    refine cond_true_rule (b := true) (by kernel_rfl) rfl ?_
    refine seqR ?_
    refine oK _ [] 3 [] 0 (fun φ9 => [(4, .int .i64 (IntKind.wrap .i64 (((j3 + 2 : Nat) : Int) + ((1 : Nat) : Int)))), (18, .int .i64 (IntKind.wrap .i64 (((j3 + 2 : Nat) : Int) + ((1 : Nat) : Int)))), (17, .int .i64 ((j3 + 2 : Nat) : Int))]) (fun φ9 => []) s (fun φ9 => by kernel_rfl) ?_
    intro φ9 w9 s
    rw [nat_addI (a := (j3 + 2)) (b := 1) (by have hp0 := hp; have ho1 := ho3.len;  have hq0 := of_decide_eq_true hc5; have hq1 := of_decide_eq_true hc8; omega)]
    refine ops_done (by kernel_rfl) ?_
    refine wp_goto ?_
    exact ⟨rfl, ⟨⟨m3 - 1, j3 + 1, _, _, _, (by have := of_decide_eq_true hc5; omega), rfl, s, (List.Sublist.cons₂ _ List.Sublist.slnil), by kernel_rfl, hle2, (by have := of_decide_eq_true hc5; show p + (j3 + 1) + (m3 - 1) = _; omega), OnesL.step ho3 (of_decide_eq_true hc5) (bit_one (of_decide_eq_true hc8))⟩⟩⟩
   ·
    rw [hc8]
    refine cond_false_rule (b := false) (by kernel_rfl) rfl ?_
    refine wp_skip ?_
    refine seqR ?_
    refine oK _ [] 1 [] 0 (fun φ10 => [(19, .int .i64 ((j3 + 2 : Nat) : Int))]) (fun φ10 => []) s (fun φ10 => by kernel_rfl) ?_
    intro φ10 w10 s
    refine sem_rule (binOp .shl 28 (.int .u64 ((1 : Nat) : Int)) (.int .i64 ((j3 + 2 : Nat) : Int))) (some 20) (.int .u64 (bshl 64 1 (j3 + 2))) (by kernel_rfl) (run_shlU (.inr (.inr (.inl rfl)))) ?_
    refine oKD _ [] 2 [] 0 (fun φ11 => [(5, .int .u64 (IntKind.wrap .u64 (((bshl 64 1 (j3 + 2) : Nat) : Int) - ((4 : Nat) : Int)))), (21, .int .u64 (IntKind.wrap .u64 (((bshl 64 1 (j3 + 2) : Nat) : Int) - ((4 : Nat) : Int))))]) (fun φ11 => []) s (fun φ11 => by kernel_rfl) (by kernel_rfl) ?_
    intro φ11 w11 s
    refine seqR ?_
    refine oK _ [] 3 [] 0 (fun φ12 => [(24, .int .i64 ((j3 + 2 : Nat) : Int)), (23, pB r), (22, .int .u64 (IntKind.wrap .u64 (((bshl 64 1 (j3 + 2) : Nat) : Int) - ((4 : Nat) : Int))))]) (fun φ12 => []) s (fun φ12 => by kernel_rfl) ?_
    intro φ12 w12 s
    refine callB_rule (b := (r, .cells #[.slice a l.length c, .int .i64 ((p + j3 + 1 : Nat) : Int), .int .i64 0] 99)) (F := []) (Hr := []) (some 25) 0 s (by kernel_rfl) (by kernel_rfl) (getG_c (e := 0) (z := ((j3 + 2 : Nat) : Int)) (r := r) (p := p + j3 + 1) hl (hn9) (by have hp0 := hp; have ho1 := ho3.len;  have hq0 := of_decide_eq_true hc5; have hq1 := of_decide_eq_false hc8; omega)) (by kernel_rfl) ?_
    rintro v13 I13 w13 b13 le13 - h13 s
    replace hl := BSl.mono le13 hl
    replace hle2 := leMono le13 hle2
    obtain ⟨rfl, rfl⟩ := h13
    refine oKD _ [] 2 [] 0 (fun φ14 => [(6, .int .u64 (IntKind.wrap .u64 ((IntKind.wrap .u64 (((bshl 64 1 (j3 + 2) : Nat) : Int) - ((4 : Nat) : Int))) + ((geV l (p + j3 + 1) 0 (clampN ((j3 + 2 : Nat) : Int)) : Nat) : Int)))), (26, .int .u64 (IntKind.wrap .u64 ((IntKind.wrap .u64 (((bshl 64 1 (j3 + 2) : Nat) : Int) - ((4 : Nat) : Int))) + ((geV l (p + j3 + 1) 0 (clampN ((j3 + 2 : Nat) : Int)) : Nat) : Int))))]) (fun φ14 => []) s (fun φ14 => by kernel_rfl) (by kernel_rfl) ?_
    intro φ14 w14 s
    refine wp_seq ?_
    refine seqR ?_
    refine oK _ [] 6 [.o 0] 0 (fun φ15 => [(32, .bool (((geE l (p + j3 + 1) 0 (clampN ((j3 + 2 : Nat) : Int)) : Nat) : Int) != ((0 : Nat) : Int))), (31, .bool (((geE l (p + j3 + 1) 0 (clampN ((j3 + 2 : Nat) : Int)) : Nat) : Int) != ((0 : Nat) : Int))), (30, .int .i64 (geE l (p + j3 + 1) 0 (clampN ((j3 + 2 : Nat) : Int)))), (29, .pointer (some ⟨r, 2, none⟩)), (28, pB r), (27, pB r)]) (fun φ15 => [r]) s (fun φ15 => by kernel_rfl) ?_
    intro φ15 w15 s
    rw [nat_neq (a := (geE l (p + j3 + 1) 0 (clampN ((j3 + 2 : Nat) : Int)))) (b := 0)]
    rcases Bool.eq_false_or_eq_true (decide ((geE l (p + j3 + 1) 0 (clampN ((j3 + 2 : Nat) : Int))) ≠ 0)) with hc16 | hc16
    ·
     rw [hc16]
     refine oKD _ [] 8 [] 0 (fun φ17 => [(40, .bool true), (39, undef), (38, undef), (37, undef), (36, .bool true), (35, .bool true), (34, undef), (33, undef)]) (fun φ17 => []) s (fun φ17 => by kernel_rfl) (by kernel_rfl) ?_
     intro φ17 w17 s
     refine cond_true_rule (b := true) (by kernel_rfl) rfl ?_
     refine seqR ?_
     refine oAD _ [] 9 [.o 0, .o 0] 0 (fun φ18 => [(47, .pointer (some ⟨r, 2, none⟩)), (46, pB r), (45, .pointer (some ⟨r, 1, none⟩)), (44, pB r), (43, .int .i64 p), (42, pB r), (41, pB r)]) (fun φ18 => [(r, .cells #[.slice a l.length c, .int .i64 p, .int .i64 6] 99)]) (fun φ18 => [r, r]) s (fun φ18 => by kernel_rfl) (by kernel_rfl) ?_
     intro φ18 w18 s
     refine seqR ?_
     refine oKD _ [] 1 [] 0 (fun φ19 => [(2, .int .u64 0)]) (fun φ19 => []) s (fun φ19 => by kernel_rfl) (by kernel_rfl) ?_
     intro φ19 w19 s
     refine wp_ret ?_
     refine ret_rule (C := []) _ [] (.int .u64 0) [] [] s trivial (by kernel_rfl) ?_
     exact ⟨_, _, _, rfl, s, (by have h8 := num_short (j := j3) ho3 (of_decide_eq_true hc5) (bit_nil (of_decide_eq_false hc8)) (of_decide_eq_true hc16); exact ⟨_, rfl, rfl, (by rw [h8.1]; rfl), (by rw [h8.2.1, h8.2.2]; rfl)⟩)⟩
    ·
     rw [hc16]
     refine oK _ [] 4 [] 0 (fun φ20 => [(36, .bool (decide (((j3 + 2 : Nat) : Int) > ((64 : Nat) : Int)))), (35, .bool (decide (((j3 + 2 : Nat) : Int) > ((64 : Nat) : Int)))), (34, .bool (decide (((j3 + 2 : Nat) : Int) > ((64 : Nat) : Int)))), (33, .int .i64 ((j3 + 2 : Nat) : Int))]) (fun φ20 => []) s (fun φ20 => by kernel_rfl) ?_
     intro φ20 w20 s
     rw [nat_gtr (a := (j3 + 2)) (b := 64)]
     rcases Bool.eq_false_or_eq_true (decide (64 < (j3 + 2))) with hc21 | hc21
     ·
      rw [hc21]
      refine oKD _ [] 4 [] 0 (fun φ22 => [(40, .bool true), (39, undef), (38, undef), (37, undef)]) (fun φ22 => []) s (fun φ22 => by kernel_rfl) (by kernel_rfl) ?_
      intro φ22 w22 s
      refine cond_true_rule (b := true) (by kernel_rfl) rfl ?_
      refine seqR ?_
      refine oAD _ [] 9 [.o 0, .o 0] 0 (fun φ23 => [(47, .pointer (some ⟨r, 2, none⟩)), (46, pB r), (45, .pointer (some ⟨r, 1, none⟩)), (44, pB r), (43, .int .i64 p), (42, pB r), (41, pB r)]) (fun φ23 => [(r, .cells #[.slice a l.length c, .int .i64 p, .int .i64 6] 99)]) (fun φ23 => [r, r]) s (fun φ23 => by kernel_rfl) (by kernel_rfl) ?_
      intro φ23 w23 s
      refine seqR ?_
      refine oKD _ [] 1 [] 0 (fun φ24 => [(2, .int .u64 0)]) (fun φ24 => []) s (fun φ24 => by kernel_rfl) (by kernel_rfl) ?_
      intro φ24 w24 s
      refine wp_ret ?_
      refine ret_rule (C := []) _ [] (.int .u64 0) [] [] s trivial (by kernel_rfl) ?_
      exact ⟨_, _, _, rfl, s, (by have h8 := num_far (j := j3) ho3 (of_decide_eq_true hc21); exact ⟨_, rfl, rfl, (by rw [h8.1]; rfl), (by rw [h8.2.1, h8.2.2]; rfl)⟩)⟩
     ·
      rw [hc21]
      refine oKD _ [] 4 [] 0 (fun φ25 => [(40, .bool (decide ((IntKind.wrap .u64 ((IntKind.wrap .u64 (((bshl 64 1 (j3 + 2) : Nat) : Int) - ((4 : Nat) : Int))) + ((geV l (p + j3 + 1) 0 (clampN ((j3 + 2 : Nat) : Int)) : Nat) : Int))) < (IntKind.wrap .u64 (((bshl 64 1 (j3 + 2) : Nat) : Int) - ((4 : Nat) : Int)))))), (39, .bool (decide ((IntKind.wrap .u64 ((IntKind.wrap .u64 (((bshl 64 1 (j3 + 2) : Nat) : Int) - ((4 : Nat) : Int))) + ((geV l (p + j3 + 1) 0 (clampN ((j3 + 2 : Nat) : Int)) : Nat) : Int))) < (IntKind.wrap .u64 (((bshl 64 1 (j3 + 2) : Nat) : Int) - ((4 : Nat) : Int)))))), (38, .int .u64 (IntKind.wrap .u64 (((bshl 64 1 (j3 + 2) : Nat) : Int) - ((4 : Nat) : Int)))), (37, .int .u64 (IntKind.wrap .u64 ((IntKind.wrap .u64 (((bshl 64 1 (j3 + 2) : Nat) : Int) - ((4 : Nat) : Int))) + ((geV l (p + j3 + 1) 0 (clampN ((j3 + 2 : Nat) : Int)) : Nat) : Int))))]) (fun φ25 => []) s (fun φ25 => by kernel_rfl) (by kernel_rfl) ?_
      intro φ25 w25 s
      rcases Bool.eq_false_or_eq_true (decide ((IntKind.wrap .u64 ((IntKind.wrap .u64 (((bshl 64 1 (j3 + 2) : Nat) : Int) - ((4 : Nat) : Int))) + ((geV l (p + j3 + 1) 0 (clampN ((j3 + 2 : Nat) : Int)) : Nat) : Int))) < (IntKind.wrap .u64 (((bshl 64 1 (j3 + 2) : Nat) : Int) - ((4 : Nat) : Int))))) with hc26 | hc26
      ·
       rw [hc26]
       refine cond_true_rule (b := true) (by kernel_rfl) rfl ?_
       refine seqR ?_
       refine oAD _ [] 9 [.o 0, .o 0] 0 (fun φ27 => [(47, .pointer (some ⟨r, 2, none⟩)), (46, pB r), (45, .pointer (some ⟨r, 1, none⟩)), (44, pB r), (43, .int .i64 p), (42, pB r), (41, pB r)]) (fun φ27 => [(r, .cells #[.slice a l.length c, .int .i64 p, .int .i64 6] 99)]) (fun φ27 => [r, r]) s (fun φ27 => by kernel_rfl) (by kernel_rfl) ?_
       intro φ27 w27 s
       refine seqR ?_
       refine oKD _ [] 1 [] 0 (fun φ28 => [(2, .int .u64 0)]) (fun φ28 => []) s (fun φ28 => by kernel_rfl) (by kernel_rfl) ?_
       intro φ28 w28 s
       refine wp_ret ?_
       refine ret_rule (C := []) _ [] (.int .u64 0) [] [] s trivial (by kernel_rfl) ?_
       exact ⟨_, _, _, rfl, s, (by have h8 := num_over (j := j3) ho3 (of_decide_eq_true hc5) (bit_nil (of_decide_eq_false hc8)) (of_decide_eq_false hc16) (of_decide_eq_false hc21) (of_decide_eq_true hc26); exact ⟨_, rfl, rfl, (by rw [h8.1]; rfl), (by rw [h8.2.1, h8.2.2]; rfl)⟩)⟩
      ·
       rw [hc26]
       refine cond_false_rule (b := false) (by kernel_rfl) rfl ?_
       refine wp_skip ?_
       refine seqR ?_
       refine oKD _ [] 2 [] 0 (fun φ29 => [(2, .int .u64 (IntKind.wrap .u64 ((IntKind.wrap .u64 (((bshl 64 1 (j3 + 2) : Nat) : Int) - ((4 : Nat) : Int))) + ((geV l (p + j3 + 1) 0 (clampN ((j3 + 2 : Nat) : Int)) : Nat) : Int)))), (48, .int .u64 (IntKind.wrap .u64 ((IntKind.wrap .u64 (((bshl 64 1 (j3 + 2) : Nat) : Int) - ((4 : Nat) : Int))) + ((geV l (p + j3 + 1) 0 (clampN ((j3 + 2 : Nat) : Int)) : Nat) : Int))))]) (fun φ29 => []) s (fun φ29 => by kernel_rfl) (by kernel_rfl) ?_
       intro φ29 w29 s
       refine wp_ret ?_
       refine ret_rule (C := []) _ [] (.int .u64 (IntKind.wrap .u64 ((IntKind.wrap .u64 (((bshl 64 1 (j3 + 2) : Nat) : Int) - ((4 : Nat) : Int))) + ((geV l (p + j3 + 1) 0 (clampN ((j3 + 2 : Nat) : Int)) : Nat) : Int)))) [] [] s trivial (by kernel_rfl) ?_
       exact ⟨_, _, _, rfl, s, (by have h8 := num_good (j := j3) ho3 (of_decide_eq_true hc5) (bit_nil (of_decide_eq_false hc8)) (of_decide_eq_false hc16) (of_decide_eq_false hc21) (of_decide_eq_false hc26); exact ⟨_, rfl, rfl, congrArg (Value.int .u64) h8.1, h8.2 _ _⟩)⟩
  ·
   refine callB_rule (b := (r, .cells #[.slice a l.length c, .int .i64 ((p + j3 : Nat) : Int), .int .i64 0] 99)) (F := []) (Hr := []) (some 15) 0 s (by kernel_rfl) (by kernel_rfl) (get_bad (r := r) (p := p + j3) hl (hn9) (k := 1) (by decide) (by have hp0 := hp; have ho1 := ho3.len;  omega) (by have hq0 := of_decide_eq_false hc5; omega)) (by kernel_rfl) ?_
   rintro v30 I30 w30 b30 le30 - h30 s
   replace hl := BSl.mono le30 hl
   replace hle2 := leMono le30 hle2
   obtain ⟨rfl, rfl⟩ := h30
   refine oKD _ [] 1 [] 0 (fun φ31 => [(16, .bool false)]) (fun φ31 => []) s (fun φ31 => by kernel_rfl) (by kernel_rfl) ?_
   intro φ31 w31 s
   refine cond_false_rule (b := false) (by kernel_rfl) rfl ?_
   refine wp_skip ?_
   refine seqR ?_
   refine oK _ [] 1 [] 0 (fun φ32 => [(19, .int .i64 ((j3 + 2 : Nat) : Int))]) (fun φ32 => []) s (fun φ32 => by kernel_rfl) ?_
   intro φ32 w32 s
   refine sem_rule (binOp .shl 28 (.int .u64 ((1 : Nat) : Int)) (.int .i64 ((j3 + 2 : Nat) : Int))) (some 20) (.int .u64 (bshl 64 1 (j3 + 2))) (by kernel_rfl) (run_shlU (.inr (.inr (.inl rfl)))) ?_
   refine oKD _ [] 2 [] 0 (fun φ33 => [(5, .int .u64 (IntKind.wrap .u64 (((bshl 64 1 (j3 + 2) : Nat) : Int) - ((4 : Nat) : Int)))), (21, .int .u64 (IntKind.wrap .u64 (((bshl 64 1 (j3 + 2) : Nat) : Int) - ((4 : Nat) : Int))))]) (fun φ33 => []) s (fun φ33 => by kernel_rfl) (by kernel_rfl) ?_
   intro φ33 w33 s
   refine seqR ?_
   refine oK _ [] 3 [] 0 (fun φ34 => [(24, .int .i64 ((j3 + 2 : Nat) : Int)), (23, pB r), (22, .int .u64 (IntKind.wrap .u64 (((bshl 64 1 (j3 + 2) : Nat) : Int) - ((4 : Nat) : Int))))]) (fun φ34 => []) s (fun φ34 => by kernel_rfl) ?_
   intro φ34 w34 s
   refine callB_rule (b := (r, .cells #[.slice a l.length c, .int .i64 ((p + j3 : Nat) : Int), .int .i64 6] 99)) (F := []) (Hr := []) (some 25) 0 s (by kernel_rfl) (by kernel_rfl) (getG_c (e := 6) (z := ((j3 + 2 : Nat) : Int)) (r := r) (p := p + j3) hl (hn9) (by have hp0 := hp; have ho1 := ho3.len;  have hq0 := of_decide_eq_false hc5; omega)) (by kernel_rfl) ?_
   rintro v35 I35 w35 b35 le35 - h35 s
   replace hl := BSl.mono le35 hl
   replace hle2 := leMono le35 hle2
   obtain ⟨rfl, rfl⟩ := h35
   refine oKD _ [] 2 [] 0 (fun φ36 => [(6, .int .u64 (IntKind.wrap .u64 ((IntKind.wrap .u64 (((bshl 64 1 (j3 + 2) : Nat) : Int) - ((4 : Nat) : Int))) + ((geV l (p + j3) 6 (clampN ((j3 + 2 : Nat) : Int)) : Nat) : Int)))), (26, .int .u64 (IntKind.wrap .u64 ((IntKind.wrap .u64 (((bshl 64 1 (j3 + 2) : Nat) : Int) - ((4 : Nat) : Int))) + ((geV l (p + j3) 6 (clampN ((j3 + 2 : Nat) : Int)) : Nat) : Int))))]) (fun φ36 => []) s (fun φ36 => by kernel_rfl) (by kernel_rfl) ?_
   intro φ36 w36 s
   refine wp_seq ?_
   refine seqR ?_
   refine oK _ [] 6 [.o 0] 0 (fun φ37 => [(32, .bool (((geE l (p + j3) 6 (clampN ((j3 + 2 : Nat) : Int)) : Nat) : Int) != ((0 : Nat) : Int))), (31, .bool (((geE l (p + j3) 6 (clampN ((j3 + 2 : Nat) : Int)) : Nat) : Int) != ((0 : Nat) : Int))), (30, .int .i64 (geE l (p + j3) 6 (clampN ((j3 + 2 : Nat) : Int)))), (29, .pointer (some ⟨r, 2, none⟩)), (28, pB r), (27, pB r)]) (fun φ37 => [r]) s (fun φ37 => by kernel_rfl) ?_
   intro φ37 w37 s
   rw [nat_neq (a := (geE l (p + j3) 6 (clampN ((j3 + 2 : Nat) : Int)))) (b := 0)]
   rcases Bool.eq_false_or_eq_true (decide ((geE l (p + j3) 6 (clampN ((j3 + 2 : Nat) : Int))) ≠ 0)) with hc38 | hc38
   ·
    rw [hc38]
    refine oKD _ [] 8 [] 0 (fun φ39 => [(40, .bool true), (39, undef), (38, undef), (37, undef), (36, .bool true), (35, .bool true), (34, undef), (33, undef)]) (fun φ39 => []) s (fun φ39 => by kernel_rfl) (by kernel_rfl) ?_
    intro φ39 w39 s
    refine cond_true_rule (b := true) (by kernel_rfl) rfl ?_
    refine seqR ?_
    refine oAD _ [] 9 [.o 0, .o 0] 0 (fun φ40 => [(47, .pointer (some ⟨r, 2, none⟩)), (46, pB r), (45, .pointer (some ⟨r, 1, none⟩)), (44, pB r), (43, .int .i64 p), (42, pB r), (41, pB r)]) (fun φ40 => [(r, .cells #[.slice a l.length c, .int .i64 p, .int .i64 6] 99)]) (fun φ40 => [r, r]) s (fun φ40 => by kernel_rfl) (by kernel_rfl) ?_
    intro φ40 w40 s
    refine seqR ?_
    refine oKD _ [] 1 [] 0 (fun φ41 => [(2, .int .u64 0)]) (fun φ41 => []) s (fun φ41 => by kernel_rfl) (by kernel_rfl) ?_
    intro φ41 w41 s
    refine wp_ret ?_
    refine ret_rule (C := []) _ [] (.int .u64 0) [] [] s trivial (by kernel_rfl) ?_
    exact ⟨_, _, _, rfl, s, (by have h8 := num_out (j := j3) ho3 (of_decide_eq_false hc5); exact ⟨_, rfl, rfl, (by rw [h8.1]; rfl), (by rw [h8.2.1, h8.2.2]; rfl)⟩)⟩
   ·
    exact absurd (of_decide_eq_false hc38) (fun q => q (by rw [ge6]; decide))
 ·
  refine wp_seq ?_
  refine seqR ?_
  refine oK _ [] 1 [] 0 (fun φ42 => [(7, pB r)]) (fun φ42 => []) s (fun φ42 => by kernel_rfl) ?_
  intro φ42 w42 s
  refine callB_rule (b := (r, .cells #[.slice a l.length c, .int .i64 p, .int .i64 0] 99)) (F := []) (Hr := []) (some 8) 0 s (by kernel_rfl) (by kernel_rfl) (err_c (r := r) (v0 := .slice a l.length c) (v1 := .int .i64 p) (e := 0)) (by kernel_rfl) ?_
  rintro v43 I43 w43 b43 le43 - h43 s
  replace hl := BSl.mono le43 hl
  replace hle2 := leMono le43 hle2
  obtain ⟨rfl, rfl⟩ := h43
  refine oKD _ [] 1 [] 0 (fun φ44 => [(9, .bool false)]) (fun φ44 => []) s (fun φ44 => by kernel_rfl) (by kernel_rfl) ?_
  intro φ44 w44 s
  refine cond_false_rule (b := false) (by kernel_rfl) rfl ?_
  refine wp_skip ?_
  refine seqR ?_
  refine oKD _ [] 6 [.o 0] 0 (fun φ45 => [(4, .int .i64 2), (3, .int .i64 p), (13, .int .i64 p), (12, .pointer (some ⟨r, 1, none⟩)), (11, pB r), (10, pB r)]) (fun φ45 => [r]) s (fun φ45 => by kernel_rfl) (by kernel_rfl) ?_
  intro φ45 w45 s
  refine wp_seq ?_
  refine wp_label ?_
  refine wp_seq ?_
  refine seqR ?_
  refine oK _ [] 1 [] 0 (fun φ46 => [(14, pB r)]) (fun φ46 => []) s (fun φ46 => by kernel_rfl) ?_
  intro φ46 w46 s
  rcases Bool.eq_false_or_eq_true (decide (p + 1 ≤ l.length * 8)) with hc47 | hc47
  ·
   refine callB_rule (b := (r, .cells #[.slice a l.length c, .int .i64 p, .int .i64 0] 99)) (F := []) (Hr := []) (some 15) 0 s (by kernel_rfl) (by kernel_rfl) (get_c (r := r) (p := p) hl (hn9) (k := 1) (by decide) (of_decide_eq_true hc47)) (by kernel_rfl) ?_
   rintro v48 I48 w48 b48 le48 - h48 s
   replace hl := BSl.mono le48 hl
   replace hle2 := leMono le48 hle2
   obtain ⟨rfl, rfl⟩ := h48
   refine oK _ [] 1 [] 0 (fun φ49 => [(16, .bool (((rd l p 1 : Nat) : Int) == ((1 : Nat) : Int)))]) (fun φ49 => []) s (fun φ49 => by kernel_rfl) ?_
   intro φ49 w49 s
   rw [nat_eql (a := (rd l p 1)) (b := 1)]
   refine ops_done (by kernel_rfl) ?_
   rcases Bool.eq_false_or_eq_true (decide ((rd l p 1) = 1)) with hc50 | hc50
   ·
    rw [hc50]
    refine cond_true_rule (b := true) (by kernel_rfl) rfl ?_
    refine seqR ?_
    refine oKD _ [] 3 [] 0 (fun φ51 => [(4, .int .i64 3), (18, .int .i64 3), (17, .int .i64 2)]) (fun φ51 => []) s (fun φ51 => by kernel_rfl) (by kernel_rfl) ?_
    intro φ51 w51 s
    refine wp_goto ?_
    exact ⟨rfl, l.length * 8, ⟨⟨l.length * 8 - p - 1, 1, _, _, _, (by have := of_decide_eq_true hc47; omega), rfl, s, (List.Sublist.cons₂ _ List.Sublist.slnil), by kernel_rfl, hle2, (by have := of_decide_eq_true hc47; show p + 1 + (l.length * 8 - p - 1) = _; omega), OnesL.step (OnesL.start hp) (of_decide_eq_true hc47) (bit_one (of_decide_eq_true hc50))⟩⟩⟩
   ·
    rw [hc50]
    refine cond_false_rule (b := false) (by kernel_rfl) rfl ?_
    refine wp_skip ?_
    refine seqR ?_
    refine oK _ [] 1 [] 0 (fun φ52 => [(19, .int .i64 2)]) (fun φ52 => []) s (fun φ52 => by kernel_rfl) ?_
    intro φ52 w52 s
    refine sem_rule (binOp .shl 28 (.int .u64 1) (.int .i64 2)) (some 20) (.int .u64 4) (by kernel_rfl) ((by kernel_rfl : (binOp .shl 28 (.int .u64 1) (.int .i64 2)).run Tryz.prog w52 = .ok (.int .u64 4) w52)) ?_
    refine oKD _ [] 2 [] 0 (fun φ53 => [(5, .int .u64 0), (21, .int .u64 0)]) (fun φ53 => []) s (fun φ53 => by kernel_rfl) (by kernel_rfl) ?_
    intro φ53 w53 s
    refine seqR ?_
    refine oK _ [] 3 [] 0 (fun φ54 => [(24, .int .i64 2), (23, pB r), (22, .int .u64 0)]) (fun φ54 => []) s (fun φ54 => by kernel_rfl) ?_
    intro φ54 w54 s
    refine callB_rule (b := (r, .cells #[.slice a l.length c, .int .i64 ((p + 1 : Nat) : Int), .int .i64 0] 99)) (F := []) (Hr := []) (some 25) 0 s (by kernel_rfl) (by kernel_rfl) (getG_c (e := 0) (z := ((2 : Nat) : Int)) (r := r) (p := p + 1) hl (hn9) (by have hp0 := hp;  have hq0 := of_decide_eq_true hc47; have hq1 := of_decide_eq_false hc50; omega)) (by kernel_rfl) ?_
    rintro v55 I55 w55 b55 le55 - h55 s
    replace hl := BSl.mono le55 hl
    obtain ⟨rfl, rfl⟩ := h55
    refine oKD _ [] 2 [] 0 (fun φ56 => [(6, .int .u64 (IntKind.wrap .u64 (((0 : Nat) : Int) + ((geV l (p + 1) 0 (clampN ((2 : Nat) : Int)) : Nat) : Int)))), (26, .int .u64 (IntKind.wrap .u64 (((0 : Nat) : Int) + ((geV l (p + 1) 0 (clampN ((2 : Nat) : Int)) : Nat) : Int))))]) (fun φ56 => []) s (fun φ56 => by kernel_rfl) (by kernel_rfl) ?_
    intro φ56 w56 s
    refine wp_seq ?_
    refine seqR ?_
    refine oK _ [] 6 [.o 0] 0 (fun φ57 => [(32, .bool (((geE l (p + 1) 0 (clampN ((2 : Nat) : Int)) : Nat) : Int) != ((0 : Nat) : Int))), (31, .bool (((geE l (p + 1) 0 (clampN ((2 : Nat) : Int)) : Nat) : Int) != ((0 : Nat) : Int))), (30, .int .i64 (geE l (p + 1) 0 (clampN ((2 : Nat) : Int)))), (29, .pointer (some ⟨r, 2, none⟩)), (28, pB r), (27, pB r)]) (fun φ57 => [r]) s (fun φ57 => by kernel_rfl) ?_
    intro φ57 w57 s
    rw [nat_neq (a := (geE l (p + 1) 0 (clampN ((2 : Nat) : Int)))) (b := 0)]
    rcases Bool.eq_false_or_eq_true (decide ((geE l (p + 1) 0 (clampN ((2 : Nat) : Int))) ≠ 0)) with hc58 | hc58
    ·
     rw [hc58]
     refine oKD _ [] 8 [] 0 (fun φ59 => [(40, .bool true), (39, undef), (38, undef), (37, undef), (36, .bool true), (35, .bool true), (34, undef), (33, undef)]) (fun φ59 => []) s (fun φ59 => by kernel_rfl) (by kernel_rfl) ?_
     intro φ59 w59 s
     refine cond_true_rule (b := true) (by kernel_rfl) rfl ?_
     refine seqR ?_
     refine oAD _ [] 9 [.o 0, .o 0] 0 (fun φ60 => [(47, .pointer (some ⟨r, 2, none⟩)), (46, pB r), (45, .pointer (some ⟨r, 1, none⟩)), (44, pB r), (43, .int .i64 p), (42, pB r), (41, pB r)]) (fun φ60 => [(r, .cells #[.slice a l.length c, .int .i64 p, .int .i64 6] 99)]) (fun φ60 => [r, r]) s (fun φ60 => by kernel_rfl) (by kernel_rfl) ?_
     intro φ60 w60 s
     refine seqR ?_
     refine oKD _ [] 1 [] 0 (fun φ61 => [(2, .int .u64 0)]) (fun φ61 => []) s (fun φ61 => by kernel_rfl) (by kernel_rfl) ?_
     intro φ61 w61 s
     refine wp_ret ?_
     refine ret_rule (C := []) _ [] (.int .u64 0) [] [] s trivial (by kernel_rfl) ?_
     exact ⟨_, _, _, rfl, s, (by have h8 := num_short (j := 0) (OnesL.start hp) (of_decide_eq_true hc47) (bit_nil (of_decide_eq_false hc50)) (of_decide_eq_true hc58); exact ⟨_, rfl, rfl, (by rw [h8.1]; rfl), (by rw [h8.2.1, h8.2.2]; rfl)⟩)⟩
    ·
     rw [hc58]
     refine oKD _ [] 8 [] 0 (fun φ62 => [(40, .bool (decide ((IntKind.wrap .u64 (((0 : Nat) : Int) + ((geV l (p + 1) 0 (clampN ((2 : Nat) : Int)) : Nat) : Int))) < ((0 : Nat) : Int)))), (39, .bool (decide ((IntKind.wrap .u64 (((0 : Nat) : Int) + ((geV l (p + 1) 0 (clampN ((2 : Nat) : Int)) : Nat) : Int))) < ((0 : Nat) : Int)))), (38, .int .u64 0), (37, .int .u64 (IntKind.wrap .u64 (((0 : Nat) : Int) + ((geV l (p + 1) 0 (clampN ((2 : Nat) : Int)) : Nat) : Int)))), (36, .bool false), (35, .bool false), (34, .bool false), (33, .int .i64 2)]) (fun φ62 => []) s (fun φ62 => by kernel_rfl) (by kernel_rfl) ?_
     intro φ62 w62 s
     rcases Bool.eq_false_or_eq_true (decide ((IntKind.wrap .u64 (((0 : Nat) : Int) + ((geV l (p + 1) 0 (clampN ((2 : Nat) : Int)) : Nat) : Int))) < ((0 : Nat) : Int))) with hc63 | hc63
     ·
      rw [hc63]
      refine cond_true_rule (b := true) (by kernel_rfl) rfl ?_
      refine seqR ?_
      refine oAD _ [] 9 [.o 0, .o 0] 0 (fun φ64 => [(47, .pointer (some ⟨r, 2, none⟩)), (46, pB r), (45, .pointer (some ⟨r, 1, none⟩)), (44, pB r), (43, .int .i64 p), (42, pB r), (41, pB r)]) (fun φ64 => [(r, .cells #[.slice a l.length c, .int .i64 p, .int .i64 6] 99)]) (fun φ64 => [r, r]) s (fun φ64 => by kernel_rfl) (by kernel_rfl) ?_
      intro φ64 w64 s
      refine seqR ?_
      refine oKD _ [] 1 [] 0 (fun φ65 => [(2, .int .u64 0)]) (fun φ65 => []) s (fun φ65 => by kernel_rfl) (by kernel_rfl) ?_
      intro φ65 w65 s
      refine wp_ret ?_
      refine ret_rule (C := []) _ [] (.int .u64 0) [] [] s trivial (by kernel_rfl) ?_
      exact ⟨_, _, _, rfl, s, (by have h8 := num_over (j := 0) (OnesL.start hp) (of_decide_eq_true hc47) (bit_nil (of_decide_eq_false hc50)) (of_decide_eq_false hc58) (by decide) (of_decide_eq_true hc63); exact ⟨_, rfl, rfl, (by rw [h8.1]; rfl), (by rw [h8.2.1, h8.2.2]; rfl)⟩)⟩
     ·
      rw [hc63]
      refine cond_false_rule (b := false) (by kernel_rfl) rfl ?_
      refine wp_skip ?_
      refine seqR ?_
      refine oKD _ [] 2 [] 0 (fun φ66 => [(2, .int .u64 (IntKind.wrap .u64 (((0 : Nat) : Int) + ((geV l (p + 1) 0 (clampN ((2 : Nat) : Int)) : Nat) : Int)))), (48, .int .u64 (IntKind.wrap .u64 (((0 : Nat) : Int) + ((geV l (p + 1) 0 (clampN ((2 : Nat) : Int)) : Nat) : Int))))]) (fun φ66 => []) s (fun φ66 => by kernel_rfl) (by kernel_rfl) ?_
      intro φ66 w66 s
      refine wp_ret ?_
      refine ret_rule (C := []) _ [] (.int .u64 (IntKind.wrap .u64 (((0 : Nat) : Int) + ((geV l (p + 1) 0 (clampN ((2 : Nat) : Int)) : Nat) : Int)))) [] [] s trivial (by kernel_rfl) ?_
      exact ⟨_, _, _, rfl, s, (by have h8 := num_good (j := 0) (OnesL.start hp) (of_decide_eq_true hc47) (bit_nil (of_decide_eq_false hc50)) (of_decide_eq_false hc58) (by decide) (of_decide_eq_false hc63); exact ⟨_, rfl, rfl, congrArg (Value.int .u64) h8.1, h8.2 _ _⟩)⟩
  ·
   refine callB_rule (b := (r, .cells #[.slice a l.length c, .int .i64 p, .int .i64 0] 99)) (F := []) (Hr := []) (some 15) 0 s (by kernel_rfl) (by kernel_rfl) (get_bad (r := r) (p := p) hl (hn9) (k := 1) (by decide) (by have hp0 := hp;  omega) (by have hq0 := of_decide_eq_false hc47; omega)) (by kernel_rfl) ?_
   rintro v67 I67 w67 b67 le67 - h67 s
   replace hl := BSl.mono le67 hl
   obtain ⟨rfl, rfl⟩ := h67
   refine oKD _ [] 1 [] 0 (fun φ68 => [(16, .bool false)]) (fun φ68 => []) s (fun φ68 => by kernel_rfl) (by kernel_rfl) ?_
   intro φ68 w68 s
   refine cond_false_rule (b := false) (by kernel_rfl) rfl ?_
   refine wp_skip ?_
   refine seqR ?_
   refine oK _ [] 1 [] 0 (fun φ69 => [(19, .int .i64 2)]) (fun φ69 => []) s (fun φ69 => by kernel_rfl) ?_
   intro φ69 w69 s
   refine sem_rule (binOp .shl 28 (.int .u64 1) (.int .i64 2)) (some 20) (.int .u64 4) (by kernel_rfl) ((by kernel_rfl : (binOp .shl 28 (.int .u64 1) (.int .i64 2)).run Tryz.prog w69 = .ok (.int .u64 4) w69)) ?_
   refine oKD _ [] 2 [] 0 (fun φ70 => [(5, .int .u64 0), (21, .int .u64 0)]) (fun φ70 => []) s (fun φ70 => by kernel_rfl) (by kernel_rfl) ?_
   intro φ70 w70 s
   refine seqR ?_
   refine oK _ [] 3 [] 0 (fun φ71 => [(24, .int .i64 2), (23, pB r), (22, .int .u64 0)]) (fun φ71 => []) s (fun φ71 => by kernel_rfl) ?_
   intro φ71 w71 s
   refine callB_rule (b := (r, .cells #[.slice a l.length c, .int .i64 p, .int .i64 6] 99)) (F := []) (Hr := []) (some 25) 0 s (by kernel_rfl) (by kernel_rfl) (getG_c (e := 6) (z := ((2 : Nat) : Int)) (r := r) (p := p) hl (hn9) (by have hp0 := hp;  have hq0 := of_decide_eq_false hc47; omega)) (by kernel_rfl) ?_
   rintro v72 I72 w72 b72 le72 - h72 s
   obtain ⟨rfl, rfl⟩ := h72
   refine oKD _ [] 2 [] 0 (fun φ73 => [(6, .int .u64 (IntKind.wrap .u64 (((0 : Nat) : Int) + ((geV l p 6 (clampN ((2 : Nat) : Int)) : Nat) : Int)))), (26, .int .u64 (IntKind.wrap .u64 (((0 : Nat) : Int) + ((geV l p 6 (clampN ((2 : Nat) : Int)) : Nat) : Int))))]) (fun φ73 => []) s (fun φ73 => by kernel_rfl) (by kernel_rfl) ?_
   intro φ73 w73 s
   refine wp_seq ?_
   refine seqR ?_
   refine oK _ [] 6 [.o 0] 0 (fun φ74 => [(32, .bool (((geE l p 6 (clampN ((2 : Nat) : Int)) : Nat) : Int) != ((0 : Nat) : Int))), (31, .bool (((geE l p 6 (clampN ((2 : Nat) : Int)) : Nat) : Int) != ((0 : Nat) : Int))), (30, .int .i64 (geE l p 6 (clampN ((2 : Nat) : Int)))), (29, .pointer (some ⟨r, 2, none⟩)), (28, pB r), (27, pB r)]) (fun φ74 => [r]) s (fun φ74 => by kernel_rfl) ?_
   intro φ74 w74 s
   rw [nat_neq (a := (geE l p 6 (clampN ((2 : Nat) : Int)))) (b := 0)]
   rcases Bool.eq_false_or_eq_true (decide ((geE l p 6 (clampN ((2 : Nat) : Int))) ≠ 0)) with hc75 | hc75
   ·
    rw [hc75]
    refine oKD _ [] 8 [] 0 (fun φ76 => [(40, .bool true), (39, undef), (38, undef), (37, undef), (36, .bool true), (35, .bool true), (34, undef), (33, undef)]) (fun φ76 => []) s (fun φ76 => by kernel_rfl) (by kernel_rfl) ?_
    intro φ76 w76 s
    refine cond_true_rule (b := true) (by kernel_rfl) rfl ?_
    refine seqR ?_
    refine oAD _ [] 9 [.o 0, .o 0] 0 (fun φ77 => [(47, .pointer (some ⟨r, 2, none⟩)), (46, pB r), (45, .pointer (some ⟨r, 1, none⟩)), (44, pB r), (43, .int .i64 p), (42, pB r), (41, pB r)]) (fun φ77 => [(r, .cells #[.slice a l.length c, .int .i64 p, .int .i64 6] 99)]) (fun φ77 => [r, r]) s (fun φ77 => by kernel_rfl) (by kernel_rfl) ?_
    intro φ77 w77 s
    refine seqR ?_
    refine oKD _ [] 1 [] 0 (fun φ78 => [(2, .int .u64 0)]) (fun φ78 => []) s (fun φ78 => by kernel_rfl) (by kernel_rfl) ?_
    intro φ78 w78 s
    refine wp_ret ?_
    refine ret_rule (C := []) _ [] (.int .u64 0) [] [] s trivial (by kernel_rfl) ?_
    exact ⟨_, _, _, rfl, s, (by have h8 := num_out (j := 0) (OnesL.start hp) (of_decide_eq_false hc47); exact ⟨_, rfl, rfl, (by rw [h8.1]; rfl), (by rw [h8.2.1, h8.2.2]; rfl)⟩)⟩
   ·
    exact absurd (of_decide_eq_false hc75) (fun q => q (by rw [ge6]; decide))

end Go.Proofs.YtgmigcmhnmmdkaaGreatDoor

/- The program's bytes, of nothing too. -/
set_option linter.all false
set_option maxRecDepth 100000
namespace Go.Proofs.YtgmigcmhnmmdkaaGreatDoor
open Go.RowKit Go.Sep
attribute [local irreducible] Go.wpList Go.Code.wp

theorem bytes0_c {I : IM} {b cnt : Nat} : FunM Tryz.prog 29 #[.pointer (some ⟨b, 0, none⟩)] I [(b, .cells #[.slice none 0 0, .int .i64 ((cnt : Nat) : Int)] 90)] (fun v J H' => ∃ (b' : OB) (F' : List OB), H' = b' :: F' ∧ b'.1 = b ∧ ∃ (a : Option Addr) (c : Nat), v = .slice a 0 c ∧ b' = (b, .cells #[.slice none 0 0, .int .i64 ((cnt : Nat) : Int)] 90) ∧ RowH 5 1 (.slice none 0 0) 0 (([] : List UInt8).map bV) F' ∧ BSl J [] (.slice a 0 c)) := by
 refine enterM_rule 10 [(0, pB b)] Tryz.func29 rfl (by kernel_rfl) ?_
 intro w s
 refine seqR ?_
 refine oKD [(b, .cells #[.slice none 0 0, .int .i64 cnt] 90)] [] 1 [] 0 (fun φ1 => [(2, .slice none 0 0)]) (fun φ1 => []) s (fun φ1 => by kernel_rfl) (by kernel_rfl) ?_
 intro φ1 w1 s
 refine wp_seq ?_
 refine seqR ?_
 refine oKD _ [] 2 [] 0 (fun φ2 => [(4, .bool false), (3, pB b)]) (fun φ2 => []) s (fun φ2 => by kernel_rfl) (by kernel_rfl) ?_
 intro φ2 w2 s
 refine cond_false_rule (b := false) (by kernel_rfl) rfl ?_
 refine wp_skip ?_
 refine seqR ?_
 refine oK _ [] 4 [.o 0] 0 (fun φ3 => [(8, .slice none 0 0), (7, pB b), (6, pB b), (5, pB b)]) (fun φ3 => [b]) s (fun φ3 => by kernel_rfl) ?_
 intro φ3 w3 s
 refine call_rule (some 9) s (clone_none (n := 0) (c := 0)) (by kernel_rfl) ?_
 intro v4 I4 w4 le4 h4 s
 obtain rfl := h4
 refine oKD _ [] 1 [] 0 (fun φ5 => [(2, .slice none 0 0)]) (fun φ5 => []) s (fun φ5 => by kernel_rfl) (by kernel_rfl) ?_
 intro φ5 w5 s
 refine wp_ret ?_
 refine ret_rule (C := []) _ [] (.slice none 0 0) [] [] s trivial (by kernel_rfl) ?_
 replace s := s.drop (List.Sublist.append (List.Sublist.cons₂ _ List.Sublist.slnil) (List.Sublist.refl []))
 exact ⟨_, _, _, rfl, s, ⟨_, _, rfl, rfl, _, _, rfl, rfl, row_nilB, bsl_nil _⟩⟩

theorem bytes1_c {I : IM} {b cnt g cap : Nat} {cur : Array Value} (hr : RowH 5 1 (.slice (some ⟨g, 0, none⟩) 0 cap) 0 (([] : List UInt8).map bV) [(g, .cells cur 5)]) : FunM Tryz.prog 29 #[.pointer (some ⟨b, 0, none⟩)] I [(b, .cells #[.slice (some ⟨g, 0, none⟩) 0 cap, .int .i64 ((cnt : Nat) : Int)] 90), (g, .cells cur 5)] (fun v J H' => ∃ (b' : OB) (F' : List OB), H' = b' :: F' ∧ b'.1 = b ∧ ∃ (a : Option Addr) (c : Nat), v = .slice a 0 c ∧ b' = (b, .cells #[.slice (some ⟨g, 0, none⟩) 0 cap, .int .i64 ((cnt : Nat) : Int)] 90) ∧ RowH 5 1 (.slice (some ⟨g, 0, none⟩) 0 cap) 0 (([] : List UInt8).map bV) F' ∧ BSl J [] (.slice a 0 c)) := by
 refine enterM_rule 10 [(0, pB b)] Tryz.func29 rfl (by kernel_rfl) ?_
 intro w s
 refine seqR ?_
 refine oKD [(b, .cells #[.slice (some ⟨g, 0, none⟩) 0 cap, .int .i64 cnt] 90), (g, .cells cur 5)] [] 1 [] 0 (fun φ1 => [(2, .slice none 0 0)]) (fun φ1 => []) s (fun φ1 => by kernel_rfl) (by kernel_rfl) ?_
 intro φ1 w1 s
 refine wp_seq ?_
 refine seqR ?_
 refine oKD _ [] 2 [] 0 (fun φ2 => [(4, .bool false), (3, pB b)]) (fun φ2 => []) s (fun φ2 => by kernel_rfl) (by kernel_rfl) ?_
 intro φ2 w2 s
 refine cond_false_rule (b := false) (by kernel_rfl) rfl ?_
 refine wp_skip ?_
 refine seqR ?_
 refine oK _ [] 4 [.o 0] 0 (fun φ3 => [(8, .slice (some ⟨g, 0, none⟩) 0 cap), (7, pB b), (6, pB b), (5, pB b)]) (fun φ3 => [b]) s (fun φ3 => by kernel_rfl) ?_
 intro φ3 w3 s
 have hle4 : IM.Le I (IM.add I g (.cells cur 5)) := IM.le_add (s.free (g, .cells cur 5) (by simp)) _
 refine callLF_rule (H := ([(b, .cells #[.slice (some ⟨g, 0, none⟩) 0 cap, .int .i64 cnt] 90), (g, .cells cur 5)] ++ [])) (R := fun v F' => RowH 5 1 v (([] : List UInt8)).length ((([] : List UInt8)).map bV) F') (some 9) s (IM.add I g (.cells cur 5)) hle4 (add_sub (by simp)) (clone_row (row_lend (I := I) hr) (by decide)) (by kernel_rfl) ?_
 intro v5 w5 F5 h5 s
 obtain ⟨I6, le6, hb6, s⟩ := freeze_row (H := [(b, .cells #[.slice (some ⟨g, 0, none⟩) 0 cap, .int .i64 ((cnt : Nat) : Int)] 90), (g, .cells cur 5)]) (F := F5) s h5
 obtain ⟨a6, c6, hv6, hc6, hb6⟩ := hb6.open
 subst hv6
 refine oKD [(b, .cells #[.slice (some ⟨g, 0, none⟩) 0 cap, .int .i64 cnt] 90), (g, .cells cur 5)] [] 1 [] 0 (fun φ7 => [(2, .slice a6 ((([] : List UInt8)).length) c6)]) (fun φ7 => []) s (fun φ7 => by kernel_rfl) (by kernel_rfl) ?_
 intro φ7 w7 s
 refine wp_ret ?_
 refine ret_rule (C := []) _ [] (.slice a6 ((([] : List UInt8)).length) c6) [] [] s trivial (by kernel_rfl) ?_
 replace s := s.drop (List.Sublist.append (List.Sublist.cons₂ _ (List.Sublist.cons₂ _ List.Sublist.slnil)) (List.Sublist.refl []))
 exact ⟨_, _, _, rfl, s, ⟨_, _, rfl, rfl, _, _, rfl, rfl, hr, hb6⟩⟩

theorem bytesA_c {I : IM} {b cnt : Nat} {bs : List Bool} {v0 : Value} {F : List OB} (hl9 : bs.length ≤ 1000000) (h : RowH 5 1 v0 (pk bs).length ((pk bs).map bV) F) : FunM Tryz.prog 29 #[.pointer (some ⟨b, 0, none⟩)] I ((b, .cells #[v0, .int .i64 ((cnt : Nat) : Int)] 90) :: F) (fun v J H' => ∃ (b' : OB) (F' : List OB), H' = b' :: F' ∧ b'.1 = b ∧ ∃ (a : Option Addr) (c : Nat), v = .slice a (List.length (pk bs)) c ∧ b' = (b, .cells #[v0, .int .i64 ((cnt : Nat) : Int)] 90) ∧ RowH 5 1 v0 (pk bs).length ((pk bs).map bV) F' ∧ BSl J (pk bs) (.slice a (List.length (pk bs)) c)) := by
  by_cases hp : 0 < bs.length
  · exact bytes_c hp hl9 h
  · have : bs = [] := List.length_eq_zero_iff.1 (by omega)
    subst this
    have h' : RowH 5 1 v0 0 (([] : List UInt8).map bV) F := h
    rcases h'.2 with ⟨rfl, _, rfl⟩ | ⟨g, cap, cur, rfl, rfl, _⟩
    · exact bytes0_c
    · exact bytes1_c h'

end Go.Proofs.YtgmigcmhnmmdkaaGreatDoor

/- The bits of bytes. -/
set_option linter.all false
set_option maxRecDepth 100000
namespace Go.Proofs.YtgmigcmhnmmdkaaGreatDoor
open Go.RowKit Go.Sep
attribute [local irreducible] Go.wpList Go.Code.wp

theorem wrap8_mul {b : Nat} : IntKind.wrap .u8 (((b : Nat) : Int) * ((2 : Nat) : Int)) = ((b * 2 % 256 : Nat) : Int) := by
  simp only [IntKind.wrap, IntKind.signed, IntKind.bits]
  show (((b : Nat) : Int) * ((2 : Nat) : Int)) % 256 = _
  omega

set_option maxHeartbeats 2000000 in
theorem refBits_r {I : IM} {l : List UInt8} {a : Option Addr} {n c : Nat} (hl : BSl I l (.slice a n c)) (hn9 : l.length ≤ 100000) : FunM Tryz.prog 16 #[.slice a n c] I [] (fun v J F => RowH 4 1 v (bitsL l).length ((bitsL l).map Value.bool) F) := by
 obtain ⟨rfl, -⟩ := hl.cap
 refine enterM_rule 26 [(0, .slice a l.length c)] Tryz.func16 rfl (by kernel_rfl) ?_
 intro w s
 refine seqR ?_
 refine oKD [] [] 1 [] 0 (fun φ1 => [(2, .slice none 0 0)]) (fun φ1 => []) s (fun φ1 => by kernel_rfl) (by kernel_rfl) ?_
 intro φ1 w1 s
 refine seqR ?_
 refine oKD [] [] 1 [] 0 (fun φ2 => [(3, .slice none 0 0)]) (fun φ2 => []) s (fun φ2 => by kernel_rfl) (by kernel_rfl) ?_
 intro φ2 w2 s
 refine wp_seq ?_
 refine seqR ?_
 refine oKD [] [] 3 [] 0 (fun φ3 => [(9, .int .i64 0), (8, .int .i64 l.length), (7, .slice a l.length c)]) (fun φ3 => []) s (fun φ3 => by kernel_rfl) (by kernel_rfl) ?_
 intro φ3 w3 s
 refine wp_block ?_
 have hle4 := IM.Le.refl I
 refine loop_rule (fun (x : Nat × Value × List OB) => [(7, .slice a l.length c), (8, .int .i64 l.length), (9, .int .i64 x.1), (3, x.2.1)]) (fun (x : Nat × Value × List OB) => [] ++ x.2.2) (fun m (x : Nat × Value × List OB) J => IM.Le I J ∧ x.1 + m = l.length ∧ RowH 4 1 x.2.1 ((bitsL l).take (x.1 * 8)).length (((bitsL l).take (x.1 * 8)).map Value.bool) x.2.2) (l.length) (0, (.slice none 0 0), []) s (by kernel_rfl) (List.Sublist.refl _) ⟨IM.Le.refl _, Nat.zero_add _, (by rw [Nat.zero_mul]; exact row_nilBo)⟩ ?_
 rintro m5 ⟨i5, v5, F5⟩ I5 w5 ev5 s ⟨le5, hi5_0, hi5_1⟩
 try dsimp only at s hi5_0 hi5_1 ⊢
 replace hl := BSl.mono le5 hl
 replace hle4 := leMono le5 hle4
 refine seqR ?_
 refine oK [] F5 1 [] 0 (fun φ6 => [(10, .bool (decide (((i5 : Nat) : Int) < ((l.length : Nat) : Int))))]) (fun φ6 => []) s (fun φ6 => by kernel_rfl) ?_
 intro φ6 w6 s
 rw [nat_lss (a := i5) (b := l.length)]
 refine ops_done (by kernel_rfl) ?_
 refine wp_seq ?_
 rcases Bool.eq_false_or_eq_true (decide (i5 < l.length)) with hc7 | hc7
 ·
  rw [hc7]
  refine cond_true_rule (b := true) (by kernel_rfl) rfl ?_
  refine wp_skip ?_
  refine wp_seq ?_
  refine wp_block ?_
  refine seqR ?_
  refine sem_rule (Instr.indexAt 22 (.slice a l.length c) (.int .i64 i5)) (some 11) (.pointer (pAt a i5)) (by kernel_rfl) (bsl_idx hl (by  have hq0 := of_decide_eq_true hc7; omega)) ?_
  refine sem_rule (Instr.loadAt 5 (.pointer (pAt a i5))) (some 12) (.int .u8 (((l.getD i5 0).toNat : Nat) : Int)) (by kernel_rfl) (bsl_ld s.sub hl (by  have hq0 := of_decide_eq_true hc7; omega)) ?_
  refine oKD [] F5 1 [] 0 (fun φ8 => [(5, .int .u8 (((l.getD i5 0).toNat : Nat) : Int))]) (fun φ8 => []) s (fun φ8 => by kernel_rfl) (by kernel_rfl) ?_
  intro φ8 w8 s
  refine seqR ?_
  refine oKD [] F5 1 [] 0 (fun φ9 => [(6, .int .i64 0)]) (fun φ9 => []) s (fun φ9 => by kernel_rfl) (by kernel_rfl) ?_
  intro φ9 w9 s
  refine wp_block ?_
  have hle10 := IM.Le.refl I5
  refine loop_rule (fun (x : Nat × Nat × Value × List OB) => [(7, .slice a l.length c), (8, .int .i64 l.length), (9, .int .i64 i5), (6, .int .i64 x.1), (5, .int .u8 x.2.1), (3, x.2.2.1)]) (fun (x : Nat × Nat × Value × List OB) => [] ++ x.2.2.2) (fun m (x : Nat × Nat × Value × List OB) J => IM.Le I5 J ∧ x.1 + m = 8 ∧ x.2.1 = (l.getD i5 0).toNat * 2 ^ x.1 % 256 ∧ RowH 4 1 x.2.2.1 ((bitsL l).take (i5 * 8 + x.1)).length (((bitsL l).take (i5 * 8 + x.1)).map Value.bool) x.2.2.2) (8) (0, (l.getD i5 0).toNat, v5, F5) s (by kernel_rfl) (List.Sublist.refl _) ⟨IM.Le.refl _, rfl, (by have := byte_lt (l.getD i5 0); show (l.getD i5 0).toNat = (l.getD i5 0).toNat * 2 ^ 0 % 256; rw [Nat.pow_zero, Nat.mul_one, Nat.mod_eq_of_lt this]), hi5_1⟩ ?_
  rintro m11 ⟨k11, b11, v11, F11⟩ I11 w11 ev11 s ⟨le11, hi11_0, hi11_1, hi11_2⟩
  try dsimp only at s hi11_0 hi11_1 hi11_2 ⊢
  replace hle4 := leMono le11 hle4
  replace hle10 := leMono le11 hle10
  refine wp_seq ?_
  refine seqR ?_
  refine oK [] F11 2 [] 0 (fun φ12 => [(14, .bool (decide (((k11 : Nat) : Int) < ((8 : Nat) : Int)))), (13, .int .i64 k11)]) (fun φ12 => []) s (fun φ12 => by kernel_rfl) ?_
  intro φ12 w12 s
  rw [nat_lss (a := k11) (b := 8)]
  refine ops_done (by kernel_rfl) ?_
  rcases Bool.eq_false_or_eq_true (decide (k11 < 8)) with hc13 | hc13
  ·
   rw [hc13]
   refine cond_true_rule (b := true) (by kernel_rfl) rfl ?_
   refine wp_skip ?_
   refine wp_seq ?_
   refine wp_block ?_
   refine seqR ?_
   refine oA [] F11 4 [] 1 (fun φ14 => [(20, .slice (some ⟨(φ14 0), 0, none⟩) 1 1), (19, .bool (decide (((b11 : Nat) : Int) ≥ ((128 : Nat) : Int)))), (18, .int .u8 b11), (17, v11)]) (fun φ14 => [(φ14 0, .cells #[.bool (decide (((b11 : Nat) : Int) ≥ ((128 : Nat) : Int)))] 4)]) (fun φ14 => []) s (fun φ14 => by kernel_rfl) ?_
   intro φ14 w14 s
   rw [nat_geq (a := b11) (b := 128)] at s ⊢
   obtain ⟨I15, le15, hk15, s⟩ := s.freezeAt 0 (φ14 0) (.cells #[.bool (decide (128 ≤ b11))] 4) ([] ++ F11) (by kernel_rfl) (by kernel_rfl)
   replace hle4 := leMono le15 hle4
   replace hle10 := leMono le15 hle10
   refine append_rule (H := []) (F := F11) 53 53 4 Tryz.t4 (.bool false) 1 1 (some 21) s Tryz.underlying53 (by kernel_rfl) (by kernel_rfl) (by kernel_rfl) (by kernel_rfl) (by kernel_rfl) (by decide) hi11_2 (src_bos s.sub (bos_one hk15)) (by have hq0 := of_decide_eq_true hc7; have hq1 := of_decide_eq_true hc13; have hln : List.length ((bitsL l).take (i5 * 8 + k11)) ≤ i5 * 8 + k11 := List.length_take_le ..; (try simp only [maxLen, List.length_append, List.length_cons, List.length_nil]); omega) (by have hq0 := of_decide_eq_true hc7; have hq1 := of_decide_eq_true hc13; have hln : List.length ((bitsL l).take (i5 * 8 + k11)) ≤ i5 * 8 + k11 := List.length_take_le ..; (try simp only [maxLen, List.length_append, List.length_cons, List.length_nil]); omega) (by kernel_rfl) ?_
   intro v16 w16 F16 s h16
   replace h16 : RowH 4 1 v16 ((((bitsL l).take (i5 * 8 + k11)) ++ ([decide (128 ≤ b11)] : List Bool)).length) ((((bitsL l).take (i5 * 8 + k11)) ++ ([decide (128 ≤ b11)] : List Bool)).map Value.bool) F16 := row_appB (x := ((bitsL l).take (i5 * 8 + k11))) (y := ([decide (128 ≤ b11)] : List Bool)) h16
   refine oKD [] F16 1 [] 0 (fun φ17 => [(3, v16)]) (fun φ17 => []) s (fun φ17 => by kernel_rfl) (by kernel_rfl) ?_
   intro φ17 w17 s
   refine region_rule ?_
   refine oKD [] F16 3 [] 0 (fun φ18 => [(5, .int .u8 (IntKind.wrap .u8 (((b11 : Nat) : Int) * ((2 : Nat) : Int)))), (23, .int .u8 (IntKind.wrap .u8 (((b11 : Nat) : Int) * ((2 : Nat) : Int)))), (22, .int .u8 b11)]) (fun φ18 => []) s (fun φ18 => by kernel_rfl) (by kernel_rfl) ?_
   intro φ18 w18 s
   refine region_rule ?_
   refine oK [] F16 3 [] 0 (fun φ19 => [(6, .int .i64 (IntKind.wrap .i64 (((k11 : Nat) : Int) + ((1 : Nat) : Int)))), (16, .int .i64 (IntKind.wrap .i64 (((k11 : Nat) : Int) + ((1 : Nat) : Int)))), (15, .int .i64 k11)]) (fun φ19 => []) s (fun φ19 => by kernel_rfl) ?_
   intro φ19 w19 s
   rw [nat_addI (a := k11) (b := 1) (by  have hq0 := of_decide_eq_true hc7; have hq1 := of_decide_eq_true hc13; omega)]
   refine ops_done (by kernel_rfl) ?_
   have hq9 := of_decide_eq_true hc13
   have hi9 := of_decide_eq_true hc7
   have e9 : ((bitsL l).take (i5 * 8 + k11)) ++ ([decide (128 ≤ b11)] : List Bool) = ((bitsL l).take (i5 * 8 + (k11 + 1))) := by rw [hi11_1, top_bitB hq9, bits_snoc (by omega)]; rfl
   rw [wrap8_mul]
   have hr9 := h16
   rw [e9] at hr9
   exact ⟨⟨m11 - 1, (k11 + 1, b11 * 2 % 256, v16, F16), _, _, _, by omega, rfl, s, (List.Sublist.append List.Sublist.slnil (List.Sublist.refl _)), by kernel_rfl, hle10, by show k11 + 1 + (m11 - 1) = 8; omega, by show b11 * 2 % 256 = _; rw [hi11_1, byte_dbl], hr9⟩⟩
  ·
   rw [hc13]
   refine cond_false_rule (b := false) (by kernel_rfl) rfl ?_
   refine wp_exit ?_
   refine region_rule ?_
   refine oK [] F11 2 [] 0 (fun φ20 => [(9, .int .i64 (IntKind.wrap .i64 (((i5 : Nat) : Int) + ((1 : Nat) : Int)))), (24, .int .i64 (IntKind.wrap .i64 (((i5 : Nat) : Int) + ((1 : Nat) : Int))))]) (fun φ20 => []) s (fun φ20 => by kernel_rfl) ?_
   intro φ20 w20 s
   rw [nat_addI (a := i5) (b := 1) (by  have hq0 := of_decide_eq_true hc7; have hq1 := of_decide_eq_false hc13; omega)]
   refine ops_done (by kernel_rfl) ?_
   have hi9 := of_decide_eq_true hc7
   have hk9 := of_decide_eq_false hc13
   have hk8 := hi11_0
   have e9 : ((bitsL l).take (i5 * 8 + k11)) = ((bitsL l).take ((i5 + 1) * 8)) := by rw [show i5 * 8 + k11 = (i5 + 1) * 8 by omega]
   have hr9 := hi11_2
   rw [e9] at hr9
   exact ⟨⟨m5 - 1, (i5 + 1, v11, F11), _, _, _, by omega, rfl, s, (List.Sublist.append List.Sublist.slnil (List.Sublist.refl _)), by kernel_rfl, hle4, by show i5 + 1 + (m5 - 1) = l.length; omega, hr9⟩⟩
 ·
  rw [hc7]
  refine cond_false_rule (b := false) (by kernel_rfl) rfl ?_
  refine wp_exit ?_
  refine seqR ?_
  refine oKD [] F5 2 [] 0 (fun φ21 => [(2, v5), (25, v5)]) (fun φ21 => []) s (fun φ21 => by kernel_rfl) (by kernel_rfl) ?_
  intro φ21 w21 s
  refine wp_ret ?_
  refine ret_rule (C := []) [] F5 (v5) [] [] s trivial (by kernel_rfl) ?_
  replace s := s.drop (List.sublist_append_right [] F5)
  exact ⟨_, _, _, rfl, s, (by have hi9 := of_decide_eq_false hc7; have h0 := hi5_0; have hr9 := hi5_1; rw [show i5 * 8 = (bitsL l).length by rw [bitsL_len]; omega, List.take_length] at hr9; exact hr9)⟩

theorem refBits_c {I : IM} {l : List UInt8} {a : Option Addr} {n c : Nat} (hl : BSl I l (.slice a n c)) (hn9 : l.length ≤ 100000) : Fun Tryz.prog 16 #[.slice a n c] I (fun v J => boR (bitsL l) v J) := fun_of_rowBo (refBits_r hl hn9)

end Go.Proofs.YtgmigcmhnmmdkaaGreatDoor

