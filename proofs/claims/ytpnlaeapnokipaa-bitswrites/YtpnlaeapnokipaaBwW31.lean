/- The program reads a number in few bits. -/
import Derived.Test.YtpnlaeapnokipaaBwW27
import Derived.Test.YtpnlaeapnokipaaBwC13
import Derived.Test.YtpnlaeapnokipaaBwS13
set_option linter.all false
set_option maxRecDepth 100000
namespace Go.Proofs.Ytpnlaeapnokipaa
open Go.RowKit Go.Sep
attribute [local irreducible] Go.wpList Go.Code.wp

set_option maxHeartbeats 2000000 in
theorem numR_c {I : IM} {l : List UInt8} {a : Option Addr} {n c : Nat} (hl : BSl I l (.slice a n c)) (hn9 : l.length ≤ 1000000) {r p : Nat} (hp : p ≤ l.length * 8) : FunM Try.prog 25 #[.pointer (some ⟨r, 0, none⟩)] I [(r, .cells #[.slice a n c, .int .i64 ((p : Nat) : Int), .int .i64 0] 99)] (fun v J H' => ∃ b' : OB, H' = [b'] ∧ b'.1 = r ∧ v = .int .u64 ((bnV ((bitsL l).drop p) 0 : Nat) : Int) ∧ b' = (r, .cells #[.slice a n c, .int .i64 ((p + bnD ((bitsL l).drop p) 0 : Nat) : Int), .int .i64 ((bnE ((bitsL l).drop p) 0 : Nat) : Int)] 99)) := by
  obtain ⟨rfl, -⟩ := hl.cap
  refine enterM_rule 49 [(0, .pointer (some ⟨r, 0, none⟩))] Try.func25 rfl (by kernel_rfl) ?_
  intro w s
  refine wp_seq ?_
  refine region_rule ?_
  refine ops_rule (C := []) [(r, .cells #[.slice a l.length c, .int .i64 ((p : Nat) : Int), .int .i64 0] 99)] [] 1 [] 0 (fun φ1 => [(2, .int .u64 0)]) (fun φ1 => [(r, .cells #[.slice a l.length c, .int .i64 ((p : Nat) : Int), .int .i64 0] 99)]) (fun φ1 => []) s trivial (fun φ1 => by kernel_rfl) ?_
  intro φ1 w1 s
  refine ops_done (by kernel_rfl) ?_
  have hle2 := IM.Le.refl I
  refine goto_rule s 0 (fun j : Nat => [(0, .pointer (some ⟨r, 0, none⟩)), (3, .int .i64 ((p : Nat) : Int)), (4, .int .i64 ((j + 2 : Nat) : Int))]) (fun j : Nat => [(r, .cells #[.slice a l.length c, .int .i64 ((p + j : Nat) : Int), .int .i64 0] 99)]) (fun n j J => IM.Le I J ∧ p + j + n = l.length * 8 ∧ OnesL l p j) rfl ?_ ?_
  ·
    rintro m3 j3 I3 w3 ev3 s ⟨le3, hm3, ho3⟩
    replace hl := BSl.mono le3 hl
    replace hle2 := leMono le3 hle2
    refine wp_seq ?_
    refine wp_skip ?_
    refine wp_seq ?_
    refine wp_seq ?_
    refine region_rule ?_
    refine ops_rule (C := []) [(r, .cells #[.slice a l.length c, .int .i64 ((p + j3 : Nat) : Int), .int .i64 0] 99)] [] 1 [] 0 (fun φ4 => [(14, .pointer (some ⟨r, 0, none⟩))]) (fun φ4 => [(r, .cells #[.slice a l.length c, .int .i64 ((p + j3 : Nat) : Int), .int .i64 0] 99)]) (fun φ4 => []) s trivial (fun φ4 => by kernel_rfl) ?_
    intro φ4 w4 s
    rcases Bool.eq_false_or_eq_true (decide (p + j3 + 1 ≤ l.length * 8)) with hc5 | hc5
    ·
      refine callB_rule (b := (r, .cells #[.slice a l.length c, .int .i64 ((p + j3 : Nat) : Int), .int .i64 0] 99)) (H := [(r, .cells #[.slice a l.length c, .int .i64 ((p + j3 : Nat) : Int), .int .i64 0] 99)]) (F := []) (Hr := []) (some 15) 0 s (by kernel_rfl) (by kernel_rfl) (get_c (r := r) (p := p + j3) hl (hn9) (k := 1) (by decide) (of_decide_eq_true hc5)) (by kernel_rfl) ?_
      rintro v6 I6 w6 b6 le6 - h6 s
      replace hl := BSl.mono le6 hl
      replace hle2 := leMono le6 hle2
      obtain ⟨rfl, rfl⟩ := h6
      refine ops_rule (C := []) [(r, .cells #[.slice a l.length c, .int .i64 ((p + j3 + 1 : Nat) : Int), .int .i64 0] 99)] [] 1 [] 0 (fun φ7 => [(16, .bool (((rd l (p + j3) 1 : Nat) : Int) == ((1 : Nat) : Int)))]) (fun φ7 => [(r, .cells #[.slice a l.length c, .int .i64 ((p + j3 + 1 : Nat) : Int), .int .i64 0] 99)]) (fun φ7 => []) s trivial (fun φ7 => by kernel_rfl) ?_
      intro φ7 w7 s
      rw [nat_eql (a := (rd l (p + j3) 1)) (b := 1)]
      refine ops_done (by kernel_rfl) ?_
      rcases Bool.eq_false_or_eq_true (decide ((rd l (p + j3) 1) = 1)) with hc8 | hc8
      ·
        rw [hc8]
        refine cond_true_rule (b := true) (by kernel_rfl) rfl ?_
        refine wp_seq ?_
        refine region_rule ?_
        refine ops_rule (C := []) [(r, .cells #[.slice a l.length c, .int .i64 ((p + j3 + 1 : Nat) : Int), .int .i64 0] 99)] [] 3 [] 0 (fun φ9 => [(4, .int .i64 (IntKind.wrap .i64 (((j3 + 2 : Nat) : Int) + ((1 : Nat) : Int)))), (18, .int .i64 (IntKind.wrap .i64 (((j3 + 2 : Nat) : Int) + ((1 : Nat) : Int)))), (17, .int .i64 ((j3 + 2 : Nat) : Int))]) (fun φ9 => [(r, .cells #[.slice a l.length c, .int .i64 ((p + j3 + 1 : Nat) : Int), .int .i64 0] 99)]) (fun φ9 => []) s trivial (fun φ9 => by kernel_rfl) ?_
        intro φ9 w9 s
        rw [nat_addI (a := (j3 + 2)) (b := 1) (by have hp0 := hp; have ho1 := ho3.len;  have hq0 := of_decide_eq_true hc5; have hq1 := of_decide_eq_true hc8; omega)]
        refine ops_done (by kernel_rfl) ?_
        refine wp_goto ?_
        exact ⟨rfl, ⟨⟨m3 - 1, j3 + 1, _, _, _, (by have := of_decide_eq_true hc5; omega), rfl, s, (List.Sublist.cons₂ _ List.Sublist.slnil), by kernel_rfl, hle2, (by have := of_decide_eq_true hc5; show p + (j3 + 1) + (m3 - 1) = _; omega), OnesL.step ho3 (of_decide_eq_true hc5) (bit_one (of_decide_eq_true hc8))⟩⟩⟩
      ·
        rw [hc8]
        refine cond_false_rule (b := false) (by kernel_rfl) rfl ?_
        refine wp_skip ?_
        refine wp_seq ?_
        refine region_rule ?_
        refine ops_rule (C := []) [(r, .cells #[.slice a l.length c, .int .i64 ((p + j3 + 1 : Nat) : Int), .int .i64 0] 99)] [] 1 [] 0 (fun φ10 => [(19, .int .i64 ((j3 + 2 : Nat) : Int))]) (fun φ10 => [(r, .cells #[.slice a l.length c, .int .i64 ((p + j3 + 1 : Nat) : Int), .int .i64 0] 99)]) (fun φ10 => []) s trivial (fun φ10 => by kernel_rfl) ?_
        intro φ10 w10 s
        refine sem_rule (binOp .shl 27 (.int .u64 ((1 : Nat) : Int)) (.int .i64 ((j3 + 2 : Nat) : Int))) (some 20) (.int .u64 ((bshl 64 1 (j3 + 2) : Nat) : Int)) (by kernel_rfl) (run_shlU (.inr (.inr (.inl rfl)))) ?_
        refine ops_rule (C := []) [(r, .cells #[.slice a l.length c, .int .i64 ((p + j3 + 1 : Nat) : Int), .int .i64 0] 99)] [] 2 [] 0 (fun φ11 => [(5, .int .u64 (IntKind.wrap .u64 (((bshl 64 1 (j3 + 2) : Nat) : Int) - ((4 : Nat) : Int)))), (21, .int .u64 (IntKind.wrap .u64 (((bshl 64 1 (j3 + 2) : Nat) : Int) - ((4 : Nat) : Int))))]) (fun φ11 => [(r, .cells #[.slice a l.length c, .int .i64 ((p + j3 + 1 : Nat) : Int), .int .i64 0] 99)]) (fun φ11 => []) s trivial (fun φ11 => by kernel_rfl) ?_
        intro φ11 w11 s
        refine ops_done (by kernel_rfl) ?_
        refine wp_seq ?_
        refine region_rule ?_
        refine ops_rule (C := []) [(r, .cells #[.slice a l.length c, .int .i64 ((p + j3 + 1 : Nat) : Int), .int .i64 0] 99)] [] 3 [] 0 (fun φ12 => [(24, .int .i64 ((j3 + 2 : Nat) : Int)), (23, .pointer (some ⟨r, 0, none⟩)), (22, .int .u64 (IntKind.wrap .u64 (((bshl 64 1 (j3 + 2) : Nat) : Int) - ((4 : Nat) : Int))))]) (fun φ12 => [(r, .cells #[.slice a l.length c, .int .i64 ((p + j3 + 1 : Nat) : Int), .int .i64 0] 99)]) (fun φ12 => []) s trivial (fun φ12 => by kernel_rfl) ?_
        intro φ12 w12 s
        refine callB_rule (b := (r, .cells #[.slice a l.length c, .int .i64 ((p + j3 + 1 : Nat) : Int), .int .i64 0] 99)) (H := [(r, .cells #[.slice a l.length c, .int .i64 ((p + j3 + 1 : Nat) : Int), .int .i64 0] 99)]) (F := []) (Hr := []) (some 25) 0 s (by kernel_rfl) (by kernel_rfl) (getG_c (e := 0) (z := ((j3 + 2 : Nat) : Int)) (r := r) (p := p + j3 + 1) hl (hn9) (by have hp0 := hp; have ho1 := ho3.len;  have hq0 := of_decide_eq_true hc5; have hq1 := of_decide_eq_false hc8; omega)) (by kernel_rfl) ?_
        rintro v13 I13 w13 b13 le13 - h13 s
        replace hl := BSl.mono le13 hl
        replace hle2 := leMono le13 hle2
        obtain ⟨rfl, rfl⟩ := h13
        refine ops_rule (C := []) [(r, .cells #[.slice a l.length c, .int .i64 ((p + j3 + 1 + geD l (p + j3 + 1) 0 (clampN ((j3 + 2 : Nat) : Int)) : Nat) : Int), .int .i64 ((geE l (p + j3 + 1) 0 (clampN ((j3 + 2 : Nat) : Int)) : Nat) : Int)] 99)] [] 2 [] 0 (fun φ14 => [(6, .int .u64 (IntKind.wrap .u64 ((IntKind.wrap .u64 (((bshl 64 1 (j3 + 2) : Nat) : Int) - ((4 : Nat) : Int))) + ((geV l (p + j3 + 1) 0 (clampN ((j3 + 2 : Nat) : Int)) : Nat) : Int)))), (26, .int .u64 (IntKind.wrap .u64 ((IntKind.wrap .u64 (((bshl 64 1 (j3 + 2) : Nat) : Int) - ((4 : Nat) : Int))) + ((geV l (p + j3 + 1) 0 (clampN ((j3 + 2 : Nat) : Int)) : Nat) : Int))))]) (fun φ14 => [(r, .cells #[.slice a l.length c, .int .i64 ((p + j3 + 1 + geD l (p + j3 + 1) 0 (clampN ((j3 + 2 : Nat) : Int)) : Nat) : Int), .int .i64 ((geE l (p + j3 + 1) 0 (clampN ((j3 + 2 : Nat) : Int)) : Nat) : Int)] 99)]) (fun φ14 => []) s trivial (fun φ14 => by kernel_rfl) ?_
        intro φ14 w14 s
        refine ops_done (by kernel_rfl) ?_
        refine wp_seq ?_
        refine wp_seq ?_
        refine region_rule ?_
        refine ops_rule (C := []) [(r, .cells #[.slice a l.length c, .int .i64 ((p + j3 + 1 + geD l (p + j3 + 1) 0 (clampN ((j3 + 2 : Nat) : Int)) : Nat) : Int), .int .i64 ((geE l (p + j3 + 1) 0 (clampN ((j3 + 2 : Nat) : Int)) : Nat) : Int)] 99)] [] 6 [.o 0] 0 (fun φ15 => [(32, .bool (((geE l (p + j3 + 1) 0 (clampN ((j3 + 2 : Nat) : Int)) : Nat) : Int) != ((0 : Nat) : Int))), (31, .bool (((geE l (p + j3 + 1) 0 (clampN ((j3 + 2 : Nat) : Int)) : Nat) : Int) != ((0 : Nat) : Int))), (30, .int .i64 ((geE l (p + j3 + 1) 0 (clampN ((j3 + 2 : Nat) : Int)) : Nat) : Int)), (29, .pointer (some ⟨r, 2, none⟩)), (28, .pointer (some ⟨r, 0, none⟩)), (27, .pointer (some ⟨r, 0, none⟩))]) (fun φ15 => [(r, .cells #[.slice a l.length c, .int .i64 ((p + j3 + 1 + geD l (p + j3 + 1) 0 (clampN ((j3 + 2 : Nat) : Int)) : Nat) : Int), .int .i64 ((geE l (p + j3 + 1) 0 (clampN ((j3 + 2 : Nat) : Int)) : Nat) : Int)] 99)]) (fun φ15 => [r]) s trivial (fun φ15 => by kernel_rfl) ?_
        intro φ15 w15 s
        rw [nat_neq (a := (geE l (p + j3 + 1) 0 (clampN ((j3 + 2 : Nat) : Int)))) (b := 0)]
        rcases Bool.eq_false_or_eq_true (decide ((geE l (p + j3 + 1) 0 (clampN ((j3 + 2 : Nat) : Int))) ≠ 0)) with hc16 | hc16
        ·
          rw [hc16]
          refine ops_rule (C := []) [(r, .cells #[.slice a l.length c, .int .i64 ((p + j3 + 1 + geD l (p + j3 + 1) 0 (clampN ((j3 + 2 : Nat) : Int)) : Nat) : Int), .int .i64 ((geE l (p + j3 + 1) 0 (clampN ((j3 + 2 : Nat) : Int)) : Nat) : Int)] 99)] [] 8 [] 0 (fun φ17 => [(40, .bool true), (39, undef), (38, undef), (37, undef), (36, .bool true), (35, .bool true), (34, undef), (33, undef)]) (fun φ17 => [(r, .cells #[.slice a l.length c, .int .i64 ((p + j3 + 1 + geD l (p + j3 + 1) 0 (clampN ((j3 + 2 : Nat) : Int)) : Nat) : Int), .int .i64 ((geE l (p + j3 + 1) 0 (clampN ((j3 + 2 : Nat) : Int)) : Nat) : Int)] 99)]) (fun φ17 => []) s trivial (fun φ17 => by kernel_rfl) ?_
          intro φ17 w17 s
          refine ops_done (by kernel_rfl) ?_
          refine cond_true_rule (b := true) (by kernel_rfl) rfl ?_
          refine wp_seq ?_
          refine region_rule ?_
          refine ops_rule (C := []) [(r, .cells #[.slice a l.length c, .int .i64 ((p + j3 + 1 + geD l (p + j3 + 1) 0 (clampN ((j3 + 2 : Nat) : Int)) : Nat) : Int), .int .i64 ((geE l (p + j3 + 1) 0 (clampN ((j3 + 2 : Nat) : Int)) : Nat) : Int)] 99)] [] 9 [.o 0, .o 0] 0 (fun φ18 => [(47, .pointer (some ⟨r, 2, none⟩)), (46, .pointer (some ⟨r, 0, none⟩)), (45, .pointer (some ⟨r, 1, none⟩)), (44, .pointer (some ⟨r, 0, none⟩)), (43, .int .i64 ((p : Nat) : Int)), (42, .pointer (some ⟨r, 0, none⟩)), (41, .pointer (some ⟨r, 0, none⟩))]) (fun φ18 => [(r, .cells #[.slice a l.length c, .int .i64 ((p : Nat) : Int), .int .i64 6] 99)]) (fun φ18 => [r, r]) s trivial (fun φ18 => by kernel_rfl) ?_
          intro φ18 w18 s
          refine ops_done (by kernel_rfl) ?_
          refine wp_seq ?_
          refine region_rule ?_
          refine ops_rule (C := []) [(r, .cells #[.slice a l.length c, .int .i64 ((p : Nat) : Int), .int .i64 6] 99)] [] 1 [] 0 (fun φ19 => [(2, .int .u64 0)]) (fun φ19 => [(r, .cells #[.slice a l.length c, .int .i64 ((p : Nat) : Int), .int .i64 6] 99)]) (fun φ19 => []) s trivial (fun φ19 => by kernel_rfl) ?_
          intro φ19 w19 s
          refine ops_done (by kernel_rfl) ?_
          refine wp_ret ?_
          refine ret_rule (C := []) [(r, .cells #[.slice a l.length c, .int .i64 ((p : Nat) : Int), .int .i64 6] 99)] [] (.int .u64 0) [] [] s trivial (by kernel_rfl) ?_
          exact ⟨_, _, _, rfl, s, (by have h8 := num_short (j := j3) ho3 (of_decide_eq_true hc5) (bit_nil (of_decide_eq_false hc8)) (of_decide_eq_true hc16); exact ⟨_, rfl, rfl, (by rw [h8.1]; rfl), (by rw [h8.2.1, h8.2.2]; rfl)⟩)⟩
        ·
          rw [hc16]
          refine ops_rule (C := []) [(r, .cells #[.slice a l.length c, .int .i64 ((p + j3 + 1 + geD l (p + j3 + 1) 0 (clampN ((j3 + 2 : Nat) : Int)) : Nat) : Int), .int .i64 ((geE l (p + j3 + 1) 0 (clampN ((j3 + 2 : Nat) : Int)) : Nat) : Int)] 99)] [] 4 [] 0 (fun φ20 => [(36, .bool (decide (((j3 + 2 : Nat) : Int) > ((64 : Nat) : Int)))), (35, .bool (decide (((j3 + 2 : Nat) : Int) > ((64 : Nat) : Int)))), (34, .bool (decide (((j3 + 2 : Nat) : Int) > ((64 : Nat) : Int)))), (33, .int .i64 ((j3 + 2 : Nat) : Int))]) (fun φ20 => [(r, .cells #[.slice a l.length c, .int .i64 ((p + j3 + 1 + geD l (p + j3 + 1) 0 (clampN ((j3 + 2 : Nat) : Int)) : Nat) : Int), .int .i64 ((geE l (p + j3 + 1) 0 (clampN ((j3 + 2 : Nat) : Int)) : Nat) : Int)] 99)]) (fun φ20 => []) s trivial (fun φ20 => by kernel_rfl) ?_
          intro φ20 w20 s
          rw [nat_gtr (a := (j3 + 2)) (b := 64)]
          rcases Bool.eq_false_or_eq_true (decide (64 < (j3 + 2))) with hc21 | hc21
          ·
            rw [hc21]
            refine ops_rule (C := []) [(r, .cells #[.slice a l.length c, .int .i64 ((p + j3 + 1 + geD l (p + j3 + 1) 0 (clampN ((j3 + 2 : Nat) : Int)) : Nat) : Int), .int .i64 ((geE l (p + j3 + 1) 0 (clampN ((j3 + 2 : Nat) : Int)) : Nat) : Int)] 99)] [] 4 [] 0 (fun φ22 => [(40, .bool true), (39, undef), (38, undef), (37, undef)]) (fun φ22 => [(r, .cells #[.slice a l.length c, .int .i64 ((p + j3 + 1 + geD l (p + j3 + 1) 0 (clampN ((j3 + 2 : Nat) : Int)) : Nat) : Int), .int .i64 ((geE l (p + j3 + 1) 0 (clampN ((j3 + 2 : Nat) : Int)) : Nat) : Int)] 99)]) (fun φ22 => []) s trivial (fun φ22 => by kernel_rfl) ?_
            intro φ22 w22 s
            refine ops_done (by kernel_rfl) ?_
            refine cond_true_rule (b := true) (by kernel_rfl) rfl ?_
            refine wp_seq ?_
            refine region_rule ?_
            refine ops_rule (C := []) [(r, .cells #[.slice a l.length c, .int .i64 ((p + j3 + 1 + geD l (p + j3 + 1) 0 (clampN ((j3 + 2 : Nat) : Int)) : Nat) : Int), .int .i64 ((geE l (p + j3 + 1) 0 (clampN ((j3 + 2 : Nat) : Int)) : Nat) : Int)] 99)] [] 9 [.o 0, .o 0] 0 (fun φ23 => [(47, .pointer (some ⟨r, 2, none⟩)), (46, .pointer (some ⟨r, 0, none⟩)), (45, .pointer (some ⟨r, 1, none⟩)), (44, .pointer (some ⟨r, 0, none⟩)), (43, .int .i64 ((p : Nat) : Int)), (42, .pointer (some ⟨r, 0, none⟩)), (41, .pointer (some ⟨r, 0, none⟩))]) (fun φ23 => [(r, .cells #[.slice a l.length c, .int .i64 ((p : Nat) : Int), .int .i64 6] 99)]) (fun φ23 => [r, r]) s trivial (fun φ23 => by kernel_rfl) ?_
            intro φ23 w23 s
            refine ops_done (by kernel_rfl) ?_
            refine wp_seq ?_
            refine region_rule ?_
            refine ops_rule (C := []) [(r, .cells #[.slice a l.length c, .int .i64 ((p : Nat) : Int), .int .i64 6] 99)] [] 1 [] 0 (fun φ24 => [(2, .int .u64 0)]) (fun φ24 => [(r, .cells #[.slice a l.length c, .int .i64 ((p : Nat) : Int), .int .i64 6] 99)]) (fun φ24 => []) s trivial (fun φ24 => by kernel_rfl) ?_
            intro φ24 w24 s
            refine ops_done (by kernel_rfl) ?_
            refine wp_ret ?_
            refine ret_rule (C := []) [(r, .cells #[.slice a l.length c, .int .i64 ((p : Nat) : Int), .int .i64 6] 99)] [] (.int .u64 0) [] [] s trivial (by kernel_rfl) ?_
            exact ⟨_, _, _, rfl, s, (by have h8 := num_far (j := j3) ho3 (of_decide_eq_true hc21); exact ⟨_, rfl, rfl, (by rw [h8.1]; rfl), (by rw [h8.2.1, h8.2.2]; rfl)⟩)⟩
          ·
            rw [hc21]
            refine ops_rule (C := []) [(r, .cells #[.slice a l.length c, .int .i64 ((p + j3 + 1 + geD l (p + j3 + 1) 0 (clampN ((j3 + 2 : Nat) : Int)) : Nat) : Int), .int .i64 ((geE l (p + j3 + 1) 0 (clampN ((j3 + 2 : Nat) : Int)) : Nat) : Int)] 99)] [] 4 [] 0 (fun φ25 => [(40, .bool (decide ((IntKind.wrap .u64 ((IntKind.wrap .u64 (((bshl 64 1 (j3 + 2) : Nat) : Int) - ((4 : Nat) : Int))) + ((geV l (p + j3 + 1) 0 (clampN ((j3 + 2 : Nat) : Int)) : Nat) : Int))) < (IntKind.wrap .u64 (((bshl 64 1 (j3 + 2) : Nat) : Int) - ((4 : Nat) : Int)))))), (39, .bool (decide ((IntKind.wrap .u64 ((IntKind.wrap .u64 (((bshl 64 1 (j3 + 2) : Nat) : Int) - ((4 : Nat) : Int))) + ((geV l (p + j3 + 1) 0 (clampN ((j3 + 2 : Nat) : Int)) : Nat) : Int))) < (IntKind.wrap .u64 (((bshl 64 1 (j3 + 2) : Nat) : Int) - ((4 : Nat) : Int)))))), (38, .int .u64 (IntKind.wrap .u64 (((bshl 64 1 (j3 + 2) : Nat) : Int) - ((4 : Nat) : Int)))), (37, .int .u64 (IntKind.wrap .u64 ((IntKind.wrap .u64 (((bshl 64 1 (j3 + 2) : Nat) : Int) - ((4 : Nat) : Int))) + ((geV l (p + j3 + 1) 0 (clampN ((j3 + 2 : Nat) : Int)) : Nat) : Int))))]) (fun φ25 => [(r, .cells #[.slice a l.length c, .int .i64 ((p + j3 + 1 + geD l (p + j3 + 1) 0 (clampN ((j3 + 2 : Nat) : Int)) : Nat) : Int), .int .i64 ((geE l (p + j3 + 1) 0 (clampN ((j3 + 2 : Nat) : Int)) : Nat) : Int)] 99)]) (fun φ25 => []) s trivial (fun φ25 => by kernel_rfl) ?_
            intro φ25 w25 s
            refine ops_done (by kernel_rfl) ?_
            rcases Bool.eq_false_or_eq_true (decide ((IntKind.wrap .u64 ((IntKind.wrap .u64 (((bshl 64 1 (j3 + 2) : Nat) : Int) - ((4 : Nat) : Int))) + ((geV l (p + j3 + 1) 0 (clampN ((j3 + 2 : Nat) : Int)) : Nat) : Int))) < (IntKind.wrap .u64 (((bshl 64 1 (j3 + 2) : Nat) : Int) - ((4 : Nat) : Int))))) with hc26 | hc26
            ·
              rw [hc26]
              refine cond_true_rule (b := true) (by kernel_rfl) rfl ?_
              refine wp_seq ?_
              refine region_rule ?_
              refine ops_rule (C := []) [(r, .cells #[.slice a l.length c, .int .i64 ((p + j3 + 1 + geD l (p + j3 + 1) 0 (clampN ((j3 + 2 : Nat) : Int)) : Nat) : Int), .int .i64 ((geE l (p + j3 + 1) 0 (clampN ((j3 + 2 : Nat) : Int)) : Nat) : Int)] 99)] [] 9 [.o 0, .o 0] 0 (fun φ27 => [(47, .pointer (some ⟨r, 2, none⟩)), (46, .pointer (some ⟨r, 0, none⟩)), (45, .pointer (some ⟨r, 1, none⟩)), (44, .pointer (some ⟨r, 0, none⟩)), (43, .int .i64 ((p : Nat) : Int)), (42, .pointer (some ⟨r, 0, none⟩)), (41, .pointer (some ⟨r, 0, none⟩))]) (fun φ27 => [(r, .cells #[.slice a l.length c, .int .i64 ((p : Nat) : Int), .int .i64 6] 99)]) (fun φ27 => [r, r]) s trivial (fun φ27 => by kernel_rfl) ?_
              intro φ27 w27 s
              refine ops_done (by kernel_rfl) ?_
              refine wp_seq ?_
              refine region_rule ?_
              refine ops_rule (C := []) [(r, .cells #[.slice a l.length c, .int .i64 ((p : Nat) : Int), .int .i64 6] 99)] [] 1 [] 0 (fun φ28 => [(2, .int .u64 0)]) (fun φ28 => [(r, .cells #[.slice a l.length c, .int .i64 ((p : Nat) : Int), .int .i64 6] 99)]) (fun φ28 => []) s trivial (fun φ28 => by kernel_rfl) ?_
              intro φ28 w28 s
              refine ops_done (by kernel_rfl) ?_
              refine wp_ret ?_
              refine ret_rule (C := []) [(r, .cells #[.slice a l.length c, .int .i64 ((p : Nat) : Int), .int .i64 6] 99)] [] (.int .u64 0) [] [] s trivial (by kernel_rfl) ?_
              exact ⟨_, _, _, rfl, s, (by have h8 := num_over (j := j3) ho3 (of_decide_eq_true hc5) (bit_nil (of_decide_eq_false hc8)) (of_decide_eq_false hc16) (of_decide_eq_false hc21) (of_decide_eq_true hc26); exact ⟨_, rfl, rfl, (by rw [h8.1]; rfl), (by rw [h8.2.1, h8.2.2]; rfl)⟩)⟩
            ·
              rw [hc26]
              refine cond_false_rule (b := false) (by kernel_rfl) rfl ?_
              refine wp_skip ?_
              refine wp_seq ?_
              refine region_rule ?_
              refine ops_rule (C := []) [(r, .cells #[.slice a l.length c, .int .i64 ((p + j3 + 1 + geD l (p + j3 + 1) 0 (clampN ((j3 + 2 : Nat) : Int)) : Nat) : Int), .int .i64 ((geE l (p + j3 + 1) 0 (clampN ((j3 + 2 : Nat) : Int)) : Nat) : Int)] 99)] [] 2 [] 0 (fun φ29 => [(2, .int .u64 (IntKind.wrap .u64 ((IntKind.wrap .u64 (((bshl 64 1 (j3 + 2) : Nat) : Int) - ((4 : Nat) : Int))) + ((geV l (p + j3 + 1) 0 (clampN ((j3 + 2 : Nat) : Int)) : Nat) : Int)))), (48, .int .u64 (IntKind.wrap .u64 ((IntKind.wrap .u64 (((bshl 64 1 (j3 + 2) : Nat) : Int) - ((4 : Nat) : Int))) + ((geV l (p + j3 + 1) 0 (clampN ((j3 + 2 : Nat) : Int)) : Nat) : Int))))]) (fun φ29 => [(r, .cells #[.slice a l.length c, .int .i64 ((p + j3 + 1 + geD l (p + j3 + 1) 0 (clampN ((j3 + 2 : Nat) : Int)) : Nat) : Int), .int .i64 ((geE l (p + j3 + 1) 0 (clampN ((j3 + 2 : Nat) : Int)) : Nat) : Int)] 99)]) (fun φ29 => []) s trivial (fun φ29 => by kernel_rfl) ?_
              intro φ29 w29 s
              refine ops_done (by kernel_rfl) ?_
              refine wp_ret ?_
              refine ret_rule (C := []) [(r, .cells #[.slice a l.length c, .int .i64 ((p + j3 + 1 + geD l (p + j3 + 1) 0 (clampN ((j3 + 2 : Nat) : Int)) : Nat) : Int), .int .i64 ((geE l (p + j3 + 1) 0 (clampN ((j3 + 2 : Nat) : Int)) : Nat) : Int)] 99)] [] (.int .u64 (IntKind.wrap .u64 ((IntKind.wrap .u64 (((bshl 64 1 (j3 + 2) : Nat) : Int) - ((4 : Nat) : Int))) + ((geV l (p + j3 + 1) 0 (clampN ((j3 + 2 : Nat) : Int)) : Nat) : Int)))) [] [] s trivial (by kernel_rfl) ?_
              exact ⟨_, _, _, rfl, s, (by have h8 := num_good (j := j3) ho3 (of_decide_eq_true hc5) (bit_nil (of_decide_eq_false hc8)) (of_decide_eq_false hc16) (of_decide_eq_false hc21) (of_decide_eq_false hc26); exact ⟨_, rfl, rfl, congrArg (Value.int .u64) h8.1, h8.2 _ _⟩)⟩
    ·
      refine callB_rule (b := (r, .cells #[.slice a l.length c, .int .i64 ((p + j3 : Nat) : Int), .int .i64 0] 99)) (H := [(r, .cells #[.slice a l.length c, .int .i64 ((p + j3 : Nat) : Int), .int .i64 0] 99)]) (F := []) (Hr := []) (some 15) 0 s (by kernel_rfl) (by kernel_rfl) (get_bad (r := r) (p := p + j3) hl (hn9) (k := 1) (by decide) (by have hp0 := hp; have ho1 := ho3.len;  omega) (by have hq0 := of_decide_eq_false hc5; omega)) (by kernel_rfl) ?_
      rintro v30 I30 w30 b30 le30 - h30 s
      replace hl := BSl.mono le30 hl
      replace hle2 := leMono le30 hle2
      obtain ⟨rfl, rfl⟩ := h30
      refine ops_rule (C := []) [(r, .cells #[.slice a l.length c, .int .i64 ((p + j3 : Nat) : Int), .int .i64 6] 99)] [] 1 [] 0 (fun φ31 => [(16, .bool false)]) (fun φ31 => [(r, .cells #[.slice a l.length c, .int .i64 ((p + j3 : Nat) : Int), .int .i64 6] 99)]) (fun φ31 => []) s trivial (fun φ31 => by kernel_rfl) ?_
      intro φ31 w31 s
      refine ops_done (by kernel_rfl) ?_
      refine cond_false_rule (b := false) (by kernel_rfl) rfl ?_
      refine wp_skip ?_
      refine wp_seq ?_
      refine region_rule ?_
      refine ops_rule (C := []) [(r, .cells #[.slice a l.length c, .int .i64 ((p + j3 : Nat) : Int), .int .i64 6] 99)] [] 1 [] 0 (fun φ32 => [(19, .int .i64 ((j3 + 2 : Nat) : Int))]) (fun φ32 => [(r, .cells #[.slice a l.length c, .int .i64 ((p + j3 : Nat) : Int), .int .i64 6] 99)]) (fun φ32 => []) s trivial (fun φ32 => by kernel_rfl) ?_
      intro φ32 w32 s
      refine sem_rule (binOp .shl 27 (.int .u64 ((1 : Nat) : Int)) (.int .i64 ((j3 + 2 : Nat) : Int))) (some 20) (.int .u64 ((bshl 64 1 (j3 + 2) : Nat) : Int)) (by kernel_rfl) (run_shlU (.inr (.inr (.inl rfl)))) ?_
      refine ops_rule (C := []) [(r, .cells #[.slice a l.length c, .int .i64 ((p + j3 : Nat) : Int), .int .i64 6] 99)] [] 2 [] 0 (fun φ33 => [(5, .int .u64 (IntKind.wrap .u64 (((bshl 64 1 (j3 + 2) : Nat) : Int) - ((4 : Nat) : Int)))), (21, .int .u64 (IntKind.wrap .u64 (((bshl 64 1 (j3 + 2) : Nat) : Int) - ((4 : Nat) : Int))))]) (fun φ33 => [(r, .cells #[.slice a l.length c, .int .i64 ((p + j3 : Nat) : Int), .int .i64 6] 99)]) (fun φ33 => []) s trivial (fun φ33 => by kernel_rfl) ?_
      intro φ33 w33 s
      refine ops_done (by kernel_rfl) ?_
      refine wp_seq ?_
      refine region_rule ?_
      refine ops_rule (C := []) [(r, .cells #[.slice a l.length c, .int .i64 ((p + j3 : Nat) : Int), .int .i64 6] 99)] [] 3 [] 0 (fun φ34 => [(24, .int .i64 ((j3 + 2 : Nat) : Int)), (23, .pointer (some ⟨r, 0, none⟩)), (22, .int .u64 (IntKind.wrap .u64 (((bshl 64 1 (j3 + 2) : Nat) : Int) - ((4 : Nat) : Int))))]) (fun φ34 => [(r, .cells #[.slice a l.length c, .int .i64 ((p + j3 : Nat) : Int), .int .i64 6] 99)]) (fun φ34 => []) s trivial (fun φ34 => by kernel_rfl) ?_
      intro φ34 w34 s
      refine callB_rule (b := (r, .cells #[.slice a l.length c, .int .i64 ((p + j3 : Nat) : Int), .int .i64 6] 99)) (H := [(r, .cells #[.slice a l.length c, .int .i64 ((p + j3 : Nat) : Int), .int .i64 6] 99)]) (F := []) (Hr := []) (some 25) 0 s (by kernel_rfl) (by kernel_rfl) (getG_c (e := 6) (z := ((j3 + 2 : Nat) : Int)) (r := r) (p := p + j3) hl (hn9) (by have hp0 := hp; have ho1 := ho3.len;  have hq0 := of_decide_eq_false hc5; omega)) (by kernel_rfl) ?_
      rintro v35 I35 w35 b35 le35 - h35 s
      replace hl := BSl.mono le35 hl
      replace hle2 := leMono le35 hle2
      obtain ⟨rfl, rfl⟩ := h35
      refine ops_rule (C := []) [(r, .cells #[.slice a l.length c, .int .i64 ((p + j3 + geD l (p + j3) 6 (clampN ((j3 + 2 : Nat) : Int)) : Nat) : Int), .int .i64 ((geE l (p + j3) 6 (clampN ((j3 + 2 : Nat) : Int)) : Nat) : Int)] 99)] [] 2 [] 0 (fun φ36 => [(6, .int .u64 (IntKind.wrap .u64 ((IntKind.wrap .u64 (((bshl 64 1 (j3 + 2) : Nat) : Int) - ((4 : Nat) : Int))) + ((geV l (p + j3) 6 (clampN ((j3 + 2 : Nat) : Int)) : Nat) : Int)))), (26, .int .u64 (IntKind.wrap .u64 ((IntKind.wrap .u64 (((bshl 64 1 (j3 + 2) : Nat) : Int) - ((4 : Nat) : Int))) + ((geV l (p + j3) 6 (clampN ((j3 + 2 : Nat) : Int)) : Nat) : Int))))]) (fun φ36 => [(r, .cells #[.slice a l.length c, .int .i64 ((p + j3 + geD l (p + j3) 6 (clampN ((j3 + 2 : Nat) : Int)) : Nat) : Int), .int .i64 ((geE l (p + j3) 6 (clampN ((j3 + 2 : Nat) : Int)) : Nat) : Int)] 99)]) (fun φ36 => []) s trivial (fun φ36 => by kernel_rfl) ?_
      intro φ36 w36 s
      refine ops_done (by kernel_rfl) ?_
      refine wp_seq ?_
      refine wp_seq ?_
      refine region_rule ?_
      refine ops_rule (C := []) [(r, .cells #[.slice a l.length c, .int .i64 ((p + j3 + geD l (p + j3) 6 (clampN ((j3 + 2 : Nat) : Int)) : Nat) : Int), .int .i64 ((geE l (p + j3) 6 (clampN ((j3 + 2 : Nat) : Int)) : Nat) : Int)] 99)] [] 6 [.o 0] 0 (fun φ37 => [(32, .bool (((geE l (p + j3) 6 (clampN ((j3 + 2 : Nat) : Int)) : Nat) : Int) != ((0 : Nat) : Int))), (31, .bool (((geE l (p + j3) 6 (clampN ((j3 + 2 : Nat) : Int)) : Nat) : Int) != ((0 : Nat) : Int))), (30, .int .i64 ((geE l (p + j3) 6 (clampN ((j3 + 2 : Nat) : Int)) : Nat) : Int)), (29, .pointer (some ⟨r, 2, none⟩)), (28, .pointer (some ⟨r, 0, none⟩)), (27, .pointer (some ⟨r, 0, none⟩))]) (fun φ37 => [(r, .cells #[.slice a l.length c, .int .i64 ((p + j3 + geD l (p + j3) 6 (clampN ((j3 + 2 : Nat) : Int)) : Nat) : Int), .int .i64 ((geE l (p + j3) 6 (clampN ((j3 + 2 : Nat) : Int)) : Nat) : Int)] 99)]) (fun φ37 => [r]) s trivial (fun φ37 => by kernel_rfl) ?_
      intro φ37 w37 s
      rw [nat_neq (a := (geE l (p + j3) 6 (clampN ((j3 + 2 : Nat) : Int)))) (b := 0)]
      rcases Bool.eq_false_or_eq_true (decide ((geE l (p + j3) 6 (clampN ((j3 + 2 : Nat) : Int))) ≠ 0)) with hc38 | hc38
      ·
        rw [hc38]
        refine ops_rule (C := []) [(r, .cells #[.slice a l.length c, .int .i64 ((p + j3 + geD l (p + j3) 6 (clampN ((j3 + 2 : Nat) : Int)) : Nat) : Int), .int .i64 ((geE l (p + j3) 6 (clampN ((j3 + 2 : Nat) : Int)) : Nat) : Int)] 99)] [] 8 [] 0 (fun φ39 => [(40, .bool true), (39, undef), (38, undef), (37, undef), (36, .bool true), (35, .bool true), (34, undef), (33, undef)]) (fun φ39 => [(r, .cells #[.slice a l.length c, .int .i64 ((p + j3 + geD l (p + j3) 6 (clampN ((j3 + 2 : Nat) : Int)) : Nat) : Int), .int .i64 ((geE l (p + j3) 6 (clampN ((j3 + 2 : Nat) : Int)) : Nat) : Int)] 99)]) (fun φ39 => []) s trivial (fun φ39 => by kernel_rfl) ?_
        intro φ39 w39 s
        refine ops_done (by kernel_rfl) ?_
        refine cond_true_rule (b := true) (by kernel_rfl) rfl ?_
        refine wp_seq ?_
        refine region_rule ?_
        refine ops_rule (C := []) [(r, .cells #[.slice a l.length c, .int .i64 ((p + j3 + geD l (p + j3) 6 (clampN ((j3 + 2 : Nat) : Int)) : Nat) : Int), .int .i64 ((geE l (p + j3) 6 (clampN ((j3 + 2 : Nat) : Int)) : Nat) : Int)] 99)] [] 9 [.o 0, .o 0] 0 (fun φ40 => [(47, .pointer (some ⟨r, 2, none⟩)), (46, .pointer (some ⟨r, 0, none⟩)), (45, .pointer (some ⟨r, 1, none⟩)), (44, .pointer (some ⟨r, 0, none⟩)), (43, .int .i64 ((p : Nat) : Int)), (42, .pointer (some ⟨r, 0, none⟩)), (41, .pointer (some ⟨r, 0, none⟩))]) (fun φ40 => [(r, .cells #[.slice a l.length c, .int .i64 ((p : Nat) : Int), .int .i64 6] 99)]) (fun φ40 => [r, r]) s trivial (fun φ40 => by kernel_rfl) ?_
        intro φ40 w40 s
        refine ops_done (by kernel_rfl) ?_
        refine wp_seq ?_
        refine region_rule ?_
        refine ops_rule (C := []) [(r, .cells #[.slice a l.length c, .int .i64 ((p : Nat) : Int), .int .i64 6] 99)] [] 1 [] 0 (fun φ41 => [(2, .int .u64 0)]) (fun φ41 => [(r, .cells #[.slice a l.length c, .int .i64 ((p : Nat) : Int), .int .i64 6] 99)]) (fun φ41 => []) s trivial (fun φ41 => by kernel_rfl) ?_
        intro φ41 w41 s
        refine ops_done (by kernel_rfl) ?_
        refine wp_ret ?_
        refine ret_rule (C := []) [(r, .cells #[.slice a l.length c, .int .i64 ((p : Nat) : Int), .int .i64 6] 99)] [] (.int .u64 0) [] [] s trivial (by kernel_rfl) ?_
        exact ⟨_, _, _, rfl, s, (by have h8 := num_out (j := j3) ho3 (of_decide_eq_false hc5); exact ⟨_, rfl, rfl, (by rw [h8.1]; rfl), (by rw [h8.2.1, h8.2.2]; rfl)⟩)⟩
      ·
        exact absurd (of_decide_eq_false hc38) (fun q => q (by rw [ge6]; decide))
  ·
    refine wp_seq ?_
    refine wp_seq ?_
    refine region_rule ?_
    refine ops_rule (C := []) [(r, .cells #[.slice a l.length c, .int .i64 ((p : Nat) : Int), .int .i64 0] 99)] [] 1 [] 0 (fun φ42 => [(7, .pointer (some ⟨r, 0, none⟩))]) (fun φ42 => [(r, .cells #[.slice a l.length c, .int .i64 ((p : Nat) : Int), .int .i64 0] 99)]) (fun φ42 => []) s trivial (fun φ42 => by kernel_rfl) ?_
    intro φ42 w42 s
    refine callB_rule (b := (r, .cells #[.slice a l.length c, .int .i64 ((p : Nat) : Int), .int .i64 0] 99)) (H := [(r, .cells #[.slice a l.length c, .int .i64 ((p : Nat) : Int), .int .i64 0] 99)]) (F := []) (Hr := []) (some 8) 0 s (by kernel_rfl) (by kernel_rfl) (err_c (r := r) (v0 := .slice a l.length c) (v1 := .int .i64 ((p : Nat) : Int)) (e := 0)) (by kernel_rfl) ?_
    rintro v43 I43 w43 b43 le43 - h43 s
    replace hl := BSl.mono le43 hl
    replace hle2 := leMono le43 hle2
    obtain ⟨rfl, rfl⟩ := h43
    refine ops_rule (C := []) [(r, .cells #[.slice a l.length c, .int .i64 ((p : Nat) : Int), .int .i64 0] 99)] [] 1 [] 0 (fun φ44 => [(9, .bool false)]) (fun φ44 => [(r, .cells #[.slice a l.length c, .int .i64 ((p : Nat) : Int), .int .i64 0] 99)]) (fun φ44 => []) s trivial (fun φ44 => by kernel_rfl) ?_
    intro φ44 w44 s
    refine ops_done (by kernel_rfl) ?_
    refine cond_false_rule (b := false) (by kernel_rfl) rfl ?_
    refine wp_skip ?_
    refine wp_seq ?_
    refine region_rule ?_
    refine ops_rule (C := []) [(r, .cells #[.slice a l.length c, .int .i64 ((p : Nat) : Int), .int .i64 0] 99)] [] 6 [.o 0] 0 (fun φ45 => [(4, .int .i64 2), (3, .int .i64 ((p : Nat) : Int)), (13, .int .i64 ((p : Nat) : Int)), (12, .pointer (some ⟨r, 1, none⟩)), (11, .pointer (some ⟨r, 0, none⟩)), (10, .pointer (some ⟨r, 0, none⟩))]) (fun φ45 => [(r, .cells #[.slice a l.length c, .int .i64 ((p : Nat) : Int), .int .i64 0] 99)]) (fun φ45 => [r]) s trivial (fun φ45 => by kernel_rfl) ?_
    intro φ45 w45 s
    refine ops_done (by kernel_rfl) ?_
    refine wp_seq ?_
    refine wp_label ?_
    refine wp_seq ?_
    refine wp_seq ?_
    refine region_rule ?_
    refine ops_rule (C := []) [(r, .cells #[.slice a l.length c, .int .i64 ((p : Nat) : Int), .int .i64 0] 99)] [] 1 [] 0 (fun φ46 => [(14, .pointer (some ⟨r, 0, none⟩))]) (fun φ46 => [(r, .cells #[.slice a l.length c, .int .i64 ((p : Nat) : Int), .int .i64 0] 99)]) (fun φ46 => []) s trivial (fun φ46 => by kernel_rfl) ?_
    intro φ46 w46 s
    rcases Bool.eq_false_or_eq_true (decide (p + 1 ≤ l.length * 8)) with hc47 | hc47
    ·
      refine callB_rule (b := (r, .cells #[.slice a l.length c, .int .i64 ((p : Nat) : Int), .int .i64 0] 99)) (H := [(r, .cells #[.slice a l.length c, .int .i64 ((p : Nat) : Int), .int .i64 0] 99)]) (F := []) (Hr := []) (some 15) 0 s (by kernel_rfl) (by kernel_rfl) (get_c (r := r) (p := p) hl (hn9) (k := 1) (by decide) (of_decide_eq_true hc47)) (by kernel_rfl) ?_
      rintro v48 I48 w48 b48 le48 - h48 s
      replace hl := BSl.mono le48 hl
      replace hle2 := leMono le48 hle2
      obtain ⟨rfl, rfl⟩ := h48
      refine ops_rule (C := []) [(r, .cells #[.slice a l.length c, .int .i64 ((p + 1 : Nat) : Int), .int .i64 0] 99)] [] 1 [] 0 (fun φ49 => [(16, .bool (((rd l p 1 : Nat) : Int) == ((1 : Nat) : Int)))]) (fun φ49 => [(r, .cells #[.slice a l.length c, .int .i64 ((p + 1 : Nat) : Int), .int .i64 0] 99)]) (fun φ49 => []) s trivial (fun φ49 => by kernel_rfl) ?_
      intro φ49 w49 s
      rw [nat_eql (a := (rd l p 1)) (b := 1)]
      refine ops_done (by kernel_rfl) ?_
      rcases Bool.eq_false_or_eq_true (decide ((rd l p 1) = 1)) with hc50 | hc50
      ·
        rw [hc50]
        refine cond_true_rule (b := true) (by kernel_rfl) rfl ?_
        refine wp_seq ?_
        refine region_rule ?_
        refine ops_rule (C := []) [(r, .cells #[.slice a l.length c, .int .i64 ((p + 1 : Nat) : Int), .int .i64 0] 99)] [] 3 [] 0 (fun φ51 => [(4, .int .i64 3), (18, .int .i64 3), (17, .int .i64 2)]) (fun φ51 => [(r, .cells #[.slice a l.length c, .int .i64 ((p + 1 : Nat) : Int), .int .i64 0] 99)]) (fun φ51 => []) s trivial (fun φ51 => by kernel_rfl) ?_
        intro φ51 w51 s
        refine ops_done (by kernel_rfl) ?_
        refine wp_goto ?_
        exact ⟨rfl, l.length * 8, ⟨⟨l.length * 8 - p - 1, 1, _, _, _, (by have := of_decide_eq_true hc47; omega), rfl, s, (List.Sublist.cons₂ _ List.Sublist.slnil), by kernel_rfl, hle2, (by have := of_decide_eq_true hc47; show p + 1 + (l.length * 8 - p - 1) = _; omega), OnesL.step (OnesL.start hp) (of_decide_eq_true hc47) (bit_one (of_decide_eq_true hc50))⟩⟩⟩
      ·
        rw [hc50]
        refine cond_false_rule (b := false) (by kernel_rfl) rfl ?_
        refine wp_skip ?_
        refine wp_seq ?_
        refine region_rule ?_
        refine ops_rule (C := []) [(r, .cells #[.slice a l.length c, .int .i64 ((p + 1 : Nat) : Int), .int .i64 0] 99)] [] 1 [] 0 (fun φ52 => [(19, .int .i64 2)]) (fun φ52 => [(r, .cells #[.slice a l.length c, .int .i64 ((p + 1 : Nat) : Int), .int .i64 0] 99)]) (fun φ52 => []) s trivial (fun φ52 => by kernel_rfl) ?_
        intro φ52 w52 s
        refine sem_rule (binOp .shl 27 (.int .u64 1) (.int .i64 2)) (some 20) (.int .u64 4) (by kernel_rfl) ((by kernel_rfl : (binOp .shl 27 (.int .u64 1) (.int .i64 2)).run Try.prog w52 = .ok (.int .u64 4) w52)) ?_
        refine ops_rule (C := []) [(r, .cells #[.slice a l.length c, .int .i64 ((p + 1 : Nat) : Int), .int .i64 0] 99)] [] 2 [] 0 (fun φ53 => [(5, .int .u64 0), (21, .int .u64 0)]) (fun φ53 => [(r, .cells #[.slice a l.length c, .int .i64 ((p + 1 : Nat) : Int), .int .i64 0] 99)]) (fun φ53 => []) s trivial (fun φ53 => by kernel_rfl) ?_
        intro φ53 w53 s
        refine ops_done (by kernel_rfl) ?_
        refine wp_seq ?_
        refine region_rule ?_
        refine ops_rule (C := []) [(r, .cells #[.slice a l.length c, .int .i64 ((p + 1 : Nat) : Int), .int .i64 0] 99)] [] 3 [] 0 (fun φ54 => [(24, .int .i64 2), (23, .pointer (some ⟨r, 0, none⟩)), (22, .int .u64 0)]) (fun φ54 => [(r, .cells #[.slice a l.length c, .int .i64 ((p + 1 : Nat) : Int), .int .i64 0] 99)]) (fun φ54 => []) s trivial (fun φ54 => by kernel_rfl) ?_
        intro φ54 w54 s
        refine callB_rule (b := (r, .cells #[.slice a l.length c, .int .i64 ((p + 1 : Nat) : Int), .int .i64 0] 99)) (H := [(r, .cells #[.slice a l.length c, .int .i64 ((p + 1 : Nat) : Int), .int .i64 0] 99)]) (F := []) (Hr := []) (some 25) 0 s (by kernel_rfl) (by kernel_rfl) (getG_c (e := 0) (z := ((2 : Nat) : Int)) (r := r) (p := p + 1) hl (hn9) (by have hp0 := hp;  have hq0 := of_decide_eq_true hc47; have hq1 := of_decide_eq_false hc50; omega)) (by kernel_rfl) ?_
        rintro v55 I55 w55 b55 le55 - h55 s
        replace hl := BSl.mono le55 hl
        replace hle2 := leMono le55 hle2
        obtain ⟨rfl, rfl⟩ := h55
        refine ops_rule (C := []) [(r, .cells #[.slice a l.length c, .int .i64 ((p + 1 + geD l (p + 1) 0 (clampN ((2 : Nat) : Int)) : Nat) : Int), .int .i64 ((geE l (p + 1) 0 (clampN ((2 : Nat) : Int)) : Nat) : Int)] 99)] [] 2 [] 0 (fun φ56 => [(6, .int .u64 (IntKind.wrap .u64 (((0 : Nat) : Int) + ((geV l (p + 1) 0 (clampN ((2 : Nat) : Int)) : Nat) : Int)))), (26, .int .u64 (IntKind.wrap .u64 (((0 : Nat) : Int) + ((geV l (p + 1) 0 (clampN ((2 : Nat) : Int)) : Nat) : Int))))]) (fun φ56 => [(r, .cells #[.slice a l.length c, .int .i64 ((p + 1 + geD l (p + 1) 0 (clampN ((2 : Nat) : Int)) : Nat) : Int), .int .i64 ((geE l (p + 1) 0 (clampN ((2 : Nat) : Int)) : Nat) : Int)] 99)]) (fun φ56 => []) s trivial (fun φ56 => by kernel_rfl) ?_
        intro φ56 w56 s
        refine ops_done (by kernel_rfl) ?_
        refine wp_seq ?_
        refine wp_seq ?_
        refine region_rule ?_
        refine ops_rule (C := []) [(r, .cells #[.slice a l.length c, .int .i64 ((p + 1 + geD l (p + 1) 0 (clampN ((2 : Nat) : Int)) : Nat) : Int), .int .i64 ((geE l (p + 1) 0 (clampN ((2 : Nat) : Int)) : Nat) : Int)] 99)] [] 6 [.o 0] 0 (fun φ57 => [(32, .bool (((geE l (p + 1) 0 (clampN ((2 : Nat) : Int)) : Nat) : Int) != ((0 : Nat) : Int))), (31, .bool (((geE l (p + 1) 0 (clampN ((2 : Nat) : Int)) : Nat) : Int) != ((0 : Nat) : Int))), (30, .int .i64 ((geE l (p + 1) 0 (clampN ((2 : Nat) : Int)) : Nat) : Int)), (29, .pointer (some ⟨r, 2, none⟩)), (28, .pointer (some ⟨r, 0, none⟩)), (27, .pointer (some ⟨r, 0, none⟩))]) (fun φ57 => [(r, .cells #[.slice a l.length c, .int .i64 ((p + 1 + geD l (p + 1) 0 (clampN ((2 : Nat) : Int)) : Nat) : Int), .int .i64 ((geE l (p + 1) 0 (clampN ((2 : Nat) : Int)) : Nat) : Int)] 99)]) (fun φ57 => [r]) s trivial (fun φ57 => by kernel_rfl) ?_
        intro φ57 w57 s
        rw [nat_neq (a := (geE l (p + 1) 0 (clampN ((2 : Nat) : Int)))) (b := 0)]
        rcases Bool.eq_false_or_eq_true (decide ((geE l (p + 1) 0 (clampN ((2 : Nat) : Int))) ≠ 0)) with hc58 | hc58
        ·
          rw [hc58]
          refine ops_rule (C := []) [(r, .cells #[.slice a l.length c, .int .i64 ((p + 1 + geD l (p + 1) 0 (clampN ((2 : Nat) : Int)) : Nat) : Int), .int .i64 ((geE l (p + 1) 0 (clampN ((2 : Nat) : Int)) : Nat) : Int)] 99)] [] 8 [] 0 (fun φ59 => [(40, .bool true), (39, undef), (38, undef), (37, undef), (36, .bool true), (35, .bool true), (34, undef), (33, undef)]) (fun φ59 => [(r, .cells #[.slice a l.length c, .int .i64 ((p + 1 + geD l (p + 1) 0 (clampN ((2 : Nat) : Int)) : Nat) : Int), .int .i64 ((geE l (p + 1) 0 (clampN ((2 : Nat) : Int)) : Nat) : Int)] 99)]) (fun φ59 => []) s trivial (fun φ59 => by kernel_rfl) ?_
          intro φ59 w59 s
          refine ops_done (by kernel_rfl) ?_
          refine cond_true_rule (b := true) (by kernel_rfl) rfl ?_
          refine wp_seq ?_
          refine region_rule ?_
          refine ops_rule (C := []) [(r, .cells #[.slice a l.length c, .int .i64 ((p + 1 + geD l (p + 1) 0 (clampN ((2 : Nat) : Int)) : Nat) : Int), .int .i64 ((geE l (p + 1) 0 (clampN ((2 : Nat) : Int)) : Nat) : Int)] 99)] [] 9 [.o 0, .o 0] 0 (fun φ60 => [(47, .pointer (some ⟨r, 2, none⟩)), (46, .pointer (some ⟨r, 0, none⟩)), (45, .pointer (some ⟨r, 1, none⟩)), (44, .pointer (some ⟨r, 0, none⟩)), (43, .int .i64 ((p : Nat) : Int)), (42, .pointer (some ⟨r, 0, none⟩)), (41, .pointer (some ⟨r, 0, none⟩))]) (fun φ60 => [(r, .cells #[.slice a l.length c, .int .i64 ((p : Nat) : Int), .int .i64 6] 99)]) (fun φ60 => [r, r]) s trivial (fun φ60 => by kernel_rfl) ?_
          intro φ60 w60 s
          refine ops_done (by kernel_rfl) ?_
          refine wp_seq ?_
          refine region_rule ?_
          refine ops_rule (C := []) [(r, .cells #[.slice a l.length c, .int .i64 ((p : Nat) : Int), .int .i64 6] 99)] [] 1 [] 0 (fun φ61 => [(2, .int .u64 0)]) (fun φ61 => [(r, .cells #[.slice a l.length c, .int .i64 ((p : Nat) : Int), .int .i64 6] 99)]) (fun φ61 => []) s trivial (fun φ61 => by kernel_rfl) ?_
          intro φ61 w61 s
          refine ops_done (by kernel_rfl) ?_
          refine wp_ret ?_
          refine ret_rule (C := []) [(r, .cells #[.slice a l.length c, .int .i64 ((p : Nat) : Int), .int .i64 6] 99)] [] (.int .u64 0) [] [] s trivial (by kernel_rfl) ?_
          exact ⟨_, _, _, rfl, s, (by have h8 := num_short (j := 0) (OnesL.start hp) (of_decide_eq_true hc47) (bit_nil (of_decide_eq_false hc50)) (of_decide_eq_true hc58); exact ⟨_, rfl, rfl, (by rw [h8.1]; rfl), (by rw [h8.2.1, h8.2.2]; rfl)⟩)⟩
        ·
          rw [hc58]
          refine ops_rule (C := []) [(r, .cells #[.slice a l.length c, .int .i64 ((p + 1 + geD l (p + 1) 0 (clampN ((2 : Nat) : Int)) : Nat) : Int), .int .i64 ((geE l (p + 1) 0 (clampN ((2 : Nat) : Int)) : Nat) : Int)] 99)] [] 8 [] 0 (fun φ62 => [(40, .bool (decide ((IntKind.wrap .u64 (((0 : Nat) : Int) + ((geV l (p + 1) 0 (clampN ((2 : Nat) : Int)) : Nat) : Int))) < ((0 : Nat) : Int)))), (39, .bool (decide ((IntKind.wrap .u64 (((0 : Nat) : Int) + ((geV l (p + 1) 0 (clampN ((2 : Nat) : Int)) : Nat) : Int))) < ((0 : Nat) : Int)))), (38, .int .u64 0), (37, .int .u64 (IntKind.wrap .u64 (((0 : Nat) : Int) + ((geV l (p + 1) 0 (clampN ((2 : Nat) : Int)) : Nat) : Int)))), (36, .bool false), (35, .bool false), (34, .bool false), (33, .int .i64 2)]) (fun φ62 => [(r, .cells #[.slice a l.length c, .int .i64 ((p + 1 + geD l (p + 1) 0 (clampN ((2 : Nat) : Int)) : Nat) : Int), .int .i64 ((geE l (p + 1) 0 (clampN ((2 : Nat) : Int)) : Nat) : Int)] 99)]) (fun φ62 => []) s trivial (fun φ62 => by kernel_rfl) ?_
          intro φ62 w62 s
          refine ops_done (by kernel_rfl) ?_
          rcases Bool.eq_false_or_eq_true (decide ((IntKind.wrap .u64 (((0 : Nat) : Int) + ((geV l (p + 1) 0 (clampN ((2 : Nat) : Int)) : Nat) : Int))) < ((0 : Nat) : Int))) with hc63 | hc63
          ·
            rw [hc63]
            refine cond_true_rule (b := true) (by kernel_rfl) rfl ?_
            refine wp_seq ?_
            refine region_rule ?_
            refine ops_rule (C := []) [(r, .cells #[.slice a l.length c, .int .i64 ((p + 1 + geD l (p + 1) 0 (clampN ((2 : Nat) : Int)) : Nat) : Int), .int .i64 ((geE l (p + 1) 0 (clampN ((2 : Nat) : Int)) : Nat) : Int)] 99)] [] 9 [.o 0, .o 0] 0 (fun φ64 => [(47, .pointer (some ⟨r, 2, none⟩)), (46, .pointer (some ⟨r, 0, none⟩)), (45, .pointer (some ⟨r, 1, none⟩)), (44, .pointer (some ⟨r, 0, none⟩)), (43, .int .i64 ((p : Nat) : Int)), (42, .pointer (some ⟨r, 0, none⟩)), (41, .pointer (some ⟨r, 0, none⟩))]) (fun φ64 => [(r, .cells #[.slice a l.length c, .int .i64 ((p : Nat) : Int), .int .i64 6] 99)]) (fun φ64 => [r, r]) s trivial (fun φ64 => by kernel_rfl) ?_
            intro φ64 w64 s
            refine ops_done (by kernel_rfl) ?_
            refine wp_seq ?_
            refine region_rule ?_
            refine ops_rule (C := []) [(r, .cells #[.slice a l.length c, .int .i64 ((p : Nat) : Int), .int .i64 6] 99)] [] 1 [] 0 (fun φ65 => [(2, .int .u64 0)]) (fun φ65 => [(r, .cells #[.slice a l.length c, .int .i64 ((p : Nat) : Int), .int .i64 6] 99)]) (fun φ65 => []) s trivial (fun φ65 => by kernel_rfl) ?_
            intro φ65 w65 s
            refine ops_done (by kernel_rfl) ?_
            refine wp_ret ?_
            refine ret_rule (C := []) [(r, .cells #[.slice a l.length c, .int .i64 ((p : Nat) : Int), .int .i64 6] 99)] [] (.int .u64 0) [] [] s trivial (by kernel_rfl) ?_
            exact ⟨_, _, _, rfl, s, (by have h8 := num_over (j := 0) (OnesL.start hp) (of_decide_eq_true hc47) (bit_nil (of_decide_eq_false hc50)) (of_decide_eq_false hc58) (by decide) (of_decide_eq_true hc63); exact ⟨_, rfl, rfl, (by rw [h8.1]; rfl), (by rw [h8.2.1, h8.2.2]; rfl)⟩)⟩
          ·
            rw [hc63]
            refine cond_false_rule (b := false) (by kernel_rfl) rfl ?_
            refine wp_skip ?_
            refine wp_seq ?_
            refine region_rule ?_
            refine ops_rule (C := []) [(r, .cells #[.slice a l.length c, .int .i64 ((p + 1 + geD l (p + 1) 0 (clampN ((2 : Nat) : Int)) : Nat) : Int), .int .i64 ((geE l (p + 1) 0 (clampN ((2 : Nat) : Int)) : Nat) : Int)] 99)] [] 2 [] 0 (fun φ66 => [(2, .int .u64 (IntKind.wrap .u64 (((0 : Nat) : Int) + ((geV l (p + 1) 0 (clampN ((2 : Nat) : Int)) : Nat) : Int)))), (48, .int .u64 (IntKind.wrap .u64 (((0 : Nat) : Int) + ((geV l (p + 1) 0 (clampN ((2 : Nat) : Int)) : Nat) : Int))))]) (fun φ66 => [(r, .cells #[.slice a l.length c, .int .i64 ((p + 1 + geD l (p + 1) 0 (clampN ((2 : Nat) : Int)) : Nat) : Int), .int .i64 ((geE l (p + 1) 0 (clampN ((2 : Nat) : Int)) : Nat) : Int)] 99)]) (fun φ66 => []) s trivial (fun φ66 => by kernel_rfl) ?_
            intro φ66 w66 s
            refine ops_done (by kernel_rfl) ?_
            refine wp_ret ?_
            refine ret_rule (C := []) [(r, .cells #[.slice a l.length c, .int .i64 ((p + 1 + geD l (p + 1) 0 (clampN ((2 : Nat) : Int)) : Nat) : Int), .int .i64 ((geE l (p + 1) 0 (clampN ((2 : Nat) : Int)) : Nat) : Int)] 99)] [] (.int .u64 (IntKind.wrap .u64 (((0 : Nat) : Int) + ((geV l (p + 1) 0 (clampN ((2 : Nat) : Int)) : Nat) : Int)))) [] [] s trivial (by kernel_rfl) ?_
            exact ⟨_, _, _, rfl, s, (by have h8 := num_good (j := 0) (OnesL.start hp) (of_decide_eq_true hc47) (bit_nil (of_decide_eq_false hc50)) (of_decide_eq_false hc58) (by decide) (of_decide_eq_false hc63); exact ⟨_, rfl, rfl, congrArg (Value.int .u64) h8.1, h8.2 _ _⟩)⟩
    ·
      refine callB_rule (b := (r, .cells #[.slice a l.length c, .int .i64 ((p : Nat) : Int), .int .i64 0] 99)) (H := [(r, .cells #[.slice a l.length c, .int .i64 ((p : Nat) : Int), .int .i64 0] 99)]) (F := []) (Hr := []) (some 15) 0 s (by kernel_rfl) (by kernel_rfl) (get_bad (r := r) (p := p) hl (hn9) (k := 1) (by decide) (by have hp0 := hp;  omega) (by have hq0 := of_decide_eq_false hc47; omega)) (by kernel_rfl) ?_
      rintro v67 I67 w67 b67 le67 - h67 s
      replace hl := BSl.mono le67 hl
      replace hle2 := leMono le67 hle2
      obtain ⟨rfl, rfl⟩ := h67
      refine ops_rule (C := []) [(r, .cells #[.slice a l.length c, .int .i64 ((p : Nat) : Int), .int .i64 6] 99)] [] 1 [] 0 (fun φ68 => [(16, .bool false)]) (fun φ68 => [(r, .cells #[.slice a l.length c, .int .i64 ((p : Nat) : Int), .int .i64 6] 99)]) (fun φ68 => []) s trivial (fun φ68 => by kernel_rfl) ?_
      intro φ68 w68 s
      refine ops_done (by kernel_rfl) ?_
      refine cond_false_rule (b := false) (by kernel_rfl) rfl ?_
      refine wp_skip ?_
      refine wp_seq ?_
      refine region_rule ?_
      refine ops_rule (C := []) [(r, .cells #[.slice a l.length c, .int .i64 ((p : Nat) : Int), .int .i64 6] 99)] [] 1 [] 0 (fun φ69 => [(19, .int .i64 2)]) (fun φ69 => [(r, .cells #[.slice a l.length c, .int .i64 ((p : Nat) : Int), .int .i64 6] 99)]) (fun φ69 => []) s trivial (fun φ69 => by kernel_rfl) ?_
      intro φ69 w69 s
      refine sem_rule (binOp .shl 27 (.int .u64 1) (.int .i64 2)) (some 20) (.int .u64 4) (by kernel_rfl) ((by kernel_rfl : (binOp .shl 27 (.int .u64 1) (.int .i64 2)).run Try.prog w69 = .ok (.int .u64 4) w69)) ?_
      refine ops_rule (C := []) [(r, .cells #[.slice a l.length c, .int .i64 ((p : Nat) : Int), .int .i64 6] 99)] [] 2 [] 0 (fun φ70 => [(5, .int .u64 0), (21, .int .u64 0)]) (fun φ70 => [(r, .cells #[.slice a l.length c, .int .i64 ((p : Nat) : Int), .int .i64 6] 99)]) (fun φ70 => []) s trivial (fun φ70 => by kernel_rfl) ?_
      intro φ70 w70 s
      refine ops_done (by kernel_rfl) ?_
      refine wp_seq ?_
      refine region_rule ?_
      refine ops_rule (C := []) [(r, .cells #[.slice a l.length c, .int .i64 ((p : Nat) : Int), .int .i64 6] 99)] [] 3 [] 0 (fun φ71 => [(24, .int .i64 2), (23, .pointer (some ⟨r, 0, none⟩)), (22, .int .u64 0)]) (fun φ71 => [(r, .cells #[.slice a l.length c, .int .i64 ((p : Nat) : Int), .int .i64 6] 99)]) (fun φ71 => []) s trivial (fun φ71 => by kernel_rfl) ?_
      intro φ71 w71 s
      refine callB_rule (b := (r, .cells #[.slice a l.length c, .int .i64 ((p : Nat) : Int), .int .i64 6] 99)) (H := [(r, .cells #[.slice a l.length c, .int .i64 ((p : Nat) : Int), .int .i64 6] 99)]) (F := []) (Hr := []) (some 25) 0 s (by kernel_rfl) (by kernel_rfl) (getG_c (e := 6) (z := ((2 : Nat) : Int)) (r := r) (p := p) hl (hn9) (by have hp0 := hp;  have hq0 := of_decide_eq_false hc47; omega)) (by kernel_rfl) ?_
      rintro v72 I72 w72 b72 le72 - h72 s
      replace hl := BSl.mono le72 hl
      replace hle2 := leMono le72 hle2
      obtain ⟨rfl, rfl⟩ := h72
      refine ops_rule (C := []) [(r, .cells #[.slice a l.length c, .int .i64 ((p + geD l p 6 (clampN ((2 : Nat) : Int)) : Nat) : Int), .int .i64 ((geE l p 6 (clampN ((2 : Nat) : Int)) : Nat) : Int)] 99)] [] 2 [] 0 (fun φ73 => [(6, .int .u64 (IntKind.wrap .u64 (((0 : Nat) : Int) + ((geV l p 6 (clampN ((2 : Nat) : Int)) : Nat) : Int)))), (26, .int .u64 (IntKind.wrap .u64 (((0 : Nat) : Int) + ((geV l p 6 (clampN ((2 : Nat) : Int)) : Nat) : Int))))]) (fun φ73 => [(r, .cells #[.slice a l.length c, .int .i64 ((p + geD l p 6 (clampN ((2 : Nat) : Int)) : Nat) : Int), .int .i64 ((geE l p 6 (clampN ((2 : Nat) : Int)) : Nat) : Int)] 99)]) (fun φ73 => []) s trivial (fun φ73 => by kernel_rfl) ?_
      intro φ73 w73 s
      refine ops_done (by kernel_rfl) ?_
      refine wp_seq ?_
      refine wp_seq ?_
      refine region_rule ?_
      refine ops_rule (C := []) [(r, .cells #[.slice a l.length c, .int .i64 ((p + geD l p 6 (clampN ((2 : Nat) : Int)) : Nat) : Int), .int .i64 ((geE l p 6 (clampN ((2 : Nat) : Int)) : Nat) : Int)] 99)] [] 6 [.o 0] 0 (fun φ74 => [(32, .bool (((geE l p 6 (clampN ((2 : Nat) : Int)) : Nat) : Int) != ((0 : Nat) : Int))), (31, .bool (((geE l p 6 (clampN ((2 : Nat) : Int)) : Nat) : Int) != ((0 : Nat) : Int))), (30, .int .i64 ((geE l p 6 (clampN ((2 : Nat) : Int)) : Nat) : Int)), (29, .pointer (some ⟨r, 2, none⟩)), (28, .pointer (some ⟨r, 0, none⟩)), (27, .pointer (some ⟨r, 0, none⟩))]) (fun φ74 => [(r, .cells #[.slice a l.length c, .int .i64 ((p + geD l p 6 (clampN ((2 : Nat) : Int)) : Nat) : Int), .int .i64 ((geE l p 6 (clampN ((2 : Nat) : Int)) : Nat) : Int)] 99)]) (fun φ74 => [r]) s trivial (fun φ74 => by kernel_rfl) ?_
      intro φ74 w74 s
      rw [nat_neq (a := (geE l p 6 (clampN ((2 : Nat) : Int)))) (b := 0)]
      rcases Bool.eq_false_or_eq_true (decide ((geE l p 6 (clampN ((2 : Nat) : Int))) ≠ 0)) with hc75 | hc75
      ·
        rw [hc75]
        refine ops_rule (C := []) [(r, .cells #[.slice a l.length c, .int .i64 ((p + geD l p 6 (clampN ((2 : Nat) : Int)) : Nat) : Int), .int .i64 ((geE l p 6 (clampN ((2 : Nat) : Int)) : Nat) : Int)] 99)] [] 8 [] 0 (fun φ76 => [(40, .bool true), (39, undef), (38, undef), (37, undef), (36, .bool true), (35, .bool true), (34, undef), (33, undef)]) (fun φ76 => [(r, .cells #[.slice a l.length c, .int .i64 ((p + geD l p 6 (clampN ((2 : Nat) : Int)) : Nat) : Int), .int .i64 ((geE l p 6 (clampN ((2 : Nat) : Int)) : Nat) : Int)] 99)]) (fun φ76 => []) s trivial (fun φ76 => by kernel_rfl) ?_
        intro φ76 w76 s
        refine ops_done (by kernel_rfl) ?_
        refine cond_true_rule (b := true) (by kernel_rfl) rfl ?_
        refine wp_seq ?_
        refine region_rule ?_
        refine ops_rule (C := []) [(r, .cells #[.slice a l.length c, .int .i64 ((p + geD l p 6 (clampN ((2 : Nat) : Int)) : Nat) : Int), .int .i64 ((geE l p 6 (clampN ((2 : Nat) : Int)) : Nat) : Int)] 99)] [] 9 [.o 0, .o 0] 0 (fun φ77 => [(47, .pointer (some ⟨r, 2, none⟩)), (46, .pointer (some ⟨r, 0, none⟩)), (45, .pointer (some ⟨r, 1, none⟩)), (44, .pointer (some ⟨r, 0, none⟩)), (43, .int .i64 ((p : Nat) : Int)), (42, .pointer (some ⟨r, 0, none⟩)), (41, .pointer (some ⟨r, 0, none⟩))]) (fun φ77 => [(r, .cells #[.slice a l.length c, .int .i64 ((p : Nat) : Int), .int .i64 6] 99)]) (fun φ77 => [r, r]) s trivial (fun φ77 => by kernel_rfl) ?_
        intro φ77 w77 s
        refine ops_done (by kernel_rfl) ?_
        refine wp_seq ?_
        refine region_rule ?_
        refine ops_rule (C := []) [(r, .cells #[.slice a l.length c, .int .i64 ((p : Nat) : Int), .int .i64 6] 99)] [] 1 [] 0 (fun φ78 => [(2, .int .u64 0)]) (fun φ78 => [(r, .cells #[.slice a l.length c, .int .i64 ((p : Nat) : Int), .int .i64 6] 99)]) (fun φ78 => []) s trivial (fun φ78 => by kernel_rfl) ?_
        intro φ78 w78 s
        refine ops_done (by kernel_rfl) ?_
        refine wp_ret ?_
        refine ret_rule (C := []) [(r, .cells #[.slice a l.length c, .int .i64 ((p : Nat) : Int), .int .i64 6] 99)] [] (.int .u64 0) [] [] s trivial (by kernel_rfl) ?_
        exact ⟨_, _, _, rfl, s, (by have h8 := num_out (j := 0) (OnesL.start hp) (of_decide_eq_false hc47); exact ⟨_, rfl, rfl, (by rw [h8.1]; rfl), (by rw [h8.2.1, h8.2.2]; rfl)⟩)⟩
      ·
        exact absurd (of_decide_eq_false hc75) (fun q => q (by rw [ge6]; decide))

end Go.Proofs.Ytpnlaeapnokipaa
