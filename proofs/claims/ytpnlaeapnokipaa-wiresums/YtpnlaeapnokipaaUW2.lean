/- The sums; are bytes alike. -/
import Derived.Test.YtpnlaeapnokipaaUW1
set_option linter.all false
set_option maxRecDepth 100000
namespace Go.Proofs.Ytpnlaeapnokipaa
open Go.RowKit Go.Sep
attribute [local irreducible] Go.wpList Go.Code.wp

theorem ref_odd {r b : Nat} (h : r % 2 ≠ b % 2) : crcBit (r ^^^ b) = ((r / 2) ^^^ 3988292384) ^^^ (b / 2) := by rw [step_ref, if_pos h]
theorem ref_even {r b : Nat} (h : ¬ (r % 2 ≠ b % 2)) : crcBit (r ^^^ b) = (r / 2) ^^^ (b / 2) := by rw [step_ref, if_neg h, Nat.xor_zero]
theorem half_pow {x k : Nat} : x / 2 ^ k / 2 = x / 2 ^ (k + 1) := by rw [Nat.div_div_eq_div_mul, Nat.pow_succ]
theorem byte_gone {x : UInt8} {k : Nat} (h : k = 8) : x.toNat / 2 ^ k = 0 := by subst h; exact Nat.div_eq_of_lt (byte_lt x)

set_option maxHeartbeats 2000000 in
theorem refsum_c {I : IM} {l : List UInt8} {a : Option Addr} {n c : Nat} (hl : BSl I l (.slice a n c)) (hn : l.length ≤ 1000000000) : Fun Try.prog 38 #[.slice a n c] I (fun v J => v = .int .u32 ((4294967295 - crc 4294967295 l : Nat) : Int)) := by
  obtain ⟨rfl, -⟩ := hl.cap
  refine enter_rule 34 [(0, .slice a l.length c)] Try.func38 rfl (by kernel_rfl) ?_
  intro w s
  refine wp_seq ?_
  refine region_rule ?_
  refine ops_rule (C := []) [] [] 1 [] 0 (fun φ1 => [(2, .int .u32 0)]) (fun φ1 => []) (fun φ1 => []) s trivial (fun φ1 => by kernel_rfl) ?_
  intro φ1 w1 s
  refine ops_done (by kernel_rfl) ?_
  refine wp_seq ?_
  refine region_rule ?_
  refine ops_rule (C := []) [] [] 1 [] 0 (fun φ2 => [(3, .int .u32 4294967295)]) (fun φ2 => []) (fun φ2 => []) s trivial (fun φ2 => by kernel_rfl) ?_
  intro φ2 w2 s
  refine ops_done (by kernel_rfl) ?_
  refine wp_seq ?_
  refine wp_seq ?_
  refine region_rule ?_
  refine ops_rule (C := []) [] [] 3 [] 0 (fun φ3 => [(10, .int .i64 0), (9, .int .i64 ((l.length : Nat) : Int)), (8, .slice a l.length c)]) (fun φ3 => []) (fun φ3 => []) s trivial (fun φ3 => by kernel_rfl) ?_
  intro φ3 w3 s
  refine ops_done (by kernel_rfl) ?_
  refine wp_block ?_
  have hle4 := IM.Le.refl I
  refine loop_rule (fun (x : Nat × Nat) => [(8, .slice a l.length c), (9, .int .i64 ((l.length : Nat) : Int)), (3, .int .u32 ((x.1 : Nat) : Int)), (10, .int .i64 ((x.2 : Nat) : Int))]) (fun (x : Nat × Nat) => []) (fun m (x : Nat × Nat) J => IM.Le I J ∧ x.2 + m = l.length ∧ crc x.1 (l.drop x.2) = crc 4294967295 l ∧ x.1 < 4294967296) (l.length) (4294967295, 0) s (by kernel_rfl) List.Sublist.slnil ⟨IM.Le.refl _, Nat.zero_add _, rfl, (by decide)⟩ ?_
  rintro m5 ⟨r5, i5⟩ I5 w5 ev5 s ⟨le5, hi5_0, hi5_1, hi5_2⟩
  try dsimp only at s hi5_0 hi5_1 hi5_2 ⊢
  replace hl := BSl.mono le5 hl
  replace hle4 := leMono le5 hle4
  refine wp_seq ?_
  refine region_rule ?_
  refine ops_rule (C := []) [] [] 1 [] 0 (fun φ6 => [(11, .bool (decide (((i5 : Nat) : Int) < ((l.length : Nat) : Int))))]) (fun φ6 => []) (fun φ6 => []) s trivial (fun φ6 => by kernel_rfl) ?_
  intro φ6 w6 s
  rw [nat_lss (a := i5) (b := l.length)]
  refine ops_done (by kernel_rfl) ?_
  refine wp_seq ?_
  rcases Bool.eq_false_or_eq_true (decide (i5 < l.length)) with hc7 | hc7
  ·
    rw [hc7]
    refine cond_true_rule (b := true) (by kernel_rfl) rfl ?_
    refine wp_skip ?_
    refine wp_seq ?_
    refine wp_block ?_
    refine wp_seq ?_
    refine region_rule ?_
    refine sem_rule (Instr.indexAt 34 (.slice a l.length c) (.int .i64 ((i5 : Nat) : Int))) (some 12) (.pointer (pAt a i5)) (by kernel_rfl) (bsl_idx hl (by have hr8 := hi5_2; have hq0 := of_decide_eq_true hc7; omega)) ?_
    refine sem_rule (Instr.loadAt 5 (.pointer (pAt a i5))) (some 13) (.int .u8 (((l.getD i5 0).toNat : Nat) : Int)) (by kernel_rfl) (bsl_ld s.sub hl (by have hr8 := hi5_2; have hq0 := of_decide_eq_true hc7; omega)) ?_
    refine ops_rule (C := []) [] [] 1 [] 0 (fun φ8 => [(5, .int .u8 (((l.getD i5 0).toNat : Nat) : Int))]) (fun φ8 => []) (fun φ8 => []) s trivial (fun φ8 => by kernel_rfl) ?_
    intro φ8 w8 s
    refine ops_done (by kernel_rfl) ?_
    refine wp_seq ?_
    refine region_rule ?_
    refine ops_rule (C := []) [] [] 1 [] 0 (fun φ9 => [(6, .int .i64 0)]) (fun φ9 => []) (fun φ9 => []) s trivial (fun φ9 => by kernel_rfl) ?_
    intro φ9 w9 s
    refine ops_done (by kernel_rfl) ?_
    refine wp_block ?_
    have hle10 := IM.Le.refl I5
    refine loop_rule (fun (x : Nat × Nat × Nat) => [(8, .slice a l.length c), (9, .int .i64 ((l.length : Nat) : Int)), (10, .int .i64 ((i5 : Nat) : Int)), (3, .int .u32 ((x.1 : Nat) : Int)), (5, .int .u8 ((x.2.1 : Nat) : Int)), (6, .int .i64 ((x.2.2 : Nat) : Int))]) (fun (x : Nat × Nat × Nat) => []) (fun m (x : Nat × Nat × Nat) J => IM.Le I5 J ∧ x.2.2 + m = 8 ∧ crcBits (8 - x.2.2) (x.1 ^^^ x.2.1) = crcBits 8 (r5 ^^^ (l.getD i5 0).toNat) ∧ x.1 < 4294967296 ∧ x.2.1 = (l.getD i5 0).toNat / 2 ^ x.2.2) (8) (r5, (l.getD i5 0).toNat, 0) s (by kernel_rfl) List.Sublist.slnil ⟨IM.Le.refl _, rfl, rfl, hi5_2, (Nat.div_one _).symm⟩ ?_
    rintro m11 ⟨r11, b11, k11⟩ I11 w11 ev11 s ⟨le11, hi11_0, hi11_1, hi11_2, hi11_3⟩
    try dsimp only at s hi11_0 hi11_1 hi11_2 hi11_3 ⊢
    replace hl := BSl.mono le11 hl
    replace hle4 := leMono le11 hle4
    replace hle10 := leMono le11 hle10
    refine wp_seq ?_
    refine wp_seq ?_
    refine region_rule ?_
    refine ops_rule (C := []) [] [] 2 [] 0 (fun φ12 => [(15, .bool (decide (((k11 : Nat) : Int) < ((8 : Nat) : Int)))), (14, .int .i64 ((k11 : Nat) : Int))]) (fun φ12 => []) (fun φ12 => []) s trivial (fun φ12 => by kernel_rfl) ?_
    intro φ12 w12 s
    rw [nat_lss (a := k11) (b := 8)]
    refine ops_done (by kernel_rfl) ?_
    rcases Bool.eq_false_or_eq_true (decide (k11 < 8)) with hc13 | hc13
    ·
      rw [hc13]
      refine cond_true_rule (b := true) (by kernel_rfl) rfl ?_
      refine wp_skip ?_
      refine wp_seq ?_
      refine wp_block ?_
      refine wp_seq ?_
      refine region_rule ?_
      refine ops_rule (C := []) [] [] 7 [] 0 (fun φ14 => [(7, .bool ((Int.tmod ((r11 : Nat) : Int) ((2 : Nat) : Int)) != (IntKind.wrap .u32 (Int.tmod ((b11 : Nat) : Int) ((2 : Nat) : Int))))), (23, .bool ((Int.tmod ((r11 : Nat) : Int) ((2 : Nat) : Int)) != (IntKind.wrap .u32 (Int.tmod ((b11 : Nat) : Int) ((2 : Nat) : Int))))), (22, .int .u32 (IntKind.wrap .u32 (Int.tmod ((b11 : Nat) : Int) ((2 : Nat) : Int)))), (21, .int .u8 (Int.tmod ((b11 : Nat) : Int) ((2 : Nat) : Int))), (20, .int .u8 ((b11 : Nat) : Int)), (19, .int .u32 (Int.tmod ((r11 : Nat) : Int) ((2 : Nat) : Int))), (18, .int .u32 ((r11 : Nat) : Int))]) (fun φ14 => []) (fun φ14 => []) s trivial (fun φ14 => by kernel_rfl) ?_
      intro φ14 w14 s
      rw [nat_rem (a := r11) (b := 2)]
      rw [nat_rem (a := b11) (b := 2)]
      rw [nat_wrapu32 (a := (b11 % 2)) (by have hr8 := hi11_2; have hb8 := hi11_3; have hb7 := byte_lt (l.getD i5 0); have hb6 := Nat.div_le_self (l.getD i5 0).toNat (2 ^ k11); have hq0 := of_decide_eq_true hc7; have hq1 := of_decide_eq_true hc13; omega)]
      rw [nat_neq (a := (r11 % 2)) (b := (b11 % 2))]
      refine ops_done (by kernel_rfl) ?_
      refine wp_seq ?_
      refine region_rule ?_
      refine ops_rule (C := []) [] [] 3 [] 0 (fun φ15 => [(3, .int .u32 (IntKind.wrap .u32 (Int.tdiv ((r11 : Nat) : Int) ((2 : Nat) : Int)))), (25, .int .u32 (IntKind.wrap .u32 (Int.tdiv ((r11 : Nat) : Int) ((2 : Nat) : Int)))), (24, .int .u32 ((r11 : Nat) : Int))]) (fun φ15 => []) (fun φ15 => []) s trivial (fun φ15 => by kernel_rfl) ?_
      intro φ15 w15 s
      rw [nat_quo32 (a := r11) (b := 2) (by have hr8 := hi11_2; have hb8 := hi11_3; have hb7 := byte_lt (l.getD i5 0); have hb6 := Nat.div_le_self (l.getD i5 0).toNat (2 ^ k11); have hq0 := of_decide_eq_true hc7; have hq1 := of_decide_eq_true hc13; omega)]
      refine ops_done (by kernel_rfl) ?_
      refine wp_seq ?_
      refine region_rule ?_
      refine ops_rule (C := []) [] [] 3 [] 0 (fun φ16 => [(5, .int .u8 (IntKind.wrap .u8 (Int.tdiv ((b11 : Nat) : Int) ((2 : Nat) : Int)))), (27, .int .u8 (IntKind.wrap .u8 (Int.tdiv ((b11 : Nat) : Int) ((2 : Nat) : Int)))), (26, .int .u8 ((b11 : Nat) : Int))]) (fun φ16 => []) (fun φ16 => []) s trivial (fun φ16 => by kernel_rfl) ?_
      intro φ16 w16 s
      rw [nat_quo8 (a := b11) (b := 2) (by have hr8 := hi11_2; have hb8 := hi11_3; have hb7 := byte_lt (l.getD i5 0); have hb6 := Nat.div_le_self (l.getD i5 0).toNat (2 ^ k11); have hq0 := of_decide_eq_true hc7; have hq1 := of_decide_eq_true hc13; omega)]
      refine ops_done (by kernel_rfl) ?_
      refine wp_seq ?_
      refine region_rule ?_
      refine ops_rule (C := []) [] [] 1 [] 0 (fun φ17 => [(28, .bool (decide ((r11 % 2) ≠ (b11 % 2))))]) (fun φ17 => []) (fun φ17 => []) s trivial (fun φ17 => by kernel_rfl) ?_
      intro φ17 w17 s
      refine ops_done (by kernel_rfl) ?_
      rcases Bool.eq_false_or_eq_true (decide ((r11 % 2) ≠ (b11 % 2))) with hc18 | hc18
      ·
        rw [hc18]
        refine cond_true_rule (b := true) (by kernel_rfl) rfl ?_
        refine region_rule ?_
        refine ops_rule (C := []) [] [] 1 [] 0 (fun φ19 => [(29, .int .u32 ((r11 / 2 : Nat) : Int))]) (fun φ19 => []) (fun φ19 => []) s trivial (fun φ19 => by kernel_rfl) ?_
        intro φ19 w19 s
        refine sem_rule (binOp .xor 59 (.int .u32 ((r11 / 2 : Nat) : Int)) (.int .u32 ((3988292384 : Nat) : Int))) (some 30) (.int .u32 ((bxor 32 (r11 / 2) 3988292384 : Nat) : Int)) (by kernel_rfl) (run_bit32.1) ?_
        refine ops_rule (C := []) [] [] 1 [] 0 (fun φ20 => [(3, .int .u32 ((bxor 32 (r11 / 2) 3988292384 : Nat) : Int))]) (fun φ20 => []) (fun φ20 => []) s trivial (fun φ20 => by kernel_rfl) ?_
        intro φ20 w20 s
        refine ops_done (by kernel_rfl) ?_
        refine region_rule ?_
        refine ops_rule (C := []) [] [] 3 [] 0 (fun φ21 => [(6, .int .i64 (IntKind.wrap .i64 (((k11 : Nat) : Int) + ((1 : Nat) : Int)))), (17, .int .i64 (IntKind.wrap .i64 (((k11 : Nat) : Int) + ((1 : Nat) : Int)))), (16, .int .i64 ((k11 : Nat) : Int))]) (fun φ21 => []) (fun φ21 => []) s trivial (fun φ21 => by kernel_rfl) ?_
        intro φ21 w21 s
        rw [nat_addI (a := k11) (b := 1) (by have hr8 := hi11_2; have hb8 := hi11_3; have hb7 := byte_lt (l.getD i5 0); have hb6 := Nat.div_le_self (l.getD i5 0).toNat (2 ^ k11); have hq0 := of_decide_eq_true hc7; have hq1 := of_decide_eq_true hc13; have hq2 := of_decide_eq_true hc18; omega)]
        refine ops_done (by kernel_rfl) ?_
        have hk9 := of_decide_eq_true hc13
        rw [bxor32 (a := r11 / 2) (b := 3988292384) (by have := hi11_2; omega) (by omega)]
        exact ⟨⟨m11 - 1, ((r11 / 2 ^^^ 3988292384), b11 / 2, k11 + 1), _, _, _, by omega, rfl, s, List.Sublist.slnil, by kernel_rfl, hle10, by show k11 + 1 + (m11 - 1) = 8; omega, by have e9 := hi11_1; rw [show 8 - k11 = (8 - (k11 + 1)) + 1 by omega, crcBits_succ, ref_odd (of_decide_eq_true hc18)] at e9; exact e9, (xor_lt32 (by have := hi11_2; omega) (by omega)), by have e9 := hi11_3; show b11 / 2 = _; rw [e9, half_pow]⟩⟩
      ·
        rw [hc18]
        refine cond_false_rule (b := false) (by kernel_rfl) rfl ?_
        refine wp_skip ?_
        refine region_rule ?_
        refine ops_rule (C := []) [] [] 3 [] 0 (fun φ22 => [(6, .int .i64 (IntKind.wrap .i64 (((k11 : Nat) : Int) + ((1 : Nat) : Int)))), (17, .int .i64 (IntKind.wrap .i64 (((k11 : Nat) : Int) + ((1 : Nat) : Int)))), (16, .int .i64 ((k11 : Nat) : Int))]) (fun φ22 => []) (fun φ22 => []) s trivial (fun φ22 => by kernel_rfl) ?_
        intro φ22 w22 s
        rw [nat_addI (a := k11) (b := 1) (by have hr8 := hi11_2; have hb8 := hi11_3; have hb7 := byte_lt (l.getD i5 0); have hb6 := Nat.div_le_self (l.getD i5 0).toNat (2 ^ k11); have hq0 := of_decide_eq_true hc7; have hq1 := of_decide_eq_true hc13; have hq2 := of_decide_eq_false hc18; omega)]
        refine ops_done (by kernel_rfl) ?_
        have hk9 := of_decide_eq_true hc13
        exact ⟨⟨m11 - 1, (r11 / 2, b11 / 2, k11 + 1), _, _, _, by omega, rfl, s, List.Sublist.slnil, by kernel_rfl, hle10, by show k11 + 1 + (m11 - 1) = 8; omega, by have e9 := hi11_1; rw [show 8 - k11 = (8 - (k11 + 1)) + 1 by omega, crcBits_succ, ref_even (of_decide_eq_false hc18)] at e9; exact e9, (by have := hi11_2; omega), by have e9 := hi11_3; show b11 / 2 = _; rw [e9, half_pow]⟩⟩
    ·
      rw [hc13]
      refine cond_false_rule (b := false) (by kernel_rfl) rfl ?_
      refine wp_exit ?_
      refine region_rule ?_
      refine ops_rule (C := []) [] [] 2 [] 0 (fun φ23 => [(10, .int .i64 (IntKind.wrap .i64 (((i5 : Nat) : Int) + ((1 : Nat) : Int)))), (31, .int .i64 (IntKind.wrap .i64 (((i5 : Nat) : Int) + ((1 : Nat) : Int))))]) (fun φ23 => []) (fun φ23 => []) s trivial (fun φ23 => by kernel_rfl) ?_
      intro φ23 w23 s
      rw [nat_addI (a := i5) (b := 1) (by have hr8 := hi11_2; have hb8 := hi11_3; have hb7 := byte_lt (l.getD i5 0); have hb6 := Nat.div_le_self (l.getD i5 0).toNat (2 ^ k11); have hq0 := of_decide_eq_true hc7; have hq1 := of_decide_eq_false hc13; omega)]
      refine ops_done (by kernel_rfl) ?_
      have hq9 := of_decide_eq_true hc7
      have hk9 := of_decide_eq_false hc13
      have ey : r11 = crcBits 8 (r5 ^^^ (l.getD i5 0).toNat) := by have e9 := hi11_1; rw [hi11_3, byte_gone (show k11 = 8 by omega), Nat.xor_zero, show 8 - k11 = 0 by omega] at e9; exact e9
      exact ⟨⟨m5 - 1, (r11, i5 + 1), _, _, _, by omega, rfl, s, List.Sublist.slnil, by kernel_rfl, hle4, by show i5 + 1 + (m5 - 1) = l.length; omega, (crc_step hq9 ey).trans hi5_1, hi11_2⟩⟩
  ·
    rw [hc7]
    refine cond_false_rule (b := false) (by kernel_rfl) rfl ?_
    refine wp_exit ?_
    refine wp_seq ?_
    refine region_rule ?_
    refine ops_rule (C := []) [] [] 3 [] 0 (fun φ24 => [(2, .int .u32 (IntKind.wrap .u32 (((4294967295 : Nat) : Int) - ((r5 : Nat) : Int)))), (33, .int .u32 (IntKind.wrap .u32 (((4294967295 : Nat) : Int) - ((r5 : Nat) : Int)))), (32, .int .u32 ((r5 : Nat) : Int))]) (fun φ24 => []) (fun φ24 => []) s trivial (fun φ24 => by kernel_rfl) ?_
    intro φ24 w24 s
    rw [nat_subu32 (a := 4294967295) (b := r5) (by have hr8 := hi5_2; have hq0 := of_decide_eq_false hc7; omega) (by have hr8 := hi5_2; have hq0 := of_decide_eq_false hc7; omega)]
    refine ops_done (by kernel_rfl) ?_
    refine wp_ret ?_
    refine ret_rule (C := []) [] [] (.int .u32 ((4294967295 - r5 : Nat) : Int)) [] [] s trivial (by kernel_rfl) ?_
    exact ⟨_, _, _, rfl, s, (by have hq9 := of_decide_eq_false hc7; have e9 := hi5_1; rw [List.drop_of_length_le (by omega)] at e9; rw [← e9]; rfl)⟩

set_option maxHeartbeats 400000 in
theorem sum_c {I : IM} {l : List UInt8} {a : Option Addr} {n c : Nat} (hl : BSl I l (.slice a n c)) (hn : l.length ≤ 1000000000) : Fun Try.prog 37 #[.slice a n c] I (fun v J => v = .int .u32 ((4294967295 - crc 4294967295 l : Nat) : Int)) := by
  obtain ⟨rfl, -⟩ := hl.cap
  refine enter_rule 6 [(0, .slice a l.length c)] Try.func37 rfl (by kernel_rfl) ?_
  intro w s
  refine wp_seq ?_
  refine region_rule ?_
  refine ops_rule (C := []) [] [] 1 [] 0 (fun φ1 => [(2, .int .u32 0)]) (fun φ1 => []) (fun φ1 => []) s trivial (fun φ1 => by kernel_rfl) ?_
  intro φ1 w1 s
  refine ops_done (by kernel_rfl) ?_
  refine wp_seq ?_
  refine region_rule ?_
  refine ops_rule (C := []) [] [] 1 [] 0 (fun φ2 => [(3, .slice a l.length c)]) (fun φ2 => []) (fun φ2 => []) s trivial (fun φ2 => by kernel_rfl) ?_
  intro φ2 w2 s
  refine call_rule (some 4) s (divide_c (r := 4294967295) hl (by   (try simp only [List.length_append, List.length_cons, List.length_nil, List.length_take, List.length_drop]); omega) (by decide)) (by kernel_rfl) ?_
  intro v3 I3 w3 le3 h3 s
  replace hl := BSl.mono le3 hl
  obtain rfl := h3
  refine sem_rule (Op.unary .xor (.int .u32 ((crc 4294967295 l : Nat) : Int))) (some 5) (.int .u32 ((4294967295 - (crc 4294967295 l) : Nat) : Int)) (by kernel_rfl) (run_not32 (crc_lt _ (by decide))) ?_
  refine ops_rule (C := []) [] [] 1 [] 0 (fun φ4 => [(2, .int .u32 ((4294967295 - (crc 4294967295 l) : Nat) : Int))]) (fun φ4 => []) (fun φ4 => []) s trivial (fun φ4 => by kernel_rfl) ?_
  intro φ4 w4 s
  refine ops_done (by kernel_rfl) ?_
  refine wp_ret ?_
  refine ret_rule (C := []) [] [] (.int .u32 ((4294967295 - (crc 4294967295 l) : Nat) : Int)) [] [] s trivial (by kernel_rfl) ?_
  exact ⟨_, _, _, rfl, s, rfl⟩

theorem same_go {l m : List UInt8} {i : Nat} (h : i < l.length) (h2 : i < m.length) (e : l.drop i = m.drop i ↔ l = m) (hc : ¬ (l.getD i 0).toNat ≠ (m.getD i 0).toNat) : l.drop (i + 1) = m.drop (i + 1) ↔ l = m := by
  rw [← e, drop_cons h, drop_cons h2]
  have : l.getD i 0 = m.getD i 0 := UInt8.toNat_inj.1 (Decidable.not_not.1 hc)
  rw [this]; simp
theorem same_no {l m : List UInt8} {i : Nat} (hc : (l.getD i 0).toNat ≠ (m.getD i 0).toNat) : ¬ l = m := fun e => hc (by rw [e])

set_option maxHeartbeats 2000000 in
theorem same_c {I : IM} {l : List UInt8} {a : Option Addr} {n c : Nat} (hl : BSl I l (.slice a n c)) (hn : l.length ≤ 1000000000) {l2 : List UInt8} {a2 : Option Addr} {n2 c2 : Nat} (hl2 : BSl I l2 (.slice a2 n2 c2)) (hn2 : l2.length ≤ 1000000000) : Fun Try.prog 41 #[.slice a n c, .slice a2 n2 c2] I (fun v J => v = .bool (decide (l = l2))) := by
  obtain ⟨rfl, -⟩ := hl.cap
  obtain ⟨rfl, -⟩ := hl2.cap
  refine enter_rule 26 [(0, .slice a l.length c), (1, .slice a2 l2.length c2)] Try.func41 rfl (by kernel_rfl) ?_
  intro w s
  refine wp_seq ?_
  refine region_rule ?_
  refine ops_rule (C := []) [] [] 1 [] 0 (fun φ1 => [(4, .bool false)]) (fun φ1 => []) (fun φ1 => []) s trivial (fun φ1 => by kernel_rfl) ?_
  intro φ1 w1 s
  refine ops_done (by kernel_rfl) ?_
  refine wp_seq ?_
  refine wp_seq ?_
  refine region_rule ?_
  refine ops_rule (C := []) [] [] 5 [] 0 (fun φ2 => [(10, .bool (((l.length : Nat) : Int) != ((l2.length : Nat) : Int))), (9, .int .i64 ((l2.length : Nat) : Int)), (8, .slice a2 l2.length c2), (7, .int .i64 ((l.length : Nat) : Int)), (6, .slice a l.length c)]) (fun φ2 => []) (fun φ2 => []) s trivial (fun φ2 => by kernel_rfl) ?_
  intro φ2 w2 s
  rw [nat_neq (a := l.length) (b := l2.length)]
  refine ops_done (by kernel_rfl) ?_
  rcases Bool.eq_false_or_eq_true (decide (l.length ≠ l2.length)) with hc3 | hc3
  ·
    rw [hc3]
    refine cond_true_rule (b := true) (by kernel_rfl) rfl ?_
    refine wp_seq ?_
    refine region_rule ?_
    refine ops_rule (C := []) [] [] 1 [] 0 (fun φ4 => [(4, .bool false)]) (fun φ4 => []) (fun φ4 => []) s trivial (fun φ4 => by kernel_rfl) ?_
    intro φ4 w4 s
    refine ops_done (by kernel_rfl) ?_
    refine wp_ret ?_
    refine ret_rule (C := []) [] [] (.bool false) [] [] s trivial (by kernel_rfl) ?_
    exact ⟨_, _, _, rfl, s, (congrArg Value.bool (decide_eq_false (fun e => (of_decide_eq_true hc3) (congrArg List.length e))).symm)⟩
  ·
    rw [hc3]
    refine cond_false_rule (b := false) (by kernel_rfl) rfl ?_
    refine wp_skip ?_
    refine wp_seq ?_
    refine wp_seq ?_
    refine region_rule ?_
    refine ops_rule (C := []) [] [] 3 [] 0 (fun φ5 => [(13, .int .i64 0), (12, .int .i64 ((l.length : Nat) : Int)), (11, .slice a l.length c)]) (fun φ5 => []) (fun φ5 => []) s trivial (fun φ5 => by kernel_rfl) ?_
    intro φ5 w5 s
    refine ops_done (by kernel_rfl) ?_
    refine wp_block ?_
    have hlen := Decidable.not_not.1 (of_decide_eq_false hc3)
    have hle6 := IM.Le.refl I
    refine loop_rule (fun (x : Nat) => [(0, .slice a l.length c), (1, .slice a2 l2.length c2), (12, .int .i64 ((l.length : Nat) : Int)), (13, .int .i64 ((x : Nat) : Int))]) (fun (x : Nat) => []) (fun m (x : Nat) J => IM.Le I J ∧ x + m = l.length ∧ (l.drop x = l2.drop x ↔ l = l2)) (l.length) 0 s (by kernel_rfl) List.Sublist.slnil ⟨IM.Le.refl _, Nat.zero_add _, Iff.rfl⟩ ?_
    rintro m7 i7 I7 w7 ev7 s ⟨le7, hi7_0, hi7_1⟩
    try dsimp only at s hi7_0 hi7_1 ⊢
    replace hl := BSl.mono le7 hl
    replace hl2 := BSl.mono le7 hl2
    replace hle6 := leMono le7 hle6
    refine wp_seq ?_
    refine region_rule ?_
    refine ops_rule (C := []) [] [] 1 [] 0 (fun φ8 => [(14, .bool (decide (((i7 : Nat) : Int) < ((l.length : Nat) : Int))))]) (fun φ8 => []) (fun φ8 => []) s trivial (fun φ8 => by kernel_rfl) ?_
    intro φ8 w8 s
    rw [nat_lss (a := i7) (b := l.length)]
    refine ops_done (by kernel_rfl) ?_
    refine wp_seq ?_
    rcases Bool.eq_false_or_eq_true (decide (i7 < l.length)) with hc9 | hc9
    ·
      rw [hc9]
      refine cond_true_rule (b := true) (by kernel_rfl) rfl ?_
      refine wp_skip ?_
      refine wp_seq ?_
      refine wp_block ?_
      refine wp_seq ?_
      refine region_rule ?_
      refine ops_rule (C := []) [] [] 2 [] 0 (fun φ10 => [(5, .int .i64 ((i7 : Nat) : Int)), (15, .int .i64 ((i7 : Nat) : Int))]) (fun φ10 => []) (fun φ10 => []) s trivial (fun φ10 => by kernel_rfl) ?_
      intro φ10 w10 s
      refine ops_done (by kernel_rfl) ?_
      refine wp_seq ?_
      refine draw_rule (C := []) ⟨(fun φ11 xs11 => [.look 0 [] [], .look 0 [] [], .ran (Instr.indexAt 34 (.slice a l.length c) (.int .i64 ((i7 : Nat) : Int))), .ran (Instr.loadAt 5 (.pointer (pAt a i7))), .look 0 [] [], .look 0 [] [], .ran (Instr.indexAt 34 (.slice a2 l2.length c2) (.int .i64 ((i7 : Nat) : Int))), .ran (Instr.loadAt 5 (.pointer (pAt a2 i7))), .sub 0 [] [] (.bool ((((l.getD i7 0).toNat : Nat) : Int) != (((l2.getD i7 0).toNat : Nat) : Int)))]), (fun φ11 xs11 => [.slice a l.length c, .int .i64 ((i7 : Nat) : Int), .pointer (pAt a i7), .int .u8 (((l.getD i7 0).toNat : Nat) : Int), .slice a2 l2.length c2, .int .i64 ((i7 : Nat) : Int), .pointer (pAt a2 i7), .int .u8 (((l2.getD i7 0).toNat : Nat) : Int), .bool (decide (((l.getD i7 0).toNat) ≠ ((l2.getD i7 0).toNat)))]), (fun φ11 xs11 => [[]]), (fun φ11 xs11 => [[default, default, default, default, default, default, default, default, default]]), [], [1, 1, 6, 6, 1, 1, 6, 6, 5]⟩ (fun j => ([MP.any, MP.any, MP.any, MP.any, MP.any, MP.any, MP.any, MP.any, MP.any] : List MP).getD j MP.any) [] [8] [2, 3, 6, 7] (fun φ11 xs11 => []) (fun φ11 xs11 => [(16, .slice a l.length c), (17, .int .i64 ((i7 : Nat) : Int)), (18, .pointer (pAt a i7)), (19, .int .u8 (((l.getD i7 0).toNat : Nat) : Int)), (20, .slice a2 l2.length c2), (21, .int .i64 ((i7 : Nat) : Int)), (22, .pointer (pAt a2 i7)), (23, .int .u8 (((l2.getD i7 0).toNat : Nat) : Int)), (24, .bool (decide (((l.getD i7 0).toNat) ≠ ((l2.getD i7 0).toNat))))]) (fun φ11 xs11 => []) s trivial (by kernel_rfl) (by kernel_rfl) (fun _ _ => by kernel_rfl) (fun _ _ => by kernel_rfl) ⟨fun _ _ => by kernel_rfl, fun _ _ => by kernel_rfl, fun _ _ => by kernel_rfl, fun _ _ => by kernel_rfl⟩ (fun _ _ _ => by kernel_rfl) (fun _ _ => by kernel_rfl) (fun _ _ => by kernel_rfl) (fun _ _ => by kernel_rfl) (fun _ _ => by kernel_rfl) (fun _ _ => by kernel_rfl) ⟨kcast (A := ∀ (φ11 : Nat → Nat) (xs11 : Xs), (.bool ((((l.getD i7 0).toNat : Nat) : Int) != (((l2.getD i7 0).toNat : Nat) : Int)) : Value) = .bool (decide (((l.getD i7 0).toNat) ≠ ((l2.getD i7 0).toNat)))) (by kernel_rfl) (fun φ11 xs11 => congrArg Value.bool ((nat_neq (a := ((l.getD i7 0).toNat)) (b := ((l2.getD i7 0).toNat))))), trivial⟩ ⟨kcast (A := ∀ (φ11 : Nat → Nat) (xs11 : Xs) (J : IM) (w : World), I7.Le J → J.Sub w → ((Instr.indexAt 34 (.slice a l.length c) (.int .i64 ((i7 : Nat) : Int))) : Sem Value).run Try.prog w = .ok (.pointer (pAt a i7)) w) (by kernel_rfl) (fun φ11 xs11 J w hJ hS => bsl_idx (BSl.mono hJ hl) (by try have hln := hlen; have hq0 := of_decide_eq_false hc3; have hq1 := of_decide_eq_true hc9; omega)), ⟨kcast (A := ∀ (φ11 : Nat → Nat) (xs11 : Xs) (J : IM) (w : World), I7.Le J → J.Sub w → ((Instr.loadAt 5 (.pointer (pAt a i7))) : Sem Value).run Try.prog w = .ok (.int .u8 (((l.getD i7 0).toNat : Nat) : Int)) w) (by kernel_rfl) (fun φ11 xs11 J w hJ hS => bsl_ld hS (BSl.mono hJ hl) (by try have hln := hlen; have hq0 := of_decide_eq_false hc3; have hq1 := of_decide_eq_true hc9; omega)), ⟨kcast (A := ∀ (φ11 : Nat → Nat) (xs11 : Xs) (J : IM) (w : World), I7.Le J → J.Sub w → ((Instr.indexAt 34 (.slice a2 l2.length c2) (.int .i64 ((i7 : Nat) : Int))) : Sem Value).run Try.prog w = .ok (.pointer (pAt a2 i7)) w) (by kernel_rfl) (fun φ11 xs11 J w hJ hS => bsl_idx (BSl.mono hJ hl2) (by try have hln := hlen; have hq0 := of_decide_eq_false hc3; have hq1 := of_decide_eq_true hc9; omega)), ⟨kcast (A := ∀ (φ11 : Nat → Nat) (xs11 : Xs) (J : IM) (w : World), I7.Le J → J.Sub w → ((Instr.loadAt 5 (.pointer (pAt a2 i7))) : Sem Value).run Try.prog w = .ok (.int .u8 (((l2.getD i7 0).toNat : Nat) : Int)) w) (by kernel_rfl) (fun φ11 xs11 J w hJ hS => bsl_ld hS (BSl.mono hJ hl2) (by try have hln := hlen; have hq0 := of_decide_eq_false hc3; have hq1 := of_decide_eq_true hc9; omega)), trivial⟩⟩⟩⟩ (by kernel_rfl) trivial ?k11
      case k11 =>
        rintro φ11 xs11 I11 w11 le11 s 
        replace hl := BSl.mono le11 hl
        replace hl2 := BSl.mono le11 hl2
        replace hle6 := leMono le11 hle6
        rcases Bool.eq_false_or_eq_true (decide (((l.getD i7 0).toNat) ≠ ((l2.getD i7 0).toNat))) with hc12 | hc12
        ·
          rw [hc12]
          refine cond_true_rule (b := true) (by kernel_rfl) rfl ?_
          refine wp_seq ?_
          refine region_rule ?_
          refine ops_rule (C := []) [] [] 1 [] 0 (fun φ13 => [(4, .bool false)]) (fun φ13 => []) (fun φ13 => []) s trivial (fun φ13 => by kernel_rfl) ?_
          intro φ13 w13 s
          refine ops_done (by kernel_rfl) ?_
          refine wp_ret ?_
          refine ret_rule (C := []) [] [] (.bool false) [] [] s trivial (by kernel_rfl) ?_
          exact ⟨_, _, _, rfl, s, (congrArg Value.bool (decide_eq_false (same_no (of_decide_eq_true hc12))).symm)⟩
        ·
          rw [hc12]
          refine cond_false_rule (b := false) (by kernel_rfl) rfl ?_
          refine wp_skip ?_
          refine region_rule ?_
          refine ops_rule (C := []) [] [] 2 [] 0 (fun φ14 => [(13, .int .i64 (IntKind.wrap .i64 (((i7 : Nat) : Int) + ((1 : Nat) : Int)))), (25, .int .i64 (IntKind.wrap .i64 (((i7 : Nat) : Int) + ((1 : Nat) : Int))))]) (fun φ14 => []) (fun φ14 => []) s trivial (fun φ14 => by kernel_rfl) ?_
          intro φ14 w14 s
          rw [nat_addI (a := i7) (b := 1) (by try have hln := hlen; have hq0 := of_decide_eq_false hc3; have hq1 := of_decide_eq_true hc9; have hq2 := of_decide_eq_false hc12; omega)]
          refine ops_done (by kernel_rfl) ?_
          have hq9 := of_decide_eq_true hc9
          exact ⟨⟨m7 - 1, i7 + 1, _, _, _, by omega, rfl, s, List.Sublist.slnil, by kernel_rfl, hle6, by show i7 + 1 + (m7 - 1) = l.length; omega, same_go hq9 (by omega) hi7_1 (of_decide_eq_false hc12)⟩⟩
    ·
      rw [hc9]
      refine cond_false_rule (b := false) (by kernel_rfl) rfl ?_
      refine wp_exit ?_
      refine wp_seq ?_
      refine region_rule ?_
      refine ops_rule (C := []) [] [] 1 [] 0 (fun φ15 => [(4, .bool true)]) (fun φ15 => []) (fun φ15 => []) s trivial (fun φ15 => by kernel_rfl) ?_
      intro φ15 w15 s
      refine ops_done (by kernel_rfl) ?_
      refine wp_ret ?_
      refine ret_rule (C := []) [] [] (.bool true) [] [] s trivial (by kernel_rfl) ?_
      exact ⟨_, _, _, rfl, s, (congrArg Value.bool (decide_eq_true (hi7_1.1 (by have := of_decide_eq_false hc9; rw [List.drop_of_length_le (by omega), List.drop_of_length_le (by omega)]))).symm)⟩

end Go.Proofs.Ytpnlaeapnokipaa
