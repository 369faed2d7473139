/- The sum: divide. -/
import Derived.Test.YtpnlaeapnokipaaDB3
set_option linter.all false
set_option maxRecDepth 100000
namespace Go.Proofs.Ytpnlaeapnokipaa
open Go.RowKit Go.Sep
attribute [local irreducible] Go.wpList Go.Code.wp

set_option maxHeartbeats 2000000 in
theorem divide_c {I : IM} {l : List UInt8} {a : Option Addr} {n c : Nat} (hl : BSl I l (.slice a n c)) (hn : l.length ≤ 1000000000) {r : Nat} (hr : r < 4294967296) : Fun Try.prog 69 #[.int .u32 ((r : Nat) : Int), .slice a n c] I (fun v J => v = .int .u32 ((crc r l : Nat) : Int)) := by
  obtain ⟨rfl, -⟩ := hl.cap
  refine enter_rule 29 [(0, .int .u32 ((r : Nat) : Int)), (1, .slice a l.length c)] Try.func69 rfl (by kernel_rfl) ?_
  intro w s
  refine wp_seq ?_
  refine region_rule ?_
  refine ops_rule (C := []) [] [] 1 [] 0 (fun φ1 => [(4, .int .u32 0)]) (fun φ1 => []) (fun φ1 => []) s trivial (fun φ1 => by kernel_rfl) ?_
  intro φ1 w1 s
  refine ops_done (by kernel_rfl) ?_
  refine wp_seq ?_
  refine wp_seq ?_
  refine region_rule ?_
  refine ops_rule (C := []) [] [] 3 [] 0 (fun φ2 => [(9, .int .i64 0), (8, .int .i64 ((l.length : Nat) : Int)), (7, .slice a l.length c)]) (fun φ2 => []) (fun φ2 => []) s trivial (fun φ2 => by kernel_rfl) ?_
  intro φ2 w2 s
  refine ops_done (by kernel_rfl) ?_
  refine wp_block ?_
  have hle3 := IM.Le.refl I
  refine loop_rule (fun (x : Nat × Nat) => [(7, .slice a l.length c), (8, .int .i64 ((l.length : Nat) : Int)), (0, .int .u32 ((x.1 : Nat) : Int)), (9, .int .i64 ((x.2 : Nat) : Int))]) (fun (x : Nat × Nat) => []) (fun m (x : Nat × Nat) J => IM.Le I J ∧ x.2 + m = l.length ∧ crc x.1 (l.drop x.2) = crc r l ∧ x.1 < 4294967296) (l.length) (r, 0) s (by kernel_rfl) List.Sublist.slnil ⟨IM.Le.refl _, Nat.zero_add _, rfl, hr⟩ ?_
  rintro m4 ⟨r4, i4⟩ I4 w4 ev4 s ⟨le4, hi4_0, hi4_1, hi4_2⟩
  try dsimp only at s hi4_0 hi4_1 hi4_2 ⊢
  replace hl := BSl.mono le4 hl
  replace hle3 := leMono le4 hle3
  refine wp_seq ?_
  refine region_rule ?_
  refine ops_rule (C := []) [] [] 1 [] 0 (fun φ5 => [(10, .bool (decide (((i4 : Nat) : Int) < ((l.length : Nat) : Int))))]) (fun φ5 => []) (fun φ5 => []) s trivial (fun φ5 => by kernel_rfl) ?_
  intro φ5 w5 s
  rw [nat_lss (a := i4) (b := l.length)]
  refine ops_done (by kernel_rfl) ?_
  refine wp_seq ?_
  rcases Bool.eq_false_or_eq_true (decide (i4 < l.length)) with hc6 | hc6
  ·
    rw [hc6]
    refine cond_true_rule (b := true) (by kernel_rfl) rfl ?_
    refine wp_skip ?_
    refine wp_seq ?_
    refine wp_block ?_
    refine wp_seq ?_
    refine region_rule ?_
    refine sem_rule (Instr.indexAt 34 (.slice a l.length c) (.int .i64 ((i4 : Nat) : Int))) (some 11) (.pointer (pAt a i4)) (by kernel_rfl) (bsl_idx hl (by  have hq0 := of_decide_eq_true hc6; omega)) ?_
    refine sem_rule (Instr.loadAt 5 (.pointer (pAt a i4))) (some 12) (.int .u8 (((l.getD i4 0).toNat : Nat) : Int)) (by kernel_rfl) (bsl_ld s.sub hl (by  have hq0 := of_decide_eq_true hc6; omega)) ?_
    refine ops_rule (C := []) [] [] 1 [] 0 (fun φ7 => [(6, .int .u8 (((l.getD i4 0).toNat : Nat) : Int))]) (fun φ7 => []) (fun φ7 => []) s trivial (fun φ7 => by kernel_rfl) ?_
    intro φ7 w7 s
    refine ops_done (by kernel_rfl) ?_
    refine wp_seq ?_
    refine region_rule ?_
    refine ops_rule (C := []) [] [] 3 [] 0 (fun φ8 => [(15, .int .u32 (IntKind.wrap .u32 (((l.getD i4 0).toNat : Nat) : Int))), (14, .int .u8 (((l.getD i4 0).toNat : Nat) : Int)), (13, .int .u32 ((r4 : Nat) : Int))]) (fun φ8 => []) (fun φ8 => []) s trivial (fun φ8 => by kernel_rfl) ?_
    intro φ8 w8 s
    rw [nat_wrapu32 (a := ((l.getD i4 0).toNat)) (by  have := byte_lt (l.getD i4 0); have hq0 := of_decide_eq_true hc6; omega)]
    refine sem_rule (binOp .xor 59 (.int .u32 ((r4 : Nat) : Int)) (.int .u32 (((l.getD i4 0).toNat : Nat) : Int))) (some 16) (.int .u32 ((bxor 32 r4 ((l.getD i4 0).toNat) : Nat) : Int)) (by kernel_rfl) (run_bit32.1) ?_
    refine ops_rule (C := []) [] [] 1 [] 0 (fun φ9 => [(0, .int .u32 ((bxor 32 r4 ((l.getD i4 0).toNat) : Nat) : Int))]) (fun φ9 => []) (fun φ9 => []) s trivial (fun φ9 => by kernel_rfl) ?_
    intro φ9 w9 s
    refine ops_done (by kernel_rfl) ?_
    refine wp_seq ?_
    refine region_rule ?_
    refine ops_rule (C := []) [] [] 1 [] 0 (fun φ10 => [(17, .int .i64 0)]) (fun φ10 => []) (fun φ10 => []) s trivial (fun φ10 => by kernel_rfl) ?_
    intro φ10 w10 s
    refine ops_done (by kernel_rfl) ?_
    refine wp_block ?_
    rw [bxor32 (a := r4) (b := (l.getD i4 0).toNat) hi4_2 (by have := byte_lt (l.getD i4 0); omega)]
    have hle11 := IM.Le.refl I4
    refine loop_rule (fun (x : Nat × Nat) => [(7, .slice a l.length c), (8, .int .i64 ((l.length : Nat) : Int)), (9, .int .i64 ((i4 : Nat) : Int)), (0, .int .u32 ((x.1 : Nat) : Int)), (17, .int .i64 ((x.2 : Nat) : Int))]) (fun (x : Nat × Nat) => []) (fun m (x : Nat × Nat) J => IM.Le I4 J ∧ x.2 + m = 8 ∧ crcBits (8 - x.2) x.1 = crcBits 8 (r4 ^^^ (l.getD i4 0).toNat) ∧ x.1 < 4294967296) (8) ((r4 ^^^ (l.getD i4 0).toNat), 0) s (by kernel_rfl) List.Sublist.slnil ⟨IM.Le.refl _, rfl, rfl, xor_lt32 hi4_2 (by have := byte_lt (l.getD i4 0); omega)⟩ ?_
    rintro m12 ⟨r12, k12⟩ I12 w12 ev12 s ⟨le12, hi12_0, hi12_1, hi12_2⟩
    try dsimp only at s hi12_0 hi12_1 hi12_2 ⊢
    replace hl := BSl.mono le12 hl
    replace hle3 := leMono le12 hle3
    replace hle11 := leMono le12 hle11
    refine wp_seq ?_
    refine region_rule ?_
    refine ops_rule (C := []) [] [] 1 [] 0 (fun φ13 => [(18, .bool (decide (((k12 : Nat) : Int) < ((8 : Nat) : Int))))]) (fun φ13 => []) (fun φ13 => []) s trivial (fun φ13 => by kernel_rfl) ?_
    intro φ13 w13 s
    rw [nat_lss (a := k12) (b := 8)]
    refine ops_done (by kernel_rfl) ?_
    refine wp_seq ?_
    rcases Bool.eq_false_or_eq_true (decide (k12 < 8)) with hc14 | hc14
    ·
      rw [hc14]
      refine cond_true_rule (b := true) (by kernel_rfl) rfl ?_
      refine wp_skip ?_
      refine wp_seq ?_
      refine wp_block ?_
      refine region_rule ?_
      refine ops_rule (C := []) [] [] 1 [] 0 (fun φ15 => [(19, .int .u32 ((r12 : Nat) : Int))]) (fun φ15 => []) (fun φ15 => []) s trivial (fun φ15 => by kernel_rfl) ?_
      intro φ15 w15 s
      refine sem_rule (binOp .shr 59 (.int .u32 ((r12 : Nat) : Int)) (.int .u64 ((1 : Nat) : Int))) (some 20) (.int .u32 ((r12 / 2 ^ 1 : Nat) : Int)) (by kernel_rfl) (run_shrU (by show _ < 4294967296; have hr8 := hi12_2; have hq0 := of_decide_eq_true hc6; have hq1 := of_decide_eq_true hc14; omega)) ?_
      refine ops_rule (C := []) [] [] 1 [] 0 (fun φ16 => [(21, .int .u32 ((r12 : Nat) : Int))]) (fun φ16 => []) (fun φ16 => []) s trivial (fun φ16 => by kernel_rfl) ?_
      intro φ16 w16 s
      refine sem_rule (binOp .and 59 (.int .u32 ((r12 : Nat) : Int)) (.int .u32 ((1 : Nat) : Int))) (some 22) (.int .u32 ((band 32 r12 1 : Nat) : Int)) (by kernel_rfl) (run_bit32.2.1) ?_
      refine sem_rule (Op.unary .neg (.int .u32 ((band 32 r12 1 : Nat) : Int))) (some 23) (.int .u32 (((4294967296 - (band 32 r12 1)) % 4294967296 : Nat) : Int)) (by kernel_rfl) (run_neg32 (by rw [band_one hi12_2]; omega)) ?_
      refine sem_rule (binOp .and 59 (.int .u32 ((3988292384 : Nat) : Int)) (.int .u32 (((4294967296 - (band 32 r12 1)) % 4294967296 : Nat) : Int))) (some 24) (.int .u32 ((band 32 3988292384 ((4294967296 - (band 32 r12 1)) % 4294967296) : Nat) : Int)) (by kernel_rfl) (run_bit32.2.1) ?_
      refine sem_rule (binOp .xor 59 (.int .u32 ((r12 / 2 ^ 1 : Nat) : Int)) (.int .u32 ((band 32 3988292384 ((4294967296 - (band 32 r12 1)) % 4294967296) : Nat) : Int))) (some 25) (.int .u32 ((bxor 32 (r12 / 2 ^ 1) (band 32 3988292384 ((4294967296 - (band 32 r12 1)) % 4294967296)) : Nat) : Int)) (by kernel_rfl) (run_bit32.1) ?_
      refine ops_rule (C := []) [] [] 1 [] 0 (fun φ17 => [(0, .int .u32 ((bxor 32 (r12 / 2 ^ 1) (band 32 3988292384 ((4294967296 - (band 32 r12 1)) % 4294967296)) : Nat) : Int))]) (fun φ17 => []) (fun φ17 => []) s trivial (fun φ17 => by kernel_rfl) ?_
      intro φ17 w17 s
      refine ops_done (by kernel_rfl) ?_
      refine region_rule ?_
      refine ops_rule (C := []) [] [] 2 [] 0 (fun φ18 => [(17, .int .i64 (IntKind.wrap .i64 (((k12 : Nat) : Int) + ((1 : Nat) : Int)))), (26, .int .i64 (IntKind.wrap .i64 (((k12 : Nat) : Int) + ((1 : Nat) : Int))))]) (fun φ18 => []) (fun φ18 => []) s trivial (fun φ18 => by kernel_rfl) ?_
      intro φ18 w18 s
      rw [nat_addI (a := k12) (b := 1) (by have hr8 := hi12_2; have hq0 := of_decide_eq_true hc6; have hq1 := of_decide_eq_true hc14; omega)]
      refine ops_done (by kernel_rfl) ?_
      rw [step_code hi12_2]
      have hq9 := of_decide_eq_true hc14
      exact ⟨⟨m12 - 1, (crcBit r12, k12 + 1), _, _, _, by omega, rfl, s, List.Sublist.slnil, by kernel_rfl, hle11, by show k12 + 1 + (m12 - 1) = 8; omega, by have e9 := hi12_1; rw [show 8 - k12 = (8 - (k12 + 1)) + 1 by omega, crcBits_succ] at e9; exact e9, crcBit_lt hi12_2⟩⟩
    ·
      rw [hc14]
      refine cond_false_rule (b := false) (by kernel_rfl) rfl ?_
      refine wp_exit ?_
      refine region_rule ?_
      refine ops_rule (C := []) [] [] 2 [] 0 (fun φ19 => [(9, .int .i64 (IntKind.wrap .i64 (((i4 : Nat) : Int) + ((1 : Nat) : Int)))), (27, .int .i64 (IntKind.wrap .i64 (((i4 : Nat) : Int) + ((1 : Nat) : Int))))]) (fun φ19 => []) (fun φ19 => []) s trivial (fun φ19 => by kernel_rfl) ?_
      intro φ19 w19 s
      rw [nat_addI (a := i4) (b := 1) (by  have hq0 := of_decide_eq_true hc6; have hq1 := of_decide_eq_false hc14; omega)]
      refine ops_done (by kernel_rfl) ?_
      have hq9 := of_decide_eq_true hc6
      have hk9 := of_decide_eq_false hc14
      have ey : r12 = crcBits 8 (r4 ^^^ (l.getD i4 0).toNat) := by have e9 := hi12_1; rw [show 8 - k12 = 0 by omega] at e9; exact e9
      exact ⟨⟨m4 - 1, (r12, i4 + 1), _, _, _, by omega, rfl, s, List.Sublist.slnil, by kernel_rfl, hle3, by show i4 + 1 + (m4 - 1) = l.length; omega, (crc_step hq9 ey).trans hi4_1, hi12_2⟩⟩
  ·
    rw [hc6]
    refine cond_false_rule (b := false) (by kernel_rfl) rfl ?_
    refine wp_exit ?_
    refine wp_seq ?_
    refine region_rule ?_
    refine ops_rule (C := []) [] [] 2 [] 0 (fun φ20 => [(4, .int .u32 ((r4 : Nat) : Int)), (28, .int .u32 ((r4 : Nat) : Int))]) (fun φ20 => []) (fun φ20 => []) s trivial (fun φ20 => by kernel_rfl) ?_
    intro φ20 w20 s
    refine ops_done (by kernel_rfl) ?_
    refine wp_ret ?_
    refine ret_rule (C := []) [] [] (.int .u32 ((r4 : Nat) : Int)) [] [] s trivial (by kernel_rfl) ?_
    exact ⟨_, _, _, rfl, s, (by have hq9 := of_decide_eq_false hc6; have e9 := hi4_1; rw [List.drop_of_length_le (by omega)] at e9; rw [← e9]; rfl)⟩

end Go.Proofs.Ytpnlaeapnokipaa
