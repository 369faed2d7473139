/- The bits of bytes. -/
import Derived.Test.YtpnlaeapnokipaaGW31
import Derived.Test.YtpnlaeapnokipaaGC14
import Derived.Test.YtpnlaeapnokipaaGW30
set_option linter.all false
set_option maxRecDepth 100000
namespace Go.Proofs.Ytpnlaeapnokipaa
open Go.RowKit Go.Sep
attribute [local irreducible] Go.wpList Go.Code.wp

theorem wrap8_mul {b : Nat} : IntKind.wrap .u8 (((b : Nat) : Int) * ((2 : Nat) : Int)) = ((b * 2 % 256 : Nat) : Int) := by
  simp only [IntKind.wrap, IntKind.signed, IntKind.bits]
  show (((b : Nat) : Int) * ((2 : Nat) : Int)) % 256 = _
  omega

set_option maxHeartbeats 2000000 in
theorem refBits_r {I : IM} {l : List UInt8} {a : Option Addr} {n c : Nat} (hl : BSl I l (.slice a n c)) (hn9 : l.length ≤ 100000) : FunM Try.prog 31 #[.slice a n c] I [] (fun v J F => RowH 4 1 v (bitsL l).length ((bitsL l).map Value.bool) F) := by
  obtain ⟨rfl, -⟩ := hl.cap
  refine enterM_rule 26 [(0, .slice a l.length c)] Try.func31 rfl (by kernel_rfl) ?_
  intro w s
  refine wp_seq ?_
  refine region_rule ?_
  refine ops_rule (C := []) [] [] 1 [] 0 (fun φ1 => [(2, .slice none 0 0)]) (fun φ1 => []) (fun φ1 => []) s trivial (fun φ1 => by kernel_rfl) ?_
  intro φ1 w1 s
  refine ops_done (by kernel_rfl) ?_
  refine wp_seq ?_
  refine region_rule ?_
  refine ops_rule (C := []) [] [] 1 [] 0 (fun φ2 => [(3, .slice none 0 0)]) (fun φ2 => []) (fun φ2 => []) s trivial (fun φ2 => by kernel_rfl) ?_
  intro φ2 w2 s
  refine ops_done (by kernel_rfl) ?_
  refine wp_seq ?_
  refine wp_seq ?_
  refine region_rule ?_
  refine ops_rule (C := []) [] [] 3 [] 0 (fun φ3 => [(9, .int .i64 0), (8, .int .i64 ((l.length : Nat) : Int)), (7, .slice a l.length c)]) (fun φ3 => []) (fun φ3 => []) s trivial (fun φ3 => by kernel_rfl) ?_
  intro φ3 w3 s
  refine ops_done (by kernel_rfl) ?_
  refine wp_block ?_
  have hle4 := IM.Le.refl I
  refine loop_rule (fun (x : Nat × Value × List OB) => [(7, .slice a l.length c), (8, .int .i64 ((l.length : Nat) : Int)), (9, .int .i64 ((x.1 : Nat) : Int)), (3, x.2.1)]) (fun (x : Nat × Value × List OB) => [] ++ x.2.2) (fun m (x : Nat × Value × List OB) J => IM.Le I J ∧ x.1 + m = l.length ∧ RowH 4 1 x.2.1 ((bitsL l).take (x.1 * 8)).length (((bitsL l).take (x.1 * 8)).map Value.bool) x.2.2) (l.length) (0, (.slice none 0 0), []) s (by kernel_rfl) (List.Sublist.refl _) ⟨IM.Le.refl _, Nat.zero_add _, (by rw [Nat.zero_mul]; exact row_nilBo)⟩ ?_
  rintro m5 ⟨i5, v5, F5⟩ I5 w5 ev5 s ⟨le5, hi5_0, hi5_1⟩
  try dsimp only at s hi5_0 hi5_1 ⊢
  replace hl := BSl.mono le5 hl
  replace hle4 := leMono le5 hle4
  refine wp_seq ?_
  refine region_rule ?_
  refine ops_rule (C := []) [] F5 1 [] 0 (fun φ6 => [(10, .bool (decide (((i5 : Nat) : Int) < ((l.length : Nat) : Int))))]) (fun φ6 => []) (fun φ6 => []) s trivial (fun φ6 => by kernel_rfl) ?_
  intro φ6 w6 s
  rw [nat_lss (a := i5) (b := l.length)]
  refine ops_done (by kernel_rfl) ?_
  refine wp_seq ?_
  rcases Bool.eq_false_or_eq_true (decide (i5 < l.length)) with hc7 | hc7
  ·
    rw [hc7]
    refine cond_true_rule (b := true) (by kernel_rfl) rfl ?_
    refine wp_skip ?_
    refine wp_seq ?_
    refine wp_block ?_
    refine wp_seq ?_
    refine region_rule ?_
    refine sem_rule (Instr.indexAt 34 (.slice a l.length c) (.int .i64 ((i5 : Nat) : Int))) (some 11) (.pointer (pAt a i5)) (by kernel_rfl) (bsl_idx hl (by  have hq0 := of_decide_eq_true hc7; omega)) ?_
    refine sem_rule (Instr.loadAt 5 (.pointer (pAt a i5))) (some 12) (.int .u8 (((l.getD i5 0).toNat : Nat) : Int)) (by kernel_rfl) (bsl_ld s.sub hl (by  have hq0 := of_decide_eq_true hc7; omega)) ?_
    refine ops_rule (C := []) [] F5 1 [] 0 (fun φ8 => [(5, .int .u8 (((l.getD i5 0).toNat : Nat) : Int))]) (fun φ8 => []) (fun φ8 => []) s trivial (fun φ8 => by kernel_rfl) ?_
    intro φ8 w8 s
    refine ops_done (by kernel_rfl) ?_
    refine wp_seq ?_
    refine region_rule ?_
    refine ops_rule (C := []) [] F5 1 [] 0 (fun φ9 => [(6, .int .i64 0)]) (fun φ9 => []) (fun φ9 => []) s trivial (fun φ9 => by kernel_rfl) ?_
    intro φ9 w9 s
    refine ops_done (by kernel_rfl) ?_
    refine wp_block ?_
    have hle10 := IM.Le.refl I5
    refine loop_rule (fun (x : Nat × Nat × Value × List OB) => [(7, .slice a l.length c), (8, .int .i64 ((l.length : Nat) : Int)), (9, .int .i64 ((i5 : Nat) : Int)), (6, .int .i64 ((x.1 : Nat) : Int)), (5, .int .u8 ((x.2.1 : Nat) : Int)), (3, x.2.2.1)]) (fun (x : Nat × Nat × Value × List OB) => [] ++ x.2.2.2) (fun m (x : Nat × Nat × Value × List OB) J => IM.Le I5 J ∧ x.1 + m = 8 ∧ x.2.1 = (l.getD i5 0).toNat * 2 ^ x.1 % 256 ∧ RowH 4 1 x.2.2.1 ((bitsL l).take (i5 * 8 + x.1)).length (((bitsL l).take (i5 * 8 + x.1)).map Value.bool) x.2.2.2) (8) (0, (l.getD i5 0).toNat, v5, F5) s (by kernel_rfl) (List.Sublist.refl _) ⟨IM.Le.refl _, rfl, (by have := byte_lt (l.getD i5 0); show (l.getD i5 0).toNat = (l.getD i5 0).toNat * 2 ^ 0 % 256; rw [Nat.pow_zero, Nat.mul_one, Nat.mod_eq_of_lt this]), hi5_1⟩ ?_
    rintro m11 ⟨k11, b11, v11, F11⟩ I11 w11 ev11 s ⟨le11, hi11_0, hi11_1, hi11_2⟩
    try dsimp only at s hi11_0 hi11_1 hi11_2 ⊢
    replace hl := BSl.mono le11 hl
    replace hle4 := leMono le11 hle4
    replace hle10 := leMono le11 hle10
    refine wp_seq ?_
    refine wp_seq ?_
    refine region_rule ?_
    refine ops_rule (C := []) [] F11 2 [] 0 (fun φ12 => [(14, .bool (decide (((k11 : Nat) : Int) < ((8 : Nat) : Int)))), (13, .int .i64 ((k11 : Nat) : Int))]) (fun φ12 => []) (fun φ12 => []) s trivial (fun φ12 => by kernel_rfl) ?_
    intro φ12 w12 s
    rw [nat_lss (a := k11) (b := 8)]
    refine ops_done (by kernel_rfl) ?_
    rcases Bool.eq_false_or_eq_true (decide (k11 < 8)) with hc13 | hc13
    ·
      rw [hc13]
      refine cond_true_rule (b := true) (by kernel_rfl) rfl ?_
      refine wp_skip ?_
      refine wp_seq ?_
      refine wp_block ?_
      refine wp_seq ?_
      refine region_rule ?_
      refine ops_rule (C := []) [] F11 4 [] 1 (fun φ14 => [(20, .slice (some ⟨(φ14 0), 0, none⟩) 1 1), (19, .bool (decide (((b11 : Nat) : Int) ≥ ((128 : Nat) : Int)))), (18, .int .u8 ((b11 : Nat) : Int)), (17, v11)]) (fun φ14 => [((φ14 0), .cells #[.bool (decide (((b11 : Nat) : Int) ≥ ((128 : Nat) : Int)))] 4)]) (fun φ14 => []) s trivial (fun φ14 => by kernel_rfl) ?_
      intro φ14 w14 s
      rw [nat_geq (a := b11) (b := 128)] at s ⊢
      obtain ⟨I15, le15, hk15, s⟩ := s.freezeAt 0 (φ14 0) (.cells #[.bool (decide (128 ≤ b11))] 4) ([] ++ F11) (by kernel_rfl) (by kernel_rfl)
      replace hl := BSl.mono le15 hl
      replace hle4 := leMono le15 hle4
      replace hle10 := leMono le15 hle10
      refine append_rule (H := []) (F := F11) 26 26 4 Try.t4 (.bool false) 1 1 (some 21) s Try.underlying26 (by kernel_rfl) (by kernel_rfl) (by kernel_rfl) (by kernel_rfl) (by kernel_rfl) (by decide) hi11_2 (src_bos s.sub (bos_one hk15)) (by have hq0 := of_decide_eq_true hc7; have hq1 := of_decide_eq_true hc13; have hln : List.length ((bitsL l).take (i5 * 8 + k11)) ≤ i5 * 8 + k11 := List.length_take_le ..; (try simp only [maxLen, List.length_append, List.length_cons, List.length_nil]); omega) (by have hq0 := of_decide_eq_true hc7; have hq1 := of_decide_eq_true hc13; have hln : List.length ((bitsL l).take (i5 * 8 + k11)) ≤ i5 * 8 + k11 := List.length_take_le ..; (try simp only [maxLen, List.length_append, List.length_cons, List.length_nil]); omega) (by kernel_rfl) ?_
      intro v16 w16 F16 s h16
      replace h16 : RowH 4 1 v16 ((((bitsL l).take (i5 * 8 + k11)) ++ ([decide (128 ≤ b11)] : List Bool)).length) ((((bitsL l).take (i5 * 8 + k11)) ++ ([decide (128 ≤ b11)] : List Bool)).map Value.bool) F16 := row_appB (x := ((bitsL l).take (i5 * 8 + k11))) (y := ([decide (128 ≤ b11)] : List Bool)) h16
      refine ops_rule (C := []) [] F16 1 [] 0 (fun φ17 => [(3, v16)]) (fun φ17 => []) (fun φ17 => []) s trivial (fun φ17 => by kernel_rfl) ?_
      intro φ17 w17 s
      refine ops_done (by kernel_rfl) ?_
      refine region_rule ?_
      refine ops_rule (C := []) [] F16 3 [] 0 (fun φ18 => [(5, .int .u8 (IntKind.wrap .u8 (((b11 : Nat) : Int) * ((2 : Nat) : Int)))), (23, .int .u8 (IntKind.wrap .u8 (((b11 : Nat) : Int) * ((2 : Nat) : Int)))), (22, .int .u8 ((b11 : Nat) : Int))]) (fun φ18 => []) (fun φ18 => []) s trivial (fun φ18 => by kernel_rfl) ?_
      intro φ18 w18 s
      refine ops_done (by kernel_rfl) ?_
      refine region_rule ?_
      refine ops_rule (C := []) [] F16 3 [] 0 (fun φ19 => [(6, .int .i64 (IntKind.wrap .i64 (((k11 : Nat) : Int) + ((1 : Nat) : Int)))), (16, .int .i64 (IntKind.wrap .i64 (((k11 : Nat) : Int) + ((1 : Nat) : Int)))), (15, .int .i64 ((k11 : Nat) : Int))]) (fun φ19 => []) (fun φ19 => []) s trivial (fun φ19 => by kernel_rfl) ?_
      intro φ19 w19 s
      rw [nat_addI (a := k11) (b := 1) (by  have hq0 := of_decide_eq_true hc7; have hq1 := of_decide_eq_true hc13; omega)]
      refine ops_done (by kernel_rfl) ?_
      have hq9 := of_decide_eq_true hc13
      have hi9 := of_decide_eq_true hc7
      have e9 : ((bitsL l).take (i5 * 8 + k11)) ++ ([decide (128 ≤ b11)] : List Bool) = ((bitsL l).take (i5 * 8 + (k11 + 1))) := by rw [hi11_1, top_bitB hq9, bits_snoc (by omega)]; rfl
      rw [wrap8_mul]
      have hr9 := h16
      rw [e9] at hr9
      exact ⟨⟨m11 - 1, (k11 + 1, b11 * 2 % 256, v16, F16), _, _, _, by omega, rfl, s, (List.Sublist.append List.Sublist.slnil (List.Sublist.refl _)), by kernel_rfl, hle10, by show k11 + 1 + (m11 - 1) = 8; omega, by show b11 * 2 % 256 = _; rw [hi11_1, byte_dbl], hr9⟩⟩
    ·
      rw [hc13]
      refine cond_false_rule (b := false) (by kernel_rfl) rfl ?_
      refine wp_exit ?_
      refine region_rule ?_
      refine ops_rule (C := []) [] F11 2 [] 0 (fun φ20 => [(9, .int .i64 (IntKind.wrap .i64 (((i5 : Nat) : Int) + ((1 : Nat) : Int)))), (24, .int .i64 (IntKind.wrap .i64 (((i5 : Nat) : Int) + ((1 : Nat) : Int))))]) (fun φ20 => []) (fun φ20 => []) s trivial (fun φ20 => by kernel_rfl) ?_
      intro φ20 w20 s
      rw [nat_addI (a := i5) (b := 1) (by  have hq0 := of_decide_eq_true hc7; have hq1 := of_decide_eq_false hc13; omega)]
      refine ops_done (by kernel_rfl) ?_
      have hi9 := of_decide_eq_true hc7
      have hk9 := of_decide_eq_false hc13
      have hk8 := hi11_0
      have e9 : ((bitsL l).take (i5 * 8 + k11)) = ((bitsL l).take ((i5 + 1) * 8)) := by rw [show i5 * 8 + k11 = (i5 + 1) * 8 by omega]
      have hr9 := hi11_2
      rw [e9] at hr9
      exact ⟨⟨m5 - 1, (i5 + 1, v11, F11), _, _, _, by omega, rfl, s, (List.Sublist.append List.Sublist.slnil (List.Sublist.refl _)), by kernel_rfl, hle4, by show i5 + 1 + (m5 - 1) = l.length; omega, hr9⟩⟩
  ·
    rw [hc7]
    refine cond_false_rule (b := false) (by kernel_rfl) rfl ?_
    refine wp_exit ?_
    refine wp_seq ?_
    refine region_rule ?_
    refine ops_rule (C := []) [] F5 2 [] 0 (fun φ21 => [(2, v5), (25, v5)]) (fun φ21 => []) (fun φ21 => []) s trivial (fun φ21 => by kernel_rfl) ?_
    intro φ21 w21 s
    refine ops_done (by kernel_rfl) ?_
    refine wp_ret ?_
    refine ret_rule (C := []) [] F5 (v5) [] [] s trivial (by kernel_rfl) ?_
    replace s := s.drop (List.sublist_append_right [] F5)
    exact ⟨_, _, _, rfl, s, (by have hi9 := of_decide_eq_false hc7; have h0 := hi5_0; have hr9 := hi5_1; rw [show i5 * 8 = (bitsL l).length by rw [bitsL_len]; omega, List.take_length] at hr9; exact hr9)⟩

theorem refBits_c {I : IM} {l : List UInt8} {a : Option Addr} {n c : Nat} (hl : BSl I l (.slice a n c)) (hn9 : l.length ≤ 100000) : Fun Try.prog 31 #[.slice a n c] I (fun v J => boR (bitsL l) v J) := fun_of_rowBo (refBits_r hl hn9)

set_option maxHeartbeats 1000000 in
theorem numR_err {I : IM} {l : List UInt8} {a : Option Addr} {n c : Nat} (hl : BSl I l (.slice a n c)) (hn9 : l.length ≤ 1000000) {r p : Nat} {e : Nat} (he : e ≠ 0) : FunM Try.prog 25 #[.pointer (some ⟨r, 0, none⟩)] I [(r, .cells #[.slice a n c, .int .i64 ((p : Nat) : Int), .int .i64 ((e : Nat) : Int)] 99)] (fun v J H' => ∃ b' : OB, H' = [b'] ∧ b'.1 = r ∧ v = .int .u64 0 ∧ b' = (r, .cells #[.slice a n c, .int .i64 ((p : Nat) : Int), .int .i64 ((e : Nat) : Int)] 99)) := by
  obtain ⟨rfl, -⟩ := hl.cap
  refine enterM_rule 49 [(0, .pointer (some ⟨r, 0, none⟩))] Try.func25 rfl (by kernel_rfl) ?_
  intro w s
  refine wp_seq ?_
  refine region_rule ?_
  refine ops_rule (C := []) [(r, .cells #[.slice a l.length c, .int .i64 ((p : Nat) : Int), .int .i64 ((e : Nat) : Int)] 99)] [] 1 [] 0 (fun φ1 => [(2, .int .u64 0)]) (fun φ1 => [(r, .cells #[.slice a l.length c, .int .i64 ((p : Nat) : Int), .int .i64 ((e : Nat) : Int)] 99)]) (fun φ1 => []) s trivial (fun φ1 => by kernel_rfl) ?_
  intro φ1 w1 s
  refine ops_done (by kernel_rfl) ?_
  refine Go.wp_scope_straight ?_
  refine wp_seq ?_
  refine wp_seq ?_
  refine region_rule ?_
  refine ops_rule (C := []) [(r, .cells #[.slice a l.length c, .int .i64 ((p : Nat) : Int), .int .i64 ((e : Nat) : Int)] 99)] [] 1 [] 0 (fun φ2 => [(7, .pointer (some ⟨r, 0, none⟩))]) (fun φ2 => [(r, .cells #[.slice a l.length c, .int .i64 ((p : Nat) : Int), .int .i64 ((e : Nat) : Int)] 99)]) (fun φ2 => []) s trivial (fun φ2 => by kernel_rfl) ?_
  intro φ2 w2 s
  refine callB_rule (b := (r, .cells #[.slice a l.length c, .int .i64 ((p : Nat) : Int), .int .i64 ((e : Nat) : Int)] 99)) (H := [(r, .cells #[.slice a l.length c, .int .i64 ((p : Nat) : Int), .int .i64 ((e : Nat) : Int)] 99)]) (F := []) (Hr := []) (some 8) 0 s (by kernel_rfl) (by kernel_rfl) (err_c (r := r) (v0 := .slice a l.length c) (v1 := .int .i64 ((p : Nat) : Int)) (e := e)) (by kernel_rfl) ?_
  rintro v3 I3 w3 b3 le3 - h3 s
  replace hl := BSl.mono le3 hl
  obtain ⟨rfl, rfl⟩ := h3
  refine ops_rule (C := []) [(r, .cells #[.slice a l.length c, .int .i64 ((p : Nat) : Int), .int .i64 ((e : Nat) : Int)] 99)] [] 1 [] 0 (fun φ4 => [(9, .bool (((e : Nat) : Int) != ((0 : Nat) : Int)))]) (fun φ4 => [(r, .cells #[.slice a l.length c, .int .i64 ((p : Nat) : Int), .int .i64 ((e : Nat) : Int)] 99)]) (fun φ4 => []) s trivial (fun φ4 => by kernel_rfl) ?_
  intro φ4 w4 s
  rw [nat_neq (a := e) (b := 0)]
  refine ops_done (by kernel_rfl) ?_
  rcases Bool.eq_false_or_eq_true (decide (e ≠ 0)) with hc5 | hc5
  ·
    rw [hc5]
    refine cond_true_rule (b := true) (by kernel_rfl) rfl ?_
    refine wp_seq ?_
    refine region_rule ?_
    refine ops_rule (C := []) [(r, .cells #[.slice a l.length c, .int .i64 ((p : Nat) : Int), .int .i64 ((e : Nat) : Int)] 99)] [] 1 [] 0 (fun φ6 => [(2, .int .u64 0)]) (fun φ6 => [(r, .cells #[.slice a l.length c, .int .i64 ((p : Nat) : Int), .int .i64 ((e : Nat) : Int)] 99)]) (fun φ6 => []) s trivial (fun φ6 => by kernel_rfl) ?_
    intro φ6 w6 s
    refine ops_done (by kernel_rfl) ?_
    refine wp_ret ?_
    refine ret_rule (C := []) [(r, .cells #[.slice a l.length c, .int .i64 ((p : Nat) : Int), .int .i64 ((e : Nat) : Int)] 99)] [] (.int .u64 0) [] [] s trivial (by kernel_rfl) ?_
    exact ⟨_, _, _, rfl, s, ⟨_, rfl, rfl, rfl, rfl⟩⟩
  ·
    exact absurd (of_decide_eq_false hc5) (fun q => q he)

set_option maxHeartbeats 400000 in
theorem errZ_c {I : IM} {l : List UInt8} {a : Option Addr} {n c r p e : Nat} (hn9 : l.length ≤ 1000000) (hp : p ≤ l.length * 8) (hr : I r = some (.cells #[.slice a l.length c, .int .i64 ((p : Nat) : Int), .int .i64 ((e : Nat) : Int)] 99)) : Fun Try.prog 27 #[.pointer (some ⟨r, 0, none⟩)] I (fun v J => v = .int .i64 ((e : Nat) : Int)) := by
  refine enter_rule 9 [(0, .pointer (some ⟨r, 0, none⟩))] Try.func27 rfl (by kernel_rfl) ?_
  intro w s
  refine wp_seq ?_
  refine region_rule ?_
  refine ops_rule (C := []) [] [] 1 [] 0 (fun φ1 => [(2, .int .i64 0)]) (fun φ1 => []) (fun φ1 => []) s trivial (fun φ1 => by kernel_rfl) ?_
  intro φ1 w1 s
  refine ops_done (by kernel_rfl) ?_
  refine wp_seq ?_
  refine wp_seq ?_
  refine region_rule ?_
  refine ops_rule (C := []) [] [] 2 [] 0 (fun φ2 => [(4, .bool false), (3, .pointer (some ⟨r, 0, none⟩))]) (fun φ2 => []) (fun φ2 => []) s trivial (fun φ2 => by kernel_rfl) ?_
  intro φ2 w2 s
  refine ops_done (by kernel_rfl) ?_
  refine cond_false_rule (b := false) (by kernel_rfl) rfl ?_
  refine wp_skip ?_
  refine wp_seq ?_
  refine region_rule ?_
  refine ops_rule (C := [(r, .cells #[.slice a l.length c, .int .i64 ((p : Nat) : Int), .int .i64 ((e : Nat) : Int)] 99)]) [] [] 5 [.c 0] 0 (fun φ3 => [(2, .int .i64 ((e : Nat) : Int)), (8, .int .i64 ((e : Nat) : Int)), (7, .pointer (some ⟨r, 2, none⟩)), (6, .pointer (some ⟨r, 0, none⟩)), (5, .pointer (some ⟨r, 0, none⟩))]) (fun φ3 => []) (fun φ3 => [r]) s ⟨hr, trivial⟩ (fun φ3 => by kernel_rfl) ?_
  intro φ3 w3 s
  refine ops_done (by kernel_rfl) ?_
  refine wp_ret ?_
  refine ret_rule (C := []) [] [] (.int .i64 ((e : Nat) : Int)) [] [] s trivial (by kernel_rfl) ?_
  exact ⟨_, _, _, rfl, s, rfl⟩

set_option maxHeartbeats 400000 in
theorem leftZ_c {I : IM} {l : List UInt8} {a : Option Addr} {n c r p e : Nat} (hn9 : l.length ≤ 1000000) (hp : p ≤ l.length * 8) (hr : I r = some (.cells #[.slice a l.length c, .int .i64 ((p : Nat) : Int), .int .i64 ((e : Nat) : Int)] 99)) : Fun Try.prog 28 #[.pointer (some ⟨r, 0, none⟩)] I (fun v J => v = .int .i64 ((l.length * 8 - p : Nat) : Int)) := by
  refine enter_rule 16 [(0, .pointer (some ⟨r, 0, none⟩))] Try.func28 rfl (by kernel_rfl) ?_
  intro w s
  refine wp_seq ?_
  refine region_rule ?_
  refine ops_rule (C := []) [] [] 1 [] 0 (fun φ1 => [(2, .int .i64 0)]) (fun φ1 => []) (fun φ1 => []) s trivial (fun φ1 => by kernel_rfl) ?_
  intro φ1 w1 s
  refine ops_done (by kernel_rfl) ?_
  refine wp_seq ?_
  refine wp_seq ?_
  refine region_rule ?_
  refine ops_rule (C := []) [] [] 2 [] 0 (fun φ2 => [(4, .bool false), (3, .pointer (some ⟨r, 0, none⟩))]) (fun φ2 => []) (fun φ2 => []) s trivial (fun φ2 => by kernel_rfl) ?_
  intro φ2 w2 s
  refine ops_done (by kernel_rfl) ?_
  refine cond_false_rule (b := false) (by kernel_rfl) rfl ?_
  refine wp_skip ?_
  refine wp_seq ?_
  refine draw_rule (C := [(r, .cells #[.slice a l.length c, .int .i64 ((p : Nat) : Int), .int .i64 ((e : Nat) : Int)] 99)]) ⟨(fun φ3 xs3 => [.look 0 [] [], .look 0 [] [], .look 0 [] [], .look 0 [.c 0] [r], .look 0 [] [], .sub 0 [] [] (.int .i64 (IntKind.wrap .i64 (((l.length : Nat) : Int) * ((8 : Nat) : Int)))), .look 0 [] [], .look 0 [] [], .look 0 [] [], .look 0 [.c 0] [r], .sub 0 [] [] (.int .i64 (IntKind.wrap .i64 (((l.length * 8 : Nat) : Int) - ((p : Nat) : Int)))), .look 0 [] []]), (fun φ3 xs3 => [.pointer (some ⟨r, 0, none⟩), .pointer (some ⟨r, 0, none⟩), .pointer (some ⟨r, 0, none⟩), .slice a l.length c, .int .i64 ((l.length : Nat) : Int), .int .i64 ((l.length * 8 : Nat) : Int), .pointer (some ⟨r, 0, none⟩), .pointer (some ⟨r, 0, none⟩), .pointer (some ⟨r, 1, none⟩), .int .i64 ((p : Nat) : Int), .int .i64 (((l.length * 8) - p : Nat) : Int), .int .i64 (((l.length * 8) - p : Nat) : Int)]), (fun φ3 xs3 => [[]]), (fun φ3 xs3 => [[default, default, default, default, default, default, default, default, default, default, default, default]]), [], [1, 1, 1, 1, 1, 5, 1, 1, 1, 1, 5, 1]⟩ (fun j => ([MP.any, MP.any, MP.any, MP.any, MP.any, MP.any, MP.any, MP.any, MP.any, MP.any, MP.any, MP.any] : List MP).getD j MP.any) [] [5, 10] [] (fun φ3 xs3 => []) (fun φ3 xs3 => [(5, .pointer (some ⟨r, 0, none⟩)), (6, .pointer (some ⟨r, 0, none⟩)), (7, .pointer (some ⟨r, 0, none⟩)), (8, .slice a l.length c), (9, .int .i64 ((l.length : Nat) : Int)), (10, .int .i64 ((l.length * 8 : Nat) : Int)), (11, .pointer (some ⟨r, 0, none⟩)), (12, .pointer (some ⟨r, 0, none⟩)), (13, .pointer (some ⟨r, 1, none⟩)), (14, .int .i64 ((p : Nat) : Int)), (15, .int .i64 (((l.length * 8) - p : Nat) : Int)), (2, .int .i64 (((l.length * 8) - p : Nat) : Int))]) (fun φ3 xs3 => []) s ⟨hr, trivial⟩ (by kernel_rfl) (by kernel_rfl) (fun _ _ => by kernel_rfl) (fun _ _ => by kernel_rfl) ⟨fun _ _ => by kernel_rfl, fun _ _ => by kernel_rfl, fun _ _ => by kernel_rfl, fun _ _ => by kernel_rfl⟩ (fun _ _ _ => by kernel_rfl) (fun _ _ => by kernel_rfl) (fun _ _ => by kernel_rfl) (fun _ _ => by kernel_rfl) (fun _ _ => by kernel_rfl) (fun _ _ => by kernel_rfl) ⟨kcast (A := ∀ (φ3 : Nat → Nat) (xs3 : Xs), (.int .i64 (IntKind.wrap .i64 (((l.length : Nat) : Int) * ((8 : Nat) : Int))) : Value) = .int .i64 ((l.length * 8 : Nat) : Int)) (by kernel_rfl) (fun φ3 xs3 => congrArg (Value.int .i64) ((nat_mulI (a := l.length) (b := 8) (by   (try simp only [List.length_drop, List.length_take, List.length_append, List.length_cons, List.length_nil]); omega)))), ⟨kcast (A := ∀ (φ3 : Nat → Nat) (xs3 : Xs), (.int .i64 (IntKind.wrap .i64 (((l.length * 8 : Nat) : Int) - ((p : Nat) : Int))) : Value) = .int .i64 (((l.length * 8) - p : Nat) : Int)) (by kernel_rfl) (fun φ3 xs3 => congrArg (Value.int .i64) ((nat_subI (a := (l.length * 8)) (b := p) (by   (try simp only [List.length_drop, List.length_take, List.length_append, List.length_cons, List.length_nil]); omega) (by   (try simp only [List.length_drop, List.length_take, List.length_append, List.length_cons, List.length_nil]); omega)))), trivial⟩⟩ trivial (by kernel_rfl) trivial ?k3
  case k3 =>
    rintro φ3 xs3 I3 w3 le3 s 
    replace hr := le3 _ _ hr
    refine wp_ret ?_
    refine ret_rule (C := []) [] [] (.int .i64 (((l.length * 8) - p : Nat) : Int)) [] [] s trivial (by kernel_rfl) ?_
    exact ⟨_, _, _, rfl, s, rfl⟩

end Go.Proofs.Ytpnlaeapnokipaa
