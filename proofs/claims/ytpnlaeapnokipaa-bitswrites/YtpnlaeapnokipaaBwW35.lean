/- The document's bytes. -/
import Derived.Test.YtpnlaeapnokipaaBwW34
set_option linter.all false
set_option maxRecDepth 100000
namespace Go.Proofs.Ytpnlaeapnokipaa
open Go.RowKit Go.Sep
attribute [local irreducible] Go.wpList Go.Code.wp

theorem rd_byte_lt {l : List UInt8} {p i : Nat} (h : i < 8) : rd l p i * 2 + 1 < 256 := by
  have h1 := rd_lt l p i
  have h2 : 2 ^ i ≤ 2 ^ 7 := Nat.pow_le_pow_right (by decide) (by omega)
  have h3 : (2 : Nat) ^ 7 = 128 := by decide
  omega
theorem nat_mulu8 {a b : Nat} (h : a * b < 256) : IntKind.wrap .u8 ((a : Int) * (b : Int)) = ((a * b : Nat) : Int) := by
  rw [show (a : Int) * (b : Int) = ((a * b : Nat) : Int) from rfl]; exact wrapN8 _ h
theorem bs_bit {bs : List Bool} {j : Nat} (h : ¬ j < bs.length) : bitB (pk bs) j = false := by rw [pk_bit]; simp [List.getD, show bs.length ≤ j by omega]
theorem rd_k8 {l : List UInt8} {p k : Nat} (h : k ≤ 8) : rd l p k < 256 := Nat.lt_of_lt_of_le (rd_lt l p k) (show 2 ^ k ≤ 2 ^ 8 from Nat.pow_le_pow_right (by decide) h)
set_option maxHeartbeats 4000000 in
theorem refBytes_r {I : IM} {bs : List Bool} {a : Option Addr} {m c : Nat} (hl : BoS I bs (.slice a m c)) (hn9 : bs.length ≤ 100000) : FunM Try.prog 23 #[.slice a m c] I [] (fun v J F => RowH 5 1 v (pk bs).length ((pk bs).map bV) F) := by
  obtain ⟨rfl, -⟩ := hl.cap
  refine enterM_rule 40 [(0, .slice a bs.length c)] Try.func23 rfl (by kernel_rfl) ?_
  intro w s
  refine wp_seq ?_
  refine region_rule ?_
  refine ops_rule (C := []) [] [] 1 [] 0 (fun φ1 => [(2, .slice none 0 0)]) (fun φ1 => []) (fun φ1 => []) s trivial (fun φ1 => by kernel_rfl) ?_
  intro φ1 w1 s
  refine ops_done (by kernel_rfl) ?_
  refine wp_seq ?_
  refine region_rule ?_
  refine ops_rule (C := []) [] [] 1 [] 0 (fun φ2 => [(3, .slice none 0 0)]) (fun φ2 => []) (fun φ2 => []) s trivial (fun φ2 => by kernel_rfl) ?_
  intro φ2 w2 s
  refine ops_done (by kernel_rfl) ?_
  refine wp_seq ?_
  refine wp_seq ?_
  refine region_rule ?_
  refine ops_rule (C := []) [] [] 1 [] 0 (fun φ3 => [(4, .int .i64 0)]) (fun φ3 => []) (fun φ3 => []) s trivial (fun φ3 => by kernel_rfl) ?_
  intro φ3 w3 s
  refine ops_done (by kernel_rfl) ?_
  refine wp_block ?_
  have hle4 := IM.Le.refl I
  refine loop_rule (fun (x : Nat × Value × List OB) => [(0, .slice a bs.length c), (2, .slice none 0 0), (4, .int .i64 ((x.1 * 8 : Nat) : Int)), (3, x.2.1)]) (fun (x : Nat × Value × List OB) => [] ++ x.2.2) (fun m (x : Nat × Value × List OB) J => IM.Le I J ∧ bs.length ≤ x.1 * 8 + m ∧ x.1 * 8 ≤ bs.length + 7 ∧ RowH 5 1 x.2.1 ((pk bs).take x.1).length (((pk bs).take x.1).map bV) x.2.2) (bs.length) (0, (.slice none 0 0), []) s (by kernel_rfl) (List.Sublist.refl _) ⟨IM.Le.refl _, by omega, by omega, row_nilB⟩ ?_
  rintro m5 ⟨q5, v5, F5⟩ I5 w5 ev5 s ⟨le5, hi5_0, hi5_1, hi5_2⟩
  try dsimp only at s hi5_0 hi5_1 hi5_2 ⊢
  replace hl := BoS.mono le5 hl
  replace hle4 := leMono le5 hle4
  refine wp_seq ?_
  refine wp_seq ?_
  refine region_rule ?_
  refine ops_rule (C := []) [] F5 4 [] 0 (fun φ6 => [(10, .bool (decide (((q5 * 8 : Nat) : Int) < ((bs.length : Nat) : Int)))), (9, .int .i64 ((bs.length : Nat) : Int)), (8, .slice a bs.length c), (7, .int .i64 ((q5 * 8 : Nat) : Int))]) (fun φ6 => []) (fun φ6 => []) s trivial (fun φ6 => by kernel_rfl) ?_
  intro φ6 w6 s
  rw [nat_lss (a := (q5 * 8)) (b := bs.length)]
  refine ops_done (by kernel_rfl) ?_
  rcases Bool.eq_false_or_eq_true (decide ((q5 * 8) < bs.length)) with hc7 | hc7
  ·
    rw [hc7]
    refine cond_true_rule (b := true) (by kernel_rfl) rfl ?_
    refine wp_skip ?_
    refine wp_seq ?_
    refine wp_block ?_
    refine wp_seq ?_
    refine region_rule ?_
    refine ops_rule (C := []) [] F5 1 [] 0 (fun φ8 => [(5, .int .u8 0)]) (fun φ8 => []) (fun φ8 => []) s trivial (fun φ8 => by kernel_rfl) ?_
    intro φ8 w8 s
    refine ops_done (by kernel_rfl) ?_
    refine wp_seq ?_
    refine wp_seq ?_
    refine region_rule ?_
    refine ops_rule (C := []) [] F5 1 [] 0 (fun φ9 => [(6, .int .i64 0)]) (fun φ9 => []) (fun φ9 => []) s trivial (fun φ9 => by kernel_rfl) ?_
    intro φ9 w9 s
    refine ops_done (by kernel_rfl) ?_
    refine wp_block ?_
    have hle10 := IM.Le.refl I5
    refine loop_rule (fun (x : Nat) => [(0, .slice a bs.length c), (2, .slice none 0 0), (3, v5), (4, .int .i64 ((q5 * 8 : Nat) : Int)), (6, .int .i64 ((x : Nat) : Int)), (5, .int .u8 ((rd (pk bs) (q5 * 8) x : Nat) : Int))]) (fun (x : Nat) => [] ++ F5) (fun m (x : Nat) J => IM.Le I5 J ∧ x + m = 8) (8) 0 s (by kernel_rfl) (List.Sublist.refl _) ⟨IM.Le.refl _, rfl⟩ ?_
    rintro m11 k11 I11 w11 ev11 s ⟨le11, hi11_0⟩
    try dsimp only at s hi11_0 ⊢
    replace hl := BoS.mono le11 hl
    replace hle4 := leMono le11 hle4
    replace hle10 := leMono le11 hle10
    refine wp_seq ?_
    refine wp_seq ?_
    refine region_rule ?_
    refine ops_rule (C := []) [] F5 2 [] 0 (fun φ12 => [(14, .bool (decide (((k11 : Nat) : Int) < ((8 : Nat) : Int)))), (13, .int .i64 ((k11 : Nat) : Int))]) (fun φ12 => []) (fun φ12 => []) s trivial (fun φ12 => by kernel_rfl) ?_
    intro φ12 w12 s
    rw [nat_lss (a := k11) (b := 8)]
    refine ops_done (by kernel_rfl) ?_
    rcases Bool.eq_false_or_eq_true (decide (k11 < 8)) with hc13 | hc13
    ·
      rw [hc13]
      refine cond_true_rule (b := true) (by kernel_rfl) rfl ?_
      refine wp_skip ?_
      refine wp_seq ?_
      refine wp_block ?_
      refine wp_seq ?_
      refine region_rule ?_
      refine ops_rule (C := []) [] F5 3 [] 0 (fun φ14 => [(5, .int .u8 (IntKind.wrap .u8 (((rd (pk bs) (q5 * 8) k11 : Nat) : Int) * ((2 : Nat) : Int)))), (18, .int .u8 (IntKind.wrap .u8 (((rd (pk bs) (q5 * 8) k11 : Nat) : Int) * ((2 : Nat) : Int)))), (17, .int .u8 ((rd (pk bs) (q5 * 8) k11 : Nat) : Int))]) (fun φ14 => []) (fun φ14 => []) s trivial (fun φ14 => by kernel_rfl) ?_
      intro φ14 w14 s
      rw [nat_mulu8 (a := (rd (pk bs) (q5 * 8) k11)) (b := 2) (by have h9 := rd_byte_lt (l := pk bs) (p := q5 * 8) (of_decide_eq_true hc13); omega)]
      refine ops_done (by kernel_rfl) ?_
      refine wp_seq ?_
      refine region_rule ?_
      refine ops_rule (C := []) [] F5 7 [] 0 (fun φ15 => [(25, .bool (decide ((IntKind.wrap .i64 (((q5 * 8 : Nat) : Int) + ((k11 : Nat) : Int))) < ((bs.length : Nat) : Int)))), (24, .bool (decide ((IntKind.wrap .i64 (((q5 * 8 : Nat) : Int) + ((k11 : Nat) : Int))) < ((bs.length : Nat) : Int)))), (23, .int .i64 ((bs.length : Nat) : Int)), (22, .slice a bs.length c), (21, .int .i64 (IntKind.wrap .i64 (((q5 * 8 : Nat) : Int) + ((k11 : Nat) : Int)))), (20, .int .i64 ((k11 : Nat) : Int)), (19, .int .i64 ((q5 * 8 : Nat) : Int))]) (fun φ15 => []) (fun φ15 => []) s trivial (fun φ15 => by kernel_rfl) ?_
      intro φ15 w15 s
      rw [nat_addI (a := (q5 * 8)) (b := k11) (by have hz1 := hi5_1; have hz2 := hi11_0; have hz3 := rd_k8 (l := pk bs) (p := q5 * 8) (k := k11) (by omega);  have hq0 := of_decide_eq_true hc7; have hq1 := of_decide_eq_true hc13; omega)]
      rw [nat_lss (a := ((q5 * 8) + k11)) (b := bs.length)]
      rcases Bool.eq_false_or_eq_true (decide (((q5 * 8) + k11) < bs.length)) with hc16 | hc16
      ·
        rw [hc16]
        refine ops_rule (C := []) [] F5 4 [] 0 (fun φ17 => [(29, .int .i64 (IntKind.wrap .i64 (((q5 * 8 : Nat) : Int) + ((k11 : Nat) : Int)))), (28, .int .i64 ((k11 : Nat) : Int)), (27, .int .i64 ((q5 * 8 : Nat) : Int)), (26, .slice a bs.length c)]) (fun φ17 => []) (fun φ17 => []) s trivial (fun φ17 => by kernel_rfl) ?_
        intro φ17 w17 s
        rw [nat_addI (a := (q5 * 8)) (b := k11) (by have hz1 := hi5_1; have hz2 := hi11_0; have hz3 := rd_k8 (l := pk bs) (p := q5 * 8) (k := k11) (by omega);  have hq0 := of_decide_eq_true hc7; have hq1 := of_decide_eq_true hc13; have hq2 := of_decide_eq_true hc16; omega)]
        refine sem_rule (Instr.indexAt 26 (.slice a bs.length c) (.int .i64 (((q5 * 8) + k11 : Nat) : Int))) (some 30) (.pointer (pAt a ((q5 * 8) + k11))) (by kernel_rfl) (bos_idx hl (by have hz1 := hi5_1; have hz2 := hi11_0; have hz3 := rd_k8 (l := pk bs) (p := q5 * 8) (k := k11) (by omega);  have hq0 := of_decide_eq_true hc7; have hq1 := of_decide_eq_true hc13; have hq2 := of_decide_eq_true hc16; omega)) ?_
        refine sem_rule (Instr.loadAt 4 (.pointer (pAt a ((q5 * 8) + k11)))) (some 31) (.bool (bs.getD ((q5 * 8) + k11) false)) (by kernel_rfl) (bos_ld s.sub hl (by have hz1 := hi5_1; have hz2 := hi11_0; have hz3 := rd_k8 (l := pk bs) (p := q5 * 8) (k := k11) (by omega);  have hq0 := of_decide_eq_true hc7; have hq1 := of_decide_eq_true hc13; have hq2 := of_decide_eq_true hc16; omega)) ?_
        refine ops_rule (C := []) [] F5 1 [] 0 (fun φ18 => [(32, .bool (bs.getD ((q5 * 8) + k11) false))]) (fun φ18 => []) (fun φ18 => []) s trivial (fun φ18 => by kernel_rfl) ?_
        intro φ18 w18 s
        refine ops_done (by kernel_rfl) ?_
        rcases Bool.eq_false_or_eq_true (bs.getD ((q5 * 8) + k11) false) with hc19 | hc19
        ·
          rw [hc19]
          refine cond_true_rule (b := true) (by kernel_rfl) rfl ?_
          refine region_rule ?_
          refine ops_rule (C := []) [] F5 3 [] 0 (fun φ20 => [(5, .int .u8 (IntKind.wrap .u8 ((((rd (pk bs) (q5 * 8) k11) * 2 : Nat) : Int) + ((1 : Nat) : Int)))), (34, .int .u8 (IntKind.wrap .u8 ((((rd (pk bs) (q5 * 8) k11) * 2 : Nat) : Int) + ((1 : Nat) : Int)))), (33, .int .u8 (((rd (pk bs) (q5 * 8) k11) * 2 : Nat) : Int))]) (fun φ20 => []) (fun φ20 => []) s trivial (fun φ20 => by kernel_rfl) ?_
          intro φ20 w20 s
          rw [nat_addu8 (a := ((rd (pk bs) (q5 * 8) k11) * 2)) (b := 1) (by have h9 := rd_byte_lt (l := pk bs) (p := q5 * 8) (of_decide_eq_true hc13); omega)]
          refine ops_done (by kernel_rfl) ?_
          refine region_rule ?_
          refine ops_rule (C := []) [] F5 3 [] 0 (fun φ21 => [(6, .int .i64 (IntKind.wrap .i64 (((k11 : Nat) : Int) + ((1 : Nat) : Int)))), (16, .int .i64 (IntKind.wrap .i64 (((k11 : Nat) : Int) + ((1 : Nat) : Int)))), (15, .int .i64 ((k11 : Nat) : Int))]) (fun φ21 => []) (fun φ21 => []) s trivial (fun φ21 => by kernel_rfl) ?_
          intro φ21 w21 s
          rw [nat_addI (a := k11) (b := 1) (by have hz1 := hi5_1; have hz2 := hi11_0; have hz3 := rd_k8 (l := pk bs) (p := q5 * 8) (k := k11) (by omega);  have hq0 := of_decide_eq_true hc7; have hq1 := of_decide_eq_true hc13; have hq2 := of_decide_eq_true hc16; omega)]
          refine ops_done (by kernel_rfl) ?_
          have hq9 := of_decide_eq_true hc13
          rw [rd_dbl1 (l := pk bs) (p := q5 * 8) (i := k11) ((pk_bit bs (q5 * 8 + k11)).trans hc19)]
          exact ⟨⟨m11 - 1, k11 + 1, _, _, _, by omega, rfl, s, (List.Sublist.append List.Sublist.slnil (List.Sublist.refl _)), by kernel_rfl, hle10, by show k11 + 1 + (m11 - 1) = 8; omega⟩⟩
        ·
          rw [hc19]
          refine cond_false_rule (b := false) (by kernel_rfl) rfl ?_
          refine wp_skip ?_
          refine region_rule ?_
          refine ops_rule (C := []) [] F5 3 [] 0 (fun φ22 => [(6, .int .i64 (IntKind.wrap .i64 (((k11 : Nat) : Int) + ((1 : Nat) : Int)))), (16, .int .i64 (IntKind.wrap .i64 (((k11 : Nat) : Int) + ((1 : Nat) : Int)))), (15, .int .i64 ((k11 : Nat) : Int))]) (fun φ22 => []) (fun φ22 => []) s trivial (fun φ22 => by kernel_rfl) ?_
          intro φ22 w22 s
          rw [nat_addI (a := k11) (b := 1) (by have hz1 := hi5_1; have hz2 := hi11_0; have hz3 := rd_k8 (l := pk bs) (p := q5 * 8) (k := k11) (by omega);  have hq0 := of_decide_eq_true hc7; have hq1 := of_decide_eq_true hc13; have hq2 := of_decide_eq_true hc16; omega)]
          refine ops_done (by kernel_rfl) ?_
          have hq9 := of_decide_eq_true hc13
          rw [rd_dbl (l := pk bs) (p := q5 * 8) (i := k11) ((pk_bit bs (q5 * 8 + k11)).trans hc19)]
          exact ⟨⟨m11 - 1, k11 + 1, _, _, _, by omega, rfl, s, (List.Sublist.append List.Sublist.slnil (List.Sublist.refl _)), by kernel_rfl, hle10, by show k11 + 1 + (m11 - 1) = 8; omega⟩⟩
      ·
        rw [hc16]
        refine ops_rule (C := []) [] F5 7 [] 0 (fun φ23 => [(32, .bool false), (31, undef), (30, undef), (29, undef), (28, undef), (27, undef), (26, undef)]) (fun φ23 => []) (fun φ23 => []) s trivial (fun φ23 => by kernel_rfl) ?_
        intro φ23 w23 s
        refine ops_done (by kernel_rfl) ?_
        refine cond_false_rule (b := false) (by kernel_rfl) rfl ?_
        refine wp_skip ?_
        refine region_rule ?_
        refine ops_rule (C := []) [] F5 3 [] 0 (fun φ24 => [(6, .int .i64 (IntKind.wrap .i64 (((k11 : Nat) : Int) + ((1 : Nat) : Int)))), (16, .int .i64 (IntKind.wrap .i64 (((k11 : Nat) : Int) + ((1 : Nat) : Int)))), (15, .int .i64 ((k11 : Nat) : Int))]) (fun φ24 => []) (fun φ24 => []) s trivial (fun φ24 => by kernel_rfl) ?_
        intro φ24 w24 s
        rw [nat_addI (a := k11) (b := 1) (by have hz1 := hi5_1; have hz2 := hi11_0; have hz3 := rd_k8 (l := pk bs) (p := q5 * 8) (k := k11) (by omega);  have hq0 := of_decide_eq_true hc7; have hq1 := of_decide_eq_true hc13; have hq2 := of_decide_eq_false hc16; omega)]
        refine ops_done (by kernel_rfl) ?_
        have hq9 := of_decide_eq_true hc13
        rw [rd_dbl (l := pk bs) (p := q5 * 8) (i := k11) (bs_bit (of_decide_eq_false hc16))]
        exact ⟨⟨m11 - 1, k11 + 1, _, _, _, by omega, rfl, s, (List.Sublist.append List.Sublist.slnil (List.Sublist.refl _)), by kernel_rfl, hle10, by show k11 + 1 + (m11 - 1) = 8; omega⟩⟩
    ·
      rw [hc13]
      refine cond_false_rule (b := false) (by kernel_rfl) rfl ?_
      refine wp_exit ?_
      refine region_rule ?_
      refine ops_rule (C := []) [] F5 3 [] 1 (fun φ25 => [(37, .slice (some ⟨(φ25 0), 0, none⟩) 1 1), (36, .int .u8 ((rd (pk bs) (q5 * 8) k11 : Nat) : Int)), (35, v5)]) (fun φ25 => [((φ25 0), .cells #[.int .u8 ((rd (pk bs) (q5 * 8) k11 : Nat) : Int)] 5)]) (fun φ25 => []) s trivial (fun φ25 => by kernel_rfl) ?_
      intro φ25 w25 s
      refine append_rule (H := [((φ25 0), .cells #[.int .u8 ((rd (pk bs) (q5 * 8) k11 : Nat) : Int)] 5)]) (F := F5) 34 34 5 Try.t5 (.int .u8 0) 1 1 (some 38) s Try.underlying34 (by kernel_rfl) (by kernel_rfl) (by kernel_rfl) (by kernel_rfl) (by kernel_rfl) (by decide) hi5_2 (src_own (H := [((φ25 0), .cells #[.int .u8 ((rd (pk bs) (q5 * 8) k11 : Nat) : Int)] 5)]) s 0 (φ25 0) #[.int .u8 ((rd (pk bs) (q5 * 8) k11 : Nat) : Int)] 5 34 5 1 1 1 [.int .u8 ((rd (pk bs) (q5 * 8) k11 : Nat) : Int)] (by kernel_rfl) under34 (by kernel_rfl) (by kernel_rfl) (by kernel_rfl)) (by have h9 := List.length_take_le q5 (pk bs); have h8 := pk_len bs; (try simp only [maxLen, List.length_append, List.length_cons, List.length_nil]); omega) (by have h9 := List.length_take_le q5 (pk bs); have h8 := pk_len bs; (try simp only [maxLen, List.length_append, List.length_cons, List.length_nil]); omega) (by kernel_rfl) ?_
      intro v26 w26 F26 s h26
      replace h26 : RowH 5 1 v26 ((((pk bs).take q5) ++ ([UInt8.ofNat (rd (pk bs) (q5 * 8) k11)] : List UInt8)).length) ((((pk bs).take q5) ++ ([UInt8.ofNat (rd (pk bs) (q5 * 8) k11)] : List UInt8)).map bV) F26 := row_snoc (x := ((pk bs).take q5)) (y := ([UInt8.ofNat (rd (pk bs) (q5 * 8) k11)] : List UInt8)) h26 (by simp only [List.map_cons, List.map_nil]; exact cells_bytes1 (by have hz1 := hi5_1; have hz2 := hi11_0; have hz3 := rd_k8 (l := pk bs) (p := q5 * 8) (k := k11) (by omega);  have hq0 := of_decide_eq_true hc7; have hq1 := of_decide_eq_false hc13; omega))
      refine ops_rule (C := []) [((φ25 0), .cells #[.int .u8 ((rd (pk bs) (q5 * 8) k11 : Nat) : Int)] 5)] F26 1 [] 0 (fun φ27 => [(3, v26)]) (fun φ27 => [((φ25 0), .cells #[.int .u8 ((rd (pk bs) (q5 * 8) k11 : Nat) : Int)] 5)]) (fun φ27 => []) s trivial (fun φ27 => by kernel_rfl) ?_
      intro φ27 w27 s
      refine ops_done (by kernel_rfl) ?_
      refine region_rule ?_
      refine ops_rule (C := []) [((φ25 0), .cells #[.int .u8 ((rd (pk bs) (q5 * 8) k11 : Nat) : Int)] 5)] F26 3 [] 0 (fun φ28 => [(4, .int .i64 (IntKind.wrap .i64 (((q5 * 8 : Nat) : Int) + ((8 : Nat) : Int)))), (12, .int .i64 (IntKind.wrap .i64 (((q5 * 8 : Nat) : Int) + ((8 : Nat) : Int)))), (11, .int .i64 ((q5 * 8 : Nat) : Int))]) (fun φ28 => [((φ25 0), .cells #[.int .u8 ((rd (pk bs) (q5 * 8) k11 : Nat) : Int)] 5)]) (fun φ28 => []) s trivial (fun φ28 => by kernel_rfl) ?_
      intro φ28 w28 s
      rw [nat_addI (a := (q5 * 8)) (b := 8) (by have hz1 := hi5_1; have hz2 := hi11_0; have hz3 := rd_k8 (l := pk bs) (p := q5 * 8) (k := k11) (by omega);  have hq0 := of_decide_eq_true hc7; have hq1 := of_decide_eq_false hc13; omega)]
      refine ops_done (by kernel_rfl) ?_
      have hq9 := of_decide_eq_true hc7
      have hk9 := of_decide_eq_false hc13
      have hk8 := hi11_0
      have hpl9 := pk_len bs
      have e9 : ((pk bs).take q5) ++ ([UInt8.ofNat (rd (pk bs) (q5 * 8) k11)] : List UInt8) = ((pk bs).take (q5 + 1)) := (by rw [show k11 = 8 by omega]; exact take_snocU (by omega))
      have hr9 := h26
      rw [e9] at hr9
      rw [show q5 * 8 + 8 = (q5 + 1) * 8 by omega]
      exact ⟨⟨m5 - 1, (q5 + 1, v26, F26), _, _, _, by have h6 := hi5_0; omega, rfl, s, (List.Sublist.append (List.Sublist.cons _ List.Sublist.slnil) (List.Sublist.refl _)), by kernel_rfl, hle4, by have h6 := hi5_0; show bs.length ≤ (q5 + 1) * 8 + (m5 - 1); omega, by show (q5 + 1) * 8 ≤ bs.length + 7; omega, hr9⟩⟩
  ·
    rw [hc7]
    refine cond_false_rule (b := false) (by kernel_rfl) rfl ?_
    refine wp_exit ?_
    refine wp_seq ?_
    refine region_rule ?_
    refine ops_rule (C := []) [] F5 2 [] 0 (fun φ29 => [(2, v5), (39, v5)]) (fun φ29 => []) (fun φ29 => []) s trivial (fun φ29 => by kernel_rfl) ?_
    intro φ29 w29 s
    refine ops_done (by kernel_rfl) ?_
    refine wp_ret ?_
    refine ret_rule (C := []) [] F5 (v5) [] [] s trivial (by kernel_rfl) ?_
    replace s := s.drop (List.sublist_append_right [] F5)
    exact ⟨_, _, _, rfl, s, (by have h9 := of_decide_eq_false hc7; have h8 := pk_len bs; have hr9 := hi5_2; rw [List.take_of_length_le (by omega)] at hr9; exact hr9)⟩

theorem refBytes_c {I : IM} {bs : List Bool} {a : Option Addr} {m c : Nat} (hl : BoS I bs (.slice a m c)) (hn9 : bs.length ≤ 100000) : Fun Try.prog 23 #[.slice a m c] I (fun v J => bsR (pk bs) v J) := fun_of_rowB (refBytes_r hl hn9)

end Go.Proofs.Ytpnlaeapnokipaa
