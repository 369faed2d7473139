/- share: weights, the law -/
import Derived.Test.YtgdickihjaomjaaSwX10
import Derived.Test.YtgdickihjaomjaaSwM20
import Derived.OpenShut
set_option linter.all false
set_option maxRecDepth 100000
namespace Go.Proofs.Ytgdickihjaomjaa.Ev
open Go.RowKit Go.Sep
attribute [local irreducible] Go.wpList Go.Code.wp
theorem d28 {e : E} (h : e.nf ∧ e.depth ≤ 7 ∧ e.top ≤ 7 + 3 * 7) : e.top ≤ 10000 := by omega
theorem dE16 {e : E} (h : e.nf ∧ e.depth ≤ 7 ∧ e.top ≤ 7 + 3 * 7) : e.depth ≤ 16 := by omega
theorem dW_e8 {e : E} {i : T} (h : e.nf ∧ e.depth ≤ 7 ∧ e.top ≤ 7 + 3 * 7) : (dW 16 e i).1 ≤ 100000000 := by
  have h1 := (dW_le 16 e i).1
  have h2 : e.top * 2 ^ 16 ≤ 28 * 2 ^ 16 := Nat.mul_le_mul_right _ h.2.2
  omega
theorem dWs_53 {e : E} {i j : T} (h : e.nf ∧ e.depth ≤ 7 ∧ e.top ≤ 7 + 3 * 7) : (dW 16 e i).1 + (dW 16 e j).1 < 2 ^ 53 := by have := dW_e8 (i := i) h; have := dW_e8 (i := j) h; omega
theorem dW2_53 {e : E} {i : T} (h : e.nf ∧ e.depth ≤ 7 ∧ e.top ≤ 7 + 3 * 7) : (dW 16 e i).2 * 65536 < 2 ^ 53 := by have := (dW_le 16 e i).2; omega
theorem dWm_53 {e : E} {i j : T} (h : e.nf ∧ e.depth ≤ 7 ∧ e.top ≤ 7 + 3 * 7) : max ((dW 16 e i).2 * 65536) ((dW 16 e j).2 * 65536) < 2 ^ 53 := by have := (dW_le 16 e i).2; have := (dW_le 16 e j).2; omega
theorem rw0_c {e : E} {i : T} {I : IM} {ke ki : Nat} (he : RE I e ke) (hi : RT I i ki) (hde : e.depth ≤ 16) (hdi : i.depth ≤ 16) (ht : e.top ≤ 10000) : Fun Try.prog 24 #[.pointer (some ⟨ke, 0, none⟩), .pointer (some ⟨ki, 0, none⟩), .int .u64 65536] I (fun v J => v = .tuple #[.int .u64 (((dW 16 e i).1 : Nat) : Int), .int .u64 (((dW 16 e i).2 : Nat) : Int)]) :=
  rw_c 16 e i he hi (Nat.le_refl _) hde hdi ht

set_option maxHeartbeats 8000000 in
theorem shareWeights_c {I : IM} {la lb : List UInt8} {va vb : Value} (hla : BSl I la va) (hlb : BSl I lb vb) : Fun Try.prog 5 #[va, vb] I (fun v J => v = .bool true) := by
  have hlb' := hlb
  obtain ⟨qa, qc, rfl, hqc, -⟩ := hlb
  have hlb60 := bsl_take hlb'
  clear hlb'
  refine enter_rule 92 [(0, va), (1, .slice qa lb.length qc)] Try.func5 rfl (by kernel_rfl) ?_
  intro w s
  refine wp_seq ?_
  refine region_rule ?_
  refine ops_rule (C := []) [] [] 1 [] 0 (fun φ1 => [(4, .bool false)]) (fun φ1 => []) (fun φ1 => []) s trivial (fun φ1 => by kernel_rfl) ?_
  intro φ1 w1 s
  refine ops_done (by kernel_rfl) ?_
  refine wp_seq ?_
  refine wp_seq ?_
  refine region_rule ?_
  refine call_rule (some 18) s (awakeS_c) (by kernel_rfl) ?_
  intro v2 I2 w2 le2 h2 s
  replace hla := BSl.mono le2 hla
  replace hlb60 := BSl.mono le2 hlb60
  obtain rfl := h2
  refine ops_rule (C := []) [] [] 1 [] 0 (fun φ3 => [(19, .bool false)]) (fun φ3 => []) (fun φ3 => []) s trivial (fun φ3 => by kernel_rfl) ?_
  intro φ3 w3 s
  refine ops_done (by kernel_rfl) ?_
  refine cond_false_rule (b := false) (by kernel_rfl) rfl ?_
  refine wp_skip ?_
  refine wp_seq ?_
  refine region_rule ?_
  refine ops_rule (C := []) [] [] 1 [] 0 (fun φ4 => [(21, va)]) (fun φ4 => []) (fun φ4 => []) s trivial (fun φ4 => by kernel_rfl) ?_
  intro φ4 w4 s
  refine call_rule (some 22) s (madeI_c hla) (by kernel_rfl) ?_
  intro v5 I5 w5 le5 h5 s
  replace hla := BSl.mono le5 hla
  replace hlb60 := BSl.mono le5 hlb60
  obtain ⟨b5, p5, k5, t5, rfl, h5_0, h5_1, h5_2⟩ := h5
  refine ops_rule (C := []) [] [] 6 [.o 0, .o 0] 1 (fun φ6 => [(6, .pointer (some ⟨k5, 0, none⟩)), (5, .pointer (some ⟨(φ6 0), 0, none⟩)), (24, .pointer (some ⟨k5, 0, none⟩)), (23, .agg #[.bool b5, .pointer p5]), (20, .tuple #[.agg #[.bool b5, .pointer p5], .pointer (some ⟨k5, 0, none⟩)])]) (fun φ6 => [((φ6 0), .cells #[.bool b5, .pointer p5] 26)]) (fun φ6 => [(φ6 0), (φ6 0)]) s trivial (fun φ6 => by kernel_rfl) ?_
  intro φ6 w6 s
  refine ops_done (by kernel_rfl) ?_
  refine wp_seq ?_
  refine region_rule ?_
  refine ops_rule (C := []) [((φ6 0), .cells #[.bool b5, .pointer p5] 26)] [] 4 [] 0 (fun φ7 => [(29, .int .i64 (if ((60 : Nat) : Int) < ((lb.length : Nat) : Int) then ((60 : Nat) : Int) else ((lb.length : Nat) : Int))), (28, .int .i64 ((lb.length : Nat) : Int)), (27, .slice qa lb.length qc), (26, .slice qa lb.length qc)]) (fun φ7 => [((φ6 0), .cells #[.bool b5, .pointer p5] 26)]) (fun φ7 => []) s trivial (fun φ7 => by kernel_rfl) ?_
  intro φ7 w7 s
  rw [nat_min (a := lb.length) (b := 60)]
  refine sem_rule (Instr.sliceAt 22 (.slice qa lb.length qc) none (some (.int .i64 ((min lb.length 60 : Nat) : Int))) none) (some 30) (.slice qa (min lb.length 60) qc) (by kernel_rfl) (run_to (by have := hqc; omega)) ?_
  refine call_rule (some 31) s (makeE_c 7 (by omega) hlb60) (by kernel_rfl) ?_
  intro v8 I8 w8 le8 h8 s
  replace hla := BSl.mono le8 hla
  replace hlb60 := BSl.mono le8 hlb60
  replace h5_1 := TRep.mono le8 h5_1
  replace h5_2 := RT.mono le8 h5_2
  obtain ⟨k8, v8, t8, l8, rfl, h8_0, h8_1, h8_2⟩ := h8
  refine ops_rule (C := []) [((φ6 0), .cells #[.bool b5, .pointer p5] 26)] [] 5 [] 0 (fun φ9 => [(8, v8), (7, .pointer (some ⟨k8, 0, none⟩)), (33, v8), (32, .pointer (some ⟨k8, 0, none⟩)), (25, .tuple #[.pointer (some ⟨k8, 0, none⟩), v8])]) (fun φ9 => [((φ6 0), .cells #[.bool b5, .pointer p5] 26)]) (fun φ9 => []) s trivial (fun φ9 => by kernel_rfl) ?_
  intro φ9 w9 s
  refine ops_done (by kernel_rfl) ?_
  refine wp_seq ?_
  refine region_rule ?_
  refine ops_rule (C := []) [((φ6 0), .cells #[.bool b5, .pointer p5] 26)] [] 1 [] 0 (fun φ10 => [(34, .pointer (some ⟨k8, 0, none⟩))]) (fun φ10 => [((φ6 0), .cells #[.bool b5, .pointer p5] 26)]) (fun φ10 => []) s trivial (fun φ10 => by kernel_rfl) ?_
  intro φ10 w10 s
  refine call_rule (some 35) s (tree_c t8 h8_0.1 (by have := h8_0.2.2; omega) (dE16 h8_0) h8_1) (by kernel_rfl) ?_
  intro v11 I11 w11 le11 h11 s
  replace hla := BSl.mono le11 hla
  replace hlb60 := BSl.mono le11 hlb60
  replace h5_1 := TRep.mono le11 h5_1
  replace h5_2 := RT.mono le11 h5_2
  replace h8_1 := RE.mono le11 h8_1
  replace h8_2 := BSl.mono le11 h8_2
  obtain ⟨b11, p11, rfl, h11_0⟩ := h11
  refine ops_rule (C := []) [((φ6 0), .cells #[.bool b5, .pointer p5] 26)] [] 2 [.o 1, .o 1] 1 (fun φ12 => [(9, .pointer (some ⟨(φ12 0), 0, none⟩))]) (fun φ12 => [((φ6 0), .cells #[.bool b5, .pointer p5] 26), ((φ12 0), .cells #[.int .u64 ((b11 : Nat) : Int), .pointer p11] 57)]) (fun φ12 => [(φ12 0), (φ12 0)]) s trivial (fun φ12 => by kernel_rfl) ?_
  intro φ12 w12 s
  refine ops_done (by kernel_rfl) ?_
  refine wp_seq ?_
  refine region_rule ?_
  refine ops_rule (C := []) [((φ6 0), .cells #[.bool b5, .pointer p5] 26), ((φ12 0), .cells #[.int .u64 ((b11 : Nat) : Int), .pointer p11] 57)] [] 2 [.o 1, .o 1, .o 0, .o 0] 0 (fun φ13 => [(37, .agg #[.bool b5, .pointer p5]), (36, .agg #[.int .u64 ((b11 : Nat) : Int), .pointer p11])]) (fun φ13 => [((φ6 0), .cells #[.bool b5, .pointer p5] 26), ((φ12 0), .cells #[.int .u64 ((b11 : Nat) : Int), .pointer p11] 57)]) (fun φ13 => [(φ12 0), (φ12 0), (φ6 0), (φ6 0)]) s trivial (fun φ13 => by kernel_rfl) ?_
  intro φ13 w13 s
  refine call_rule (some 38) s (weight_c h11_0 h5_1 (h5_0.1) (dE16 h8_0) (dle16 (d8 h5_0)) (d28 h8_0)) (by kernel_rfl) ?_
  intro v14 I14 w14 le14 h14 s
  replace hla := BSl.mono le14 hla
  replace hlb60 := BSl.mono le14 hlb60
  replace h5_1 := TRep.mono le14 h5_1
  replace h5_2 := RT.mono le14 h5_2
  replace h8_1 := RE.mono le14 h8_1
  replace h8_2 := BSl.mono le14 h8_2
  replace h11_0 := ERep.mono le14 h11_0
  obtain rfl := h14
  refine ops_rule (C := []) [((φ6 0), .cells #[.bool b5, .pointer p5] 26), ((φ12 0), .cells #[.int .u64 ((b11 : Nat) : Int), .pointer p11] 57)] [] 1 [] 0 (fun φ15 => [(10, .complex .f64 (dF ((dW 16 t8 t5).1)) (dF ((dW 16 t8 t5).2 * 65536)))]) (fun φ15 => [((φ6 0), .cells #[.bool b5, .pointer p5] 26), ((φ12 0), .cells #[.int .u64 ((b11 : Nat) : Int), .pointer p11] 57)]) (fun φ15 => []) s trivial (fun φ15 => by kernel_rfl) ?_
  intro φ15 w15 s
  refine ops_done (by kernel_rfl) ?_
  refine wp_seq ?_
  refine region_rule ?_
  refine ops_rule (C := []) [((φ6 0), .cells #[.bool b5, .pointer p5] 26), ((φ12 0), .cells #[.int .u64 ((b11 : Nat) : Int), .pointer p11] 57)] [] 2 [] 0 (fun φ16 => [(41, .pointer (some ⟨k5, 0, none⟩)), (40, .pointer (some ⟨k8, 0, none⟩))]) (fun φ16 => [((φ6 0), .cells #[.bool b5, .pointer p5] 26), ((φ12 0), .cells #[.int .u64 ((b11 : Nat) : Int), .pointer p11] 57)]) (fun φ16 => []) s trivial (fun φ16 => by kernel_rfl) ?_
  intro φ16 w16 s
  refine call_rule (some 42) s (rw0_c h8_1 h5_2 (dE16 h8_0) (dle16 (d8 h5_0)) (d28 h8_0)) (by kernel_rfl) ?_
  intro v17 I17 w17 le17 h17 s
  replace hla := BSl.mono le17 hla
  replace hlb60 := BSl.mono le17 hlb60
  replace h5_1 := TRep.mono le17 h5_1
  replace h5_2 := RT.mono le17 h5_2
  replace h8_1 := RE.mono le17 h8_1
  replace h8_2 := BSl.mono le17 h8_2
  replace h11_0 := ERep.mono le17 h11_0
  obtain rfl := h17
  refine ops_rule (C := []) [((φ6 0), .cells #[.bool b5, .pointer p5] 26), ((φ12 0), .cells #[.int .u64 ((b11 : Nat) : Int), .pointer p11] 57)] [] 5 [] 0 (fun φ18 => [(12, .int .u64 (((dW 16 t8 t5).2 : Nat) : Int)), (11, .int .u64 (((dW 16 t8 t5).1 : Nat) : Int)), (44, .int .u64 (((dW 16 t8 t5).2 : Nat) : Int)), (43, .int .u64 (((dW 16 t8 t5).1 : Nat) : Int)), (39, .tuple #[.int .u64 (((dW 16 t8 t5).1 : Nat) : Int), .int .u64 (((dW 16 t8 t5).2 : Nat) : Int)])]) (fun φ18 => [((φ6 0), .cells #[.bool b5, .pointer p5] 26), ((φ12 0), .cells #[.int .u64 ((b11 : Nat) : Int), .pointer p11] 57)]) (fun φ18 => []) s trivial (fun φ18 => by kernel_rfl) ?_
  intro φ18 w18 s
  refine ops_done (by kernel_rfl) ?_
  refine wp_seq ?_
  refine region_rule ?_
  refine ops_rule (C := []) [((φ6 0), .cells #[.bool b5, .pointer p5] 26), ((φ12 0), .cells #[.int .u64 ((b11 : Nat) : Int), .pointer p11] 57)] [] 1 [.o 0, .o 0] 0 (fun φ19 => [(46, .agg #[.bool b5, .pointer p5])]) (fun φ19 => [((φ6 0), .cells #[.bool b5, .pointer p5] 26), ((φ12 0), .cells #[.int .u64 ((b11 : Nat) : Int), .pointer p11] 57)]) (fun φ19 => [(φ6 0), (φ6 0)]) s trivial (fun φ19 => by kernel_rfl) ?_
  intro φ19 w19 s
  refine call_rule (some 47) s (splitOk_c h5_1 (d15 h5_0)) (by kernel_rfl) ?_
  intro v20 I20 w20 le20 h20 s
  replace hla := BSl.mono le20 hla
  replace hlb60 := BSl.mono le20 hlb60
  replace h5_1 := TRep.mono le20 h5_1
  replace h5_2 := RT.mono le20 h5_2
  replace h8_1 := RE.mono le20 h8_1
  replace h8_2 := BSl.mono le20 h8_2
  replace h11_0 := ERep.mono le20 h11_0
  obtain ⟨b20, p20, d20, q20, rfl, h20_0, h20_1⟩ := h20
  refine ops_rule (C := []) [((φ6 0), .cells #[.bool b5, .pointer p5] 26), ((φ12 0), .cells #[.int .u64 ((b11 : Nat) : Int), .pointer p11] 57)] [] 9 [.o 2, .o 2, .o 3, .o 3] 2 (fun φ21 => [(15, .int .i64 0), (14, .pointer (some ⟨(φ21 1), 0, none⟩)), (13, .pointer (some ⟨(φ21 0), 0, none⟩)), (50, .int .i64 0), (49, .agg #[.bool d20, .pointer q20]), (48, .agg #[.bool b20, .pointer p20]), (45, .tuple #[.agg #[.bool b20, .pointer p20], .agg #[.bool d20, .pointer q20], .int .i64 0])]) (fun φ21 => [((φ6 0), .cells #[.bool b5, .pointer p5] 26), ((φ12 0), .cells #[.int .u64 ((b11 : Nat) : Int), .pointer p11] 57), ((φ21 0), .cells #[.bool b20, .pointer p20] 26), ((φ21 1), .cells #[.bool d20, .pointer q20] 26)]) (fun φ21 => [(φ21 0), (φ21 0), (φ21 1), (φ21 1)]) s trivial (fun φ21 => by kernel_rfl) ?_
  intro φ21 w21 s
  refine ops_done (by kernel_rfl) ?_
  refine wp_seq ?_
  refine draw_rule (C := []) ⟨(fun φ22 xs22 => [.look 0 [.o 1, .o 1] [(φ12 0), (φ12 0)], .look 0 [.o 2, .o 2] [(φ21 0), (φ21 0)], .call 23 #[.agg #[.int .u64 ((b11 : Nat) : Int), .pointer p11], .agg #[.bool b20, .pointer p20]], .look 0 [.o 1, .o 1] [(φ12 0), (φ12 0)], .look 0 [.o 3, .o 3] [(φ21 1), (φ21 1)], .call 23 #[.agg #[.int .u64 ((b11 : Nat) : Int), .pointer p11], .agg #[.bool d20, .pointer q20]], .look 0 [] [], .look 0 [] []]), (fun φ22 xs22 => [.agg #[.int .u64 ((b11 : Nat) : Int), .pointer p11], .agg #[.bool b20, .pointer p20], .complex .f64 (dF ((dW 16 t8 (cutT t5).1).1)) (dF ((dW 16 t8 (cutT t5).1).2 * 65536)), .agg #[.int .u64 ((b11 : Nat) : Int), .pointer p11], .agg #[.bool d20, .pointer q20], .complex .f64 (dF ((dW 16 t8 (cutT t5).2).1)) (dF ((dW 16 t8 (cutT t5).2).2 * 65536)), .complex .f64 (dF ((dW 16 t8 (cutT t5).1).1)) (dF ((dW 16 t8 (cutT t5).1).2 * 65536)), .complex .f64 (dF ((dW 16 t8 (cutT t5).2).1)) (dF ((dW 16 t8 (cutT t5).2).2 * 65536))]), (fun φ22 xs22 => [[((φ6 0), .cells #[.bool b5, .pointer p5] 26), ((φ12 0), .cells #[.int .u64 ((b11 : Nat) : Int), .pointer p11] 57), ((φ21 0), .cells #[.bool b20, .pointer p20] 26), ((φ21 1), .cells #[.bool d20, .pointer q20] 26)]]), (fun φ22 xs22 => [[default, default, default, default, default, default, default, default]]), [], [1, 1, 3, 1, 1, 3, 1, 1]⟩ (fun j => ([MP.any, MP.any, MP.any, MP.any, MP.any, MP.any, MP.any, MP.any] : List MP).getD j MP.any) [2, 5] [] [] (fun φ22 xs22 => []) (fun φ22 xs22 => [(51, .agg #[.int .u64 ((b11 : Nat) : Int), .pointer p11]), (52, .agg #[.bool b20, .pointer p20]), (53, .complex .f64 (dF ((dW 16 t8 (cutT t5).1).1)) (dF ((dW 16 t8 (cutT t5).1).2 * 65536))), (54, .agg #[.int .u64 ((b11 : Nat) : Int), .pointer p11]), (55, .agg #[.bool d20, .pointer q20]), (56, .complex .f64 (dF ((dW 16 t8 (cutT t5).2).1)) (dF ((dW 16 t8 (cutT t5).2).2 * 65536))), (16, .complex .f64 (dF ((dW 16 t8 (cutT t5).1).1)) (dF ((dW 16 t8 (cutT t5).1).2 * 65536))), (17, .complex .f64 (dF ((dW 16 t8 (cutT t5).2).1)) (dF ((dW 16 t8 (cutT t5).2).2 * 65536)))]) (fun φ22 xs22 => [((φ6 0), .cells #[.bool b5, .pointer p5] 26), ((φ12 0), .cells #[.int .u64 ((b11 : Nat) : Int), .pointer p11] 57), ((φ21 0), .cells #[.bool b20, .pointer p20] 26), ((φ21 1), .cells #[.bool d20, .pointer q20] 26)]) s trivial (by kernel_rfl) (by kernel_rfl) (fun _ _ => by kernel_rfl) (fun _ _ => by kernel_rfl) ⟨fun _ _ => by kernel_rfl, fun _ _ => by kernel_rfl, fun _ _ => by kernel_rfl, fun _ _ => by kernel_rfl⟩ (fun _ _ _ => by kernel_rfl) (fun _ _ => by kernel_rfl) (fun _ _ => by kernel_rfl) (fun _ _ => by kernel_rfl) (fun _ _ => by kernel_rfl) (fun _ _ => by kernel_rfl) trivial trivial (by kernel_rfl) ⟨?c22_2, ?c22_5, trivial⟩ ?k22
  case c22_2 =>
    refine kcast (A := ∀ (φ22 : Nat → Nat) (xs22 : Xs) (J2_22 : IM), I20.Le J2_22 → Fun Try.prog 23 #[.agg #[.int .u64 ((b11 : Nat) : Int), .pointer p11], .agg #[.bool b20, .pointer p20]] J2_22 (fun v J' => ∃ x : UX, v = .complex .f64 (dF ((dW 16 t8 (cutT t5).1).1)) (dF ((dW 16 t8 (cutT t5).1).2 * 65536)) ∧ (True))) (by kernel_rfl) ?_
    intro φ22 xs22 J2_22 leJ
    have h11_0 := ERep.mono leJ h11_0
    have h20_0 := TRep.mono leJ h20_0
    exact Fun.mono (weight_c h11_0 h20_0 ((T.nf_cut h5_0.1).1) (dE16 h8_0) (dle16 (cut1_d8 h5_0)) (d28 h8_0)) (fun v J' _ h => ⟨UX.d, h, trivial⟩)
  case c22_5 =>
    refine kcast (A := ∀ (φ22 : Nat → Nat) (xs22 : Xs) (J5_22 : IM), I20.Le J5_22 → (True) → Fun Try.prog 23 #[.agg #[.int .u64 ((b11 : Nat) : Int), .pointer p11], .agg #[.bool d20, .pointer q20]] J5_22 (fun v J' => ∃ x : UX, v = .complex .f64 (dF ((dW 16 t8 (cutT t5).2).1)) (dF ((dW 16 t8 (cutT t5).2).2 * 65536)) ∧ (True))) (by kernel_rfl) ?_
    intro φ22 xs22 J5_22 leJ
    rintro _
    have h11_0 := ERep.mono leJ h11_0
    have h20_1 := TRep.mono leJ h20_1
    exact Fun.mono (weight_c h11_0 h20_1 ((T.nf_cut h5_0.1).2) (dE16 h8_0) (dle16 (cut2_d8 h5_0)) (d28 h8_0)) (fun v J' _ h => ⟨UX.d, h, trivial⟩)
  case k22 =>
    rintro φ22 xs22 I22 w22 le22 s _ _
    replace hla := BSl.mono le22 hla
    replace hlb60 := BSl.mono le22 hlb60
    replace h5_1 := TRep.mono le22 h5_1
    replace h5_2 := RT.mono le22 h5_2
    replace h8_1 := RE.mono le22 h8_1
    replace h8_2 := BSl.mono le22 h8_2
    replace h11_0 := ERep.mono le22 h11_0
    replace h20_0 := TRep.mono le22 h20_0
    replace h20_1 := TRep.mono le22 h20_1
    refine wp_seq ?_
    refine region_rule ?_
    refine ops_rule (C := []) [((φ6 0), .cells #[.bool b5, .pointer p5] 26), ((φ12 0), .cells #[.int .u64 ((b11 : Nat) : Int), .pointer p11] 57), ((φ21 0), .cells #[.bool b20, .pointer p20] 26), ((φ21 1), .cells #[.bool d20, .pointer q20] 26)] [] 1 [] 0 (fun φ23 => [(57, .complex .f64 (dF ((dW 16 t8 t5).1)) (dF ((dW 16 t8 t5).2 * 65536)))]) (fun φ23 => [((φ6 0), .cells #[.bool b5, .pointer p5] 26), ((φ12 0), .cells #[.int .u64 ((b11 : Nat) : Int), .pointer p11] 57), ((φ21 0), .cells #[.bool b20, .pointer p20] 26), ((φ21 1), .cells #[.bool d20, .pointer q20] 26)]) (fun φ23 => []) s trivial (fun φ23 => by kernel_rfl) ?_
    intro φ23 w23 s
    refine sem_rule (Builtin.real_ #[35] 37 #[.complex .f64 (dF ((dW 16 t8 t5).1)) (dF ((dW 16 t8 t5).2 * 65536))]) (some 58) (.float .f64 (dF ((dW 16 t8 t5).1))) (by kernel_rfl) ((by kernel_rfl : ((Builtin.real_ #[35] 37 #[.complex .f64 (dF ((dW 16 t8 t5).1)) (dF ((dW 16 t8 t5).2 * 65536))]) : Sem Value).run Try.prog w23 = .ok (.float .f64 (dF ((dW 16 t8 t5).1))) w23)) ?_
    refine ops_rule (C := []) [((φ6 0), .cells #[.bool b5, .pointer p5] 26), ((φ12 0), .cells #[.int .u64 ((b11 : Nat) : Int), .pointer p11] 57), ((φ21 0), .cells #[.bool b20, .pointer p20] 26), ((φ21 1), .cells #[.bool d20, .pointer q20] 26)] [] 1 [] 0 (fun φ24 => [(59, .int .u64 (((dW 16 t8 t5).1 : Nat) : Int))]) (fun φ24 => [((φ6 0), .cells #[.bool b5, .pointer p5] 26), ((φ12 0), .cells #[.int .u64 ((b11 : Nat) : Int), .pointer p11] 57), ((φ21 0), .cells #[.bool b20, .pointer p20] 26), ((φ21 1), .cells #[.bool d20, .pointer q20] 26)]) (fun φ24 => []) s trivial (fun φ24 => by kernel_rfl) ?_
    intro φ24 w24 s
    refine call_rule (some 60) s (is_c (n := (dW 16 t8 t5).1) (dW_e8 h8_0)) (by kernel_rfl) ?_
    intro v25 I25 w25 le25 h25 s
    replace hla := BSl.mono le25 hla
    replace hlb60 := BSl.mono le25 hlb60
    replace h5_1 := TRep.mono le25 h5_1
    replace h5_2 := RT.mono le25 h5_2
    replace h8_1 := RE.mono le25 h8_1
    replace h8_2 := BSl.mono le25 h8_2
    replace h11_0 := ERep.mono le25 h11_0
    replace h20_0 := TRep.mono le25 h20_0
    replace h20_1 := TRep.mono le25 h20_1
    obtain rfl := h25
    refine ops_rule (C := []) [((φ6 0), .cells #[.bool b5, .pointer p5] 26), ((φ12 0), .cells #[.int .u64 ((b11 : Nat) : Int), .pointer p11] 57), ((φ21 0), .cells #[.bool b20, .pointer p20] 26), ((φ21 1), .cells #[.bool d20, .pointer q20] 26)] [] 2 [] 0 (fun φ26 => [(62, .complex .f64 (dF ((dW 16 t8 t5).1)) (dF ((dW 16 t8 t5).2 * 65536))), (61, .bool true)]) (fun φ26 => [((φ6 0), .cells #[.bool b5, .pointer p5] 26), ((φ12 0), .cells #[.int .u64 ((b11 : Nat) : Int), .pointer p11] 57), ((φ21 0), .cells #[.bool b20, .pointer p20] 26), ((φ21 1), .cells #[.bool d20, .pointer q20] 26)]) (fun φ26 => []) s trivial (fun φ26 => by kernel_rfl) ?_
    intro φ26 w26 s
    refine sem_rule (Builtin.imag_ #[35] 37 #[.complex .f64 (dF ((dW 16 t8 t5).1)) (dF ((dW 16 t8 t5).2 * 65536))]) (some 63) (.float .f64 (dF ((dW 16 t8 t5).2 * 65536))) (by kernel_rfl) ((by kernel_rfl : ((Builtin.imag_ #[35] 37 #[.complex .f64 (dF ((dW 16 t8 t5).1)) (dF ((dW 16 t8 t5).2 * 65536))]) : Sem Value).run Try.prog w26 = .ok (.float .f64 (dF ((dW 16 t8 t5).2 * 65536))) w26)) ?_
    refine ops_rule (C := []) [((φ6 0), .cells #[.bool b5, .pointer p5] 26), ((φ12 0), .cells #[.int .u64 ((b11 : Nat) : Int), .pointer p11] 57), ((φ21 0), .cells #[.bool b20, .pointer p20] 26), ((φ21 1), .cells #[.bool d20, .pointer q20] 26)] [] 1 [] 0 (fun φ27 => [(64, .int .u64 (((dW 16 t8 t5).2 : Nat) : Int))]) (fun φ27 => [((φ6 0), .cells #[.bool b5, .pointer p5] 26), ((φ12 0), .cells #[.int .u64 ((b11 : Nat) : Int), .pointer p11] 57), ((φ21 0), .cells #[.bool b20, .pointer p20] 26), ((φ21 1), .cells #[.bool d20, .pointer q20] 26)]) (fun φ27 => []) s trivial (fun φ27 => by kernel_rfl) ?_
    intro φ27 w27 s
    refine sem_rule (convert 34 37 (.int .u64 (((dW 16 t8 t5).2 : Nat) : Int))) (some 65) (.float .f64 (dF ((dW 16 t8 t5).2 * 65536))) (by kernel_rfl) ((run_wholeF34 (dW2_53 h8_0))) ?_
    refine sem_rule (binOp .eql 37 (.float .f64 (dF ((dW 16 t8 t5).2 * 65536))) (.float .f64 (dF ((dW 16 t8 t5).2 * 65536)))) (some 66) (.bool true) (by kernel_rfl) (run_eqF2 (dW2_53 h8_0) rfl) ?_
    refine ops_rule (C := []) [((φ6 0), .cells #[.bool b5, .pointer p5] 26), ((φ12 0), .cells #[.int .u64 ((b11 : Nat) : Int), .pointer p11] 57), ((φ21 0), .cells #[.bool b20, .pointer p20] 26), ((φ21 1), .cells #[.bool d20, .pointer q20] 26)] [] 7 [] 0 (fun φ28 => [(73, .complex .f64 (dF ((dW 16 t8 (cutT t5).1).1)) (dF ((dW 16 t8 (cutT t5).1).2 * 65536))), (72, .bool true), (71, .bool true), (70, .bool true), (69, .int .i64 0), (68, .bool true), (67, .bool true)]) (fun φ28 => [((φ6 0), .cells #[.bool b5, .pointer p5] 26), ((φ12 0), .cells #[.int .u64 ((b11 : Nat) : Int), .pointer p11] 57), ((φ21 0), .cells #[.bool b20, .pointer p20] 26), ((φ21 1), .cells #[.bool d20, .pointer q20] 26)]) (fun φ28 => []) s trivial (fun φ28 => by kernel_rfl) ?_
    intro φ28 w28 s
    refine sem_rule (Builtin.real_ #[35] 37 #[.complex .f64 (dF ((dW 16 t8 (cutT t5).1).1)) (dF ((dW 16 t8 (cutT t5).1).2 * 65536))]) (some 74) (.float .f64 (dF ((dW 16 t8 (cutT t5).1).1))) (by kernel_rfl) ((by kernel_rfl : ((Builtin.real_ #[35] 37 #[.complex .f64 (dF ((dW 16 t8 (cutT t5).1).1)) (dF ((dW 16 t8 (cutT t5).1).2 * 65536))]) : Sem Value).run Try.prog w28 = .ok (.float .f64 (dF ((dW 16 t8 (cutT t5).1).1))) w28)) ?_
    refine ops_rule (C := []) [((φ6 0), .cells #[.bool b5, .pointer p5] 26), ((φ12 0), .cells #[.int .u64 ((b11 : Nat) : Int), .pointer p11] 57), ((φ21 0), .cells #[.bool b20, .pointer p20] 26), ((φ21 1), .cells #[.bool d20, .pointer q20] 26)] [] 1 [] 0 (fun φ29 => [(75, .complex .f64 (dF ((dW 16 t8 (cutT t5).2).1)) (dF ((dW 16 t8 (cutT t5).2).2 * 65536)))]) (fun φ29 => [((φ6 0), .cells #[.bool b5, .pointer p5] 26), ((φ12 0), .cells #[.int .u64 ((b11 : Nat) : Int), .pointer p11] 57), ((φ21 0), .cells #[.bool b20, .pointer p20] 26), ((φ21 1), .cells #[.bool d20, .pointer q20] 26)]) (fun φ29 => []) s trivial (fun φ29 => by kernel_rfl) ?_
    intro φ29 w29 s
    refine sem_rule (Builtin.real_ #[35] 37 #[.complex .f64 (dF ((dW 16 t8 (cutT t5).2).1)) (dF ((dW 16 t8 (cutT t5).2).2 * 65536))]) (some 76) (.float .f64 (dF ((dW 16 t8 (cutT t5).2).1))) (by kernel_rfl) ((by kernel_rfl : ((Builtin.real_ #[35] 37 #[.complex .f64 (dF ((dW 16 t8 (cutT t5).2).1)) (dF ((dW 16 t8 (cutT t5).2).2 * 65536))]) : Sem Value).run Try.prog w29 = .ok (.float .f64 (dF ((dW 16 t8 (cutT t5).2).1))) w29)) ?_
    refine sem_rule (binOp .add 37 (.float .f64 (dF ((dW 16 t8 (cutT t5).1).1))) (.float .f64 (dF ((dW 16 t8 (cutT t5).2).1)))) (some 77) (.float .f64 (dF (((dW 16 t8 (cutT t5).1).1) + ((dW 16 t8 (cutT t5).2).1)))) (by kernel_rfl) (run_addF (dWs_53 h8_0)) ?_
    refine ops_rule (C := []) [((φ6 0), .cells #[.bool b5, .pointer p5] 26), ((φ12 0), .cells #[.int .u64 ((b11 : Nat) : Int), .pointer p11] 57), ((φ21 0), .cells #[.bool b20, .pointer p20] 26), ((φ21 1), .cells #[.bool d20, .pointer q20] 26)] [] 1 [] 0 (fun φ30 => [(78, .complex .f64 (dF ((dW 16 t8 t5).1)) (dF ((dW 16 t8 t5).2 * 65536)))]) (fun φ30 => [((φ6 0), .cells #[.bool b5, .pointer p5] 26), ((φ12 0), .cells #[.int .u64 ((b11 : Nat) : Int), .pointer p11] 57), ((φ21 0), .cells #[.bool b20, .pointer p20] 26), ((φ21 1), .cells #[.bool d20, .pointer q20] 26)]) (fun φ30 => []) s trivial (fun φ30 => by kernel_rfl) ?_
    intro φ30 w30 s
    refine sem_rule (Builtin.real_ #[35] 37 #[.complex .f64 (dF ((dW 16 t8 t5).1)) (dF ((dW 16 t8 t5).2 * 65536))]) (some 79) (.float .f64 (dF ((dW 16 t8 t5).1))) (by kernel_rfl) ((by kernel_rfl : ((Builtin.real_ #[35] 37 #[.complex .f64 (dF ((dW 16 t8 t5).1)) (dF ((dW 16 t8 t5).2 * 65536))]) : Sem Value).run Try.prog w30 = .ok (.float .f64 (dF ((dW 16 t8 t5).1))) w30)) ?_
    refine sem_rule (binOp .eql 37 (.float .f64 (dF (((dW 16 t8 (cutT t5).1).1) + ((dW 16 t8 (cutT t5).2).1)))) (.float .f64 (dF ((dW 16 t8 t5).1)))) (some 80) (.bool true) (by kernel_rfl) (run_eqF2 (dWs_53 h8_0) (dW_cut (d17 h5_0) h5_0.1).1) ?_
    refine ops_rule (C := []) [((φ6 0), .cells #[.bool b5, .pointer p5] 26), ((φ12 0), .cells #[.int .u64 ((b11 : Nat) : Int), .pointer p11] 57), ((φ21 0), .cells #[.bool b20, .pointer p20] 26), ((φ21 1), .cells #[.bool d20, .pointer q20] 26)] [] 3 [] 0 (fun φ31 => [(83, .complex .f64 (dF ((dW 16 t8 (cutT t5).1).1)) (dF ((dW 16 t8 (cutT t5).1).2 * 65536))), (82, .bool true), (81, .bool true)]) (fun φ31 => [((φ6 0), .cells #[.bool b5, .pointer p5] 26), ((φ12 0), .cells #[.int .u64 ((b11 : Nat) : Int), .pointer p11] 57), ((φ21 0), .cells #[.bool b20, .pointer p20] 26), ((φ21 1), .cells #[.bool d20, .pointer q20] 26)]) (fun φ31 => []) s trivial (fun φ31 => by kernel_rfl) ?_
    intro φ31 w31 s
    refine sem_rule (Builtin.imag_ #[35] 37 #[.complex .f64 (dF ((dW 16 t8 (cutT t5).1).1)) (dF ((dW 16 t8 (cutT t5).1).2 * 65536))]) (some 84) (.float .f64 (dF ((dW 16 t8 (cutT t5).1).2 * 65536))) (by kernel_rfl) ((by kernel_rfl : ((Builtin.imag_ #[35] 37 #[.complex .f64 (dF ((dW 16 t8 (cutT t5).1).1)) (dF ((dW 16 t8 (cutT t5).1).2 * 65536))]) : Sem Value).run Try.prog w31 = .ok (.float .f64 (dF ((dW 16 t8 (cutT t5).1).2 * 65536))) w31)) ?_
    refine ops_rule (C := []) [((φ6 0), .cells #[.bool b5, .pointer p5] 26), ((φ12 0), .cells #[.int .u64 ((b11 : Nat) : Int), .pointer p11] 57), ((φ21 0), .cells #[.bool b20, .pointer p20] 26), ((φ21 1), .cells #[.bool d20, .pointer q20] 26)] [] 1 [] 0 (fun φ32 => [(85, .complex .f64 (dF ((dW 16 t8 (cutT t5).2).1)) (dF ((dW 16 t8 (cutT t5).2).2 * 65536)))]) (fun φ32 => [((φ6 0), .cells #[.bool b5, .pointer p5] 26), ((φ12 0), .cells #[.int .u64 ((b11 : Nat) : Int), .pointer p11] 57), ((φ21 0), .cells #[.bool b20, .pointer p20] 26), ((φ21 1), .cells #[.bool d20, .pointer q20] 26)]) (fun φ32 => []) s trivial (fun φ32 => by kernel_rfl) ?_
    intro φ32 w32 s
    refine sem_rule (Builtin.imag_ #[35] 37 #[.complex .f64 (dF ((dW 16 t8 (cutT t5).2).1)) (dF ((dW 16 t8 (cutT t5).2).2 * 65536))]) (some 86) (.float .f64 (dF ((dW 16 t8 (cutT t5).2).2 * 65536))) (by kernel_rfl) ((by kernel_rfl : ((Builtin.imag_ #[35] 37 #[.complex .f64 (dF ((dW 16 t8 (cutT t5).2).1)) (dF ((dW 16 t8 (cutT t5).2).2 * 65536))]) : Sem Value).run Try.prog w32 = .ok (.float .f64 (dF ((dW 16 t8 (cutT t5).2).2 * 65536))) w32)) ?_
    refine sem_rule (Builtin.max_ #[37, 37] 37 #[.float .f64 (dF ((dW 16 t8 (cutT t5).1).2 * 65536)), .float .f64 (dF ((dW 16 t8 (cutT t5).2).2 * 65536))]) (some 87) (.float .f64 (dF (max ((dW 16 t8 (cutT t5).1).2 * 65536) ((dW 16 t8 (cutT t5).2).2 * 65536)))) (by kernel_rfl) (run_maxF (dW2_53 h8_0) (dW2_53 h8_0)) ?_
    refine ops_rule (C := []) [((φ6 0), .cells #[.bool b5, .pointer p5] 26), ((φ12 0), .cells #[.int .u64 ((b11 : Nat) : Int), .pointer p11] 57), ((φ21 0), .cells #[.bool b20, .pointer p20] 26), ((φ21 1), .cells #[.bool d20, .pointer q20] 26)] [] 1 [] 0 (fun φ33 => [(88, .complex .f64 (dF ((dW 16 t8 t5).1)) (dF ((dW 16 t8 t5).2 * 65536)))]) (fun φ33 => [((φ6 0), .cells #[.bool b5, .pointer p5] 26), ((φ12 0), .cells #[.int .u64 ((b11 : Nat) : Int), .pointer p11] 57), ((φ21 0), .cells #[.bool b20, .pointer p20] 26), ((φ21 1), .cells #[.bool d20, .pointer q20] 26)]) (fun φ33 => []) s trivial (fun φ33 => by kernel_rfl) ?_
    intro φ33 w33 s
    refine sem_rule (Builtin.imag_ #[35] 37 #[.complex .f64 (dF ((dW 16 t8 t5).1)) (dF ((dW 16 t8 t5).2 * 65536))]) (some 89) (.float .f64 (dF ((dW 16 t8 t5).2 * 65536))) (by kernel_rfl) ((by kernel_rfl : ((Builtin.imag_ #[35] 37 #[.complex .f64 (dF ((dW 16 t8 t5).1)) (dF ((dW 16 t8 t5).2 * 65536))]) : Sem Value).run Try.prog w33 = .ok (.float .f64 (dF ((dW 16 t8 t5).2 * 65536))) w33)) ?_
    refine sem_rule (binOp .eql 37 (.float .f64 (dF (max ((dW 16 t8 (cutT t5).1).2 * 65536) ((dW 16 t8 (cutT t5).2).2 * 65536)))) (.float .f64 (dF ((dW 16 t8 t5).2 * 65536)))) (some 90) (.bool true) (by kernel_rfl) (run_eqF2 (dWm_53 h8_0) (by rw [max_parts, (dW_cut (d17 h5_0) h5_0.1).2])) ?_
    refine ops_rule (C := []) [((φ6 0), .cells #[.bool b5, .pointer p5] 26), ((φ12 0), .cells #[.int .u64 ((b11 : Nat) : Int), .pointer p11] 57), ((φ21 0), .cells #[.bool b20, .pointer p20] 26), ((φ21 1), .cells #[.bool d20, .pointer q20] 26)] [] 2 [] 0 (fun φ34 => [(4, .bool true), (91, .bool true)]) (fun φ34 => [((φ6 0), .cells #[.bool b5, .pointer p5] 26), ((φ12 0), .cells #[.int .u64 ((b11 : Nat) : Int), .pointer p11] 57), ((φ21 0), .cells #[.bool b20, .pointer p20] 26), ((φ21 1), .cells #[.bool d20, .pointer q20] 26)]) (fun φ34 => []) s trivial (fun φ34 => by kernel_rfl) ?_
    intro φ34 w34 s
    refine ops_done (by kernel_rfl) ?_
    refine wp_ret ?_
    refine ret_rule (C := []) [((φ6 0), .cells #[.bool b5, .pointer p5] 26), ((φ12 0), .cells #[.int .u64 ((b11 : Nat) : Int), .pointer p11] 57), ((φ21 0), .cells #[.bool b20, .pointer p20] 26), ((φ21 1), .cells #[.bool d20, .pointer q20] 26)] [] (.bool true) [] [] s trivial (by kernel_rfl) ?_
    exact ⟨_, _, _, rfl, s, rfl⟩

end Go.Proofs.Ytgdickihjaomjaa.Ev
/- A slice of bytes that came in, as the contracts want it. -/
set_option linter.all false
namespace Go.Proofs.Ytgdickihjaomjaa.Ev
open Go.RowKit Go.Sep

theorem u8_nat {z : Int} (h : (Lit.int .u8 z).wf = true) : z = (((UInt8.ofNat z.toNat).toNat : Nat) : Int) := by
  have hb : 0 ≤ z ∧ z < 256 := by
    have := h; simp [Lit.wf, IntKind.min, IntKind.max, IntKind.signed, IntKind.bits] at this; omega
  rw [UInt8.toNat_ofNat']
  omega
theorem cell_block {w : World} {b o : Nat} {v : Value} (h : w.cell? ⟨b, o, none⟩ = some v) : ∃ cs T fr, w.heap[b]? = some (.cells cs T fr) ∧ cs[o]? = some v := by
  unfold World.cell? at h
  cases hb : w.heap[b]? with
  | none => simp [hb] at h
  | some ob =>
    cases ob <;> simp [hb] at h
    exact ⟨_, _, _, rfl, h⟩
theorem bslI_row {w : World} {a : Option Addr} {len cap : Nat} {zs : List Int}
    (h : (a = none ∧ len = 0 ∧ cap = 0 ∧ zs = []) ∨ ∃ x, a = some x ∧ len ≤ cap ∧ cap ≤ maxLen ∧ zs.length = cap ∧ (∀ i, i < zs.length → w.cell? (x.add i) = some (.int .u8 (zs.getD i 0))) ∧ ∀ n ∈ zs, (Lit.int .u8 n).wf = true) :
    ∃ l, BSl (fun k => w.heap[k]?) l (.slice a len cap) := by
  rcases h with ⟨rfl, rfl, rfl, rfl⟩ | ⟨x, rfl, hl, hm, hz, hc, hw⟩
  · exact ⟨[], bsl_nil _⟩
  · refine ⟨(zs.take len).map fun z => UInt8.ofNat z.toNat, some x, cap, by rw [List.length_map, List.length_take, Nat.min_eq_left (show len ≤ zs.length by omega)], by rw [List.length_map, List.length_take]; omega, fun j y hj => ?_⟩
    rw [List.getElem?_map, Option.map_eq_some_iff] at hj
    obtain ⟨z, hz1, rfl⟩ := hj
    rw [List.getElem?_take] at hz1
    split at hz1
    · have hjl : j < zs.length := (List.getElem?_eq_some_iff.1 hz1).1
      have h1 := hc j hjl
      have h2 : zs.getD j 0 = z := by simp [hz1]
      rw [h2] at h1
      obtain ⟨b, o, sp⟩ := x
      cases sp with
      | none =>
        have : (⟨b, o, none⟩ : Addr).add j = ⟨b, o + j, none⟩ := by unfold Addr.add; split <;> simp_all
        rw [this] at h1
        obtain ⟨cs, T, fr, e1, e2⟩ := cell_block h1
        refine ⟨b, o, cs, T, fr, rfl, e1, ?_⟩
        rw [← u8_nat (hw z (List.mem_of_getElem? hz1))]; exact e2
      | some sp =>
        exfalso
        have h0 := hc 0 (by omega)
        unfold World.cell? Addr.add at h0
        rw [if_pos rfl] at h0
        revert h0
        split <;> simp
    · cases hz1
end Go.Proofs.Ytgdickihjaomjaa.Ev
