/- ShareTurns, but for awake -/
import Derived.Test.YtgdickihjaomjaaTuV2
set_option linter.all false
set_option maxRecDepth 100000
namespace Go.Proofs.Ytgdickihjaomjaa
open Go.RowKit Go.Sep
attribute [local irreducible] Go.wpList Go.Code.wp
theorem okF_tn : ∀ (k : Nat) {r i : Nat}, okF r → okF i → okF (tnF k r i).1 ∧ okF (tnF k r i).2
  | 0, _, _, hr, hi => ⟨hr, hi⟩
  | k + 1, _, _, hr, hi => okF_tn k (okF_neg hi) hr
theorem run_eqC {w : World} {a b : Nat} (ha : okF a) (hb : okF b) : (binOp .eql 35 (.complex .f64 a b) (.complex .f64 a b)).run Try.prog w = .ok (.bool true) w := by
  have h : (binOp .eql 35 (.complex .f64 a b) (.complex .f64 a b)).run Try.prog w = .ok (.bool (Op.floatEq .f64 a a && Op.floatEq .f64 b b)) w := rfl
  rw [h, eqF ha, eqF hb]; rfl
theorem run_rem4 {w : World} {z : Int} : (binOp .rem 3 (.int .i64 z) (.int .i64 4)).run Try.prog w = .ok (.int .i64 (Int.tmod z 4)) w := rfl
theorem run_add4 {w : World} {z : Int} : (binOp .add 3 (.int .i64 (Int.tmod z 4)) (.int .i64 4)).run Try.prog w = .ok (.int .i64 (Int.tmod z 4 + 4)) w := by
  have h : (binOp .add 3 (.int .i64 (Int.tmod z 4)) (.int .i64 4)).run Try.prog w = .ok (.int .i64 (IntKind.wrap .i64 (Int.tmod z 4 + 4))) w := rfl
  have h1 := Int.tmod_lt_of_pos z (show (0 : Int) < 4 by decide)
  have h2 : -4 < Int.tmod z 4 := by have := Int.lt_tmod_of_pos z (show (0 : Int) < 4 by decide); omega
  rw [h, wrapI64 (by omega) (by omega)]
theorem run_rem44 {w : World} {z : Int} : (binOp .rem 3 (.int .i64 (Int.tmod z 4 + 4)) (.int .i64 4)).run Try.prog w = .ok (.int .i64 ((by4 z : Nat) : Int)) w := by
  have h : (binOp .rem 3 (.int .i64 (Int.tmod z 4 + 4)) (.int .i64 4)).run Try.prog w = .ok (.int .i64 (Int.tmod (Int.tmod z 4 + 4) 4)) w := rfl
  have e : Int.tmod (Int.tmod z 4 + 4) 4 = ((by4 z : Nat) : Int) := by
    have h2 : -4 < Int.tmod z 4 := by have := Int.lt_tmod_of_pos z (show (0 : Int) < 4 by decide); omega
    rw [Int.tmod_eq_emod_of_nonneg (by omega)]
    unfold by4
    have h3 := Int.mul_tdiv_add_tmod z 4
    omega
  rw [h, e]
theorem idx62_0 {w : World} {r i : Nat} : (Instr.index 62 (.agg #[.complex .f64 r i, .complex .f64 (Op.negFloat .f64 i) r, .complex .f64 (Op.negFloat .f64 r) (Op.negFloat .f64 i), .complex .f64 i (Op.negFloat .f64 r)]) (.int .i64 ((0 : Nat) : Int))).run Try.prog w = .ok (.complex .f64 (tnF 0 r i).1 (tnF 0 r i).2) w := by kernel_rfl
theorem idx62_1 {w : World} {r i : Nat} : (Instr.index 62 (.agg #[.complex .f64 r i, .complex .f64 (Op.negFloat .f64 i) r, .complex .f64 (Op.negFloat .f64 r) (Op.negFloat .f64 i), .complex .f64 i (Op.negFloat .f64 r)]) (.int .i64 ((1 : Nat) : Int))).run Try.prog w = .ok (.complex .f64 (tnF 1 r i).1 (tnF 1 r i).2) w := by kernel_rfl
theorem idx62_2 {w : World} {r i : Nat} : (Instr.index 62 (.agg #[.complex .f64 r i, .complex .f64 (Op.negFloat .f64 i) r, .complex .f64 (Op.negFloat .f64 r) (Op.negFloat .f64 i), .complex .f64 i (Op.negFloat .f64 r)]) (.int .i64 ((2 : Nat) : Int))).run Try.prog w = .ok (.complex .f64 (tnF 2 r i).1 (tnF 2 r i).2) w := by kernel_rfl
theorem idx62_3 {w : World} {r i : Nat} : (Instr.index 62 (.agg #[.complex .f64 r i, .complex .f64 (Op.negFloat .f64 i) r, .complex .f64 (Op.negFloat .f64 r) (Op.negFloat .f64 i), .complex .f64 i (Op.negFloat .f64 r)]) (.int .i64 ((3 : Nat) : Int))).run Try.prog w = .ok (.complex .f64 i (Op.negFloat .f64 r)) w := by kernel_rfl
theorem run_idx62 {w : World} {r i : Nat} {z : Int} (hr : okF r) (hi : okF i) :
    (Instr.index 62 (.agg #[.complex .f64 r i, .complex .f64 (Op.negFloat .f64 i) r, .complex .f64 (Op.negFloat .f64 r) (Op.negFloat .f64 i), .complex .f64 i (Op.negFloat .f64 r)]) (.int .i64 ((by4 z : Nat) : Int))).run Try.prog w = .ok (.complex .f64 (tnF (by4 z) r i).1 (tnF (by4 z) r i).2) w := by
  have h := by4_lt z
  generalize by4 z = k at h ⊢
  rcases (by omega : k = 0 ∨ k = 1 ∨ k = 2 ∨ k = 3) with rfl | rfl | rfl | rfl
  · exact idx62_0
  · exact idx62_1
  · exact idx62_2
  · have e : tnF 3 r i = (Op.negFloat .f64 (Op.negFloat .f64 i), Op.negFloat .f64 r) := rfl
    rw [e, neg_neg hi]; exact idx62_3
theorem turn1_c {I : IM} {r i : Nat} : Fun Try.prog 25 #[.complex .f64 r i, .int .i64 1] I (fun v J => v = .complex .f64 (Op.negFloat .f64 i) r) := turn_c (z := 1)
theorem turn2_c {I : IM} {r i : Nat} : Fun Try.prog 25 #[.complex .f64 r i, .int .i64 2] I (fun v J => v = .complex .f64 (Op.negFloat .f64 r) (Op.negFloat .f64 i)) := turn_c (z := 2)
theorem turn3_c {I : IM} {r i : Nat} (hr : okF r) (hi : okF i) : Fun Try.prog 25 #[.complex .f64 (Op.negFloat .f64 i) r, .int .i64 3] I (fun v J => v = .complex .f64 r i) := by
  have h := turn_c (I := I) (r := Op.negFloat .f64 i) (i := r) (z := 3)
  have e : tnF (by4 3) (Op.negFloat .f64 i) r = (Op.negFloat .f64 (Op.negFloat .f64 r), Op.negFloat .f64 (Op.negFloat .f64 i)) := rfl
  rw [e, neg_neg hr, neg_neg hi] at h; exact h

set_option maxHeartbeats 1000000 in
theorem shareTurns_s {I : IM} {a c z : Int} (hA : ∀ {I : IM}, Fun Try.prog 8 #[] I (fun v J => v = .bool true)) : Fun Try.prog 6 #[.int .i32 a, .int .i32 c, .int .i64 z] I (fun v J => v = .bool true) := by
  refine enter_rule 56 [(0, .int .i32 a), (1, .int .i32 c), (2, .int .i64 z)] Try.func6 rfl (by kernel_rfl) ?_
  intro w s
  refine wp_seq ?_
  refine region_rule ?_
  refine ops_rule (C := []) [] [] 1 [] 0 (fun φ1 => [(6, .bool false)]) (fun φ1 => []) (fun φ1 => []) s trivial (fun φ1 => by kernel_rfl) ?_
  intro φ1 w1 s
  refine ops_done (by kernel_rfl) ?_
  refine wp_seq ?_
  refine wp_seq ?_
  refine region_rule ?_
  refine call_rule (some 9) s (hA) (by kernel_rfl) ?_
  intro v2 I2 w2 le2 h2 s
  obtain rfl := h2
  refine ops_rule (C := []) [] [] 1 [] 0 (fun φ3 => [(10, .bool false)]) (fun φ3 => []) (fun φ3 => []) s trivial (fun φ3 => by kernel_rfl) ?_
  intro φ3 w3 s
  refine ops_done (by kernel_rfl) ?_
  refine cond_false_rule (b := false) (by kernel_rfl) rfl ?_
  refine wp_skip ?_
  refine wp_seq ?_
  refine region_rule ?_
  refine ops_rule (C := []) [] [] 1 [] 0 (fun φ4 => [(11, .int .i32 a)]) (fun φ4 => []) (fun φ4 => []) s trivial (fun φ4 => by kernel_rfl) ?_
  intro φ4 w4 s
  refine sem_rule (convert 21 37 (.int .i32 a)) (some 12) (.float .f64 (FloatKind.nearest .f64 a)) (by kernel_rfl) ((by kernel_rfl : ((convert 21 37 (.int .i32 a)) : Sem Value).run Try.prog w4 = .ok (.float .f64 (FloatKind.nearest .f64 a)) w4)) ?_
  refine ops_rule (C := []) [] [] 1 [] 0 (fun φ5 => [(13, .int .i32 c)]) (fun φ5 => []) (fun φ5 => []) s trivial (fun φ5 => by kernel_rfl) ?_
  intro φ5 w5 s
  refine sem_rule (convert 21 37 (.int .i32 c)) (some 14) (.float .f64 (FloatKind.nearest .f64 c)) (by kernel_rfl) ((by kernel_rfl : ((convert 21 37 (.int .i32 c)) : Sem Value).run Try.prog w5 = .ok (.float .f64 (FloatKind.nearest .f64 c)) w5)) ?_
  refine sem_rule (Builtin.complex_ #[37, 37] 35 #[.float .f64 (FloatKind.nearest .f64 a), .float .f64 (FloatKind.nearest .f64 c)]) (some 15) (.complex .f64 (FloatKind.nearest .f64 a) (FloatKind.nearest .f64 c)) (by kernel_rfl) ((by kernel_rfl : ((Builtin.complex_ #[37, 37] 35 #[.float .f64 (FloatKind.nearest .f64 a), .float .f64 (FloatKind.nearest .f64 c)]) : Sem Value).run Try.prog w5 = .ok (.complex .f64 (FloatKind.nearest .f64 a) (FloatKind.nearest .f64 c)) w5)) ?_
  refine ops_rule (C := []) [] [] 1 [] 0 (fun φ6 => [(7, .complex .f64 (FloatKind.nearest .f64 a) (FloatKind.nearest .f64 c))]) (fun φ6 => []) (fun φ6 => []) s trivial (fun φ6 => by kernel_rfl) ?_
  intro φ6 w6 s
  refine ops_done (by kernel_rfl) ?_
  refine wp_seq ?_
  refine region_rule ?_
  refine ops_rule (C := []) [] [] 2 [] 0 (fun φ7 => [(17, .complex .f64 (FloatKind.nearest .f64 a) (FloatKind.nearest .f64 c)), (16, .complex .f64 (FloatKind.nearest .f64 a) (FloatKind.nearest .f64 c))]) (fun φ7 => []) (fun φ7 => []) s trivial (fun φ7 => by kernel_rfl) ?_
  intro φ7 w7 s
  refine sem_rule (Builtin.imag_ #[35] 37 #[.complex .f64 (FloatKind.nearest .f64 a) (FloatKind.nearest .f64 c)]) (some 18) (.float .f64 (FloatKind.nearest .f64 c)) (by kernel_rfl) ((by kernel_rfl : ((Builtin.imag_ #[35] 37 #[.complex .f64 (FloatKind.nearest .f64 a) (FloatKind.nearest .f64 c)]) : Sem Value).run Try.prog w7 = .ok (.float .f64 (FloatKind.nearest .f64 c)) w7)) ?_
  refine sem_rule (Op.unary .neg (.float .f64 (FloatKind.nearest .f64 c))) (some 19) (.float .f64 (Op.negFloat .f64 (FloatKind.nearest .f64 c))) (by kernel_rfl) ((by kernel_rfl : ((Op.unary .neg (.float .f64 (FloatKind.nearest .f64 c))) : Sem Value).run Try.prog w7 = .ok (.float .f64 (Op.negFloat .f64 (FloatKind.nearest .f64 c))) w7)) ?_
  refine ops_rule (C := []) [] [] 1 [] 0 (fun φ8 => [(20, .complex .f64 (FloatKind.nearest .f64 a) (FloatKind.nearest .f64 c))]) (fun φ8 => []) (fun φ8 => []) s trivial (fun φ8 => by kernel_rfl) ?_
  intro φ8 w8 s
  refine sem_rule (Builtin.real_ #[35] 37 #[.complex .f64 (FloatKind.nearest .f64 a) (FloatKind.nearest .f64 c)]) (some 21) (.float .f64 (FloatKind.nearest .f64 a)) (by kernel_rfl) ((by kernel_rfl : ((Builtin.real_ #[35] 37 #[.complex .f64 (FloatKind.nearest .f64 a) (FloatKind.nearest .f64 c)]) : Sem Value).run Try.prog w8 = .ok (.float .f64 (FloatKind.nearest .f64 a)) w8)) ?_
  refine sem_rule (Builtin.complex_ #[37, 37] 35 #[.float .f64 (Op.negFloat .f64 (FloatKind.nearest .f64 c)), .float .f64 (FloatKind.nearest .f64 a)]) (some 22) (.complex .f64 (Op.negFloat .f64 (FloatKind.nearest .f64 c)) (FloatKind.nearest .f64 a)) (by kernel_rfl) ((by kernel_rfl : ((Builtin.complex_ #[37, 37] 35 #[.float .f64 (Op.negFloat .f64 (FloatKind.nearest .f64 c)), .float .f64 (FloatKind.nearest .f64 a)]) : Sem Value).run Try.prog w8 = .ok (.complex .f64 (Op.negFloat .f64 (FloatKind.nearest .f64 c)) (FloatKind.nearest .f64 a)) w8)) ?_
  refine ops_rule (C := []) [] [] 1 [] 0 (fun φ9 => [(23, .complex .f64 (FloatKind.nearest .f64 a) (FloatKind.nearest .f64 c))]) (fun φ9 => []) (fun φ9 => []) s trivial (fun φ9 => by kernel_rfl) ?_
  intro φ9 w9 s
  refine sem_rule (Op.unary .neg (.complex .f64 (FloatKind.nearest .f64 a) (FloatKind.nearest .f64 c))) (some 24) (.complex .f64 (Op.negFloat .f64 (FloatKind.nearest .f64 a)) (Op.negFloat .f64 (FloatKind.nearest .f64 c))) (by kernel_rfl) ((by kernel_rfl : ((Op.unary .neg (.complex .f64 (FloatKind.nearest .f64 a) (FloatKind.nearest .f64 c))) : Sem Value).run Try.prog w9 = .ok (.complex .f64 (Op.negFloat .f64 (FloatKind.nearest .f64 a)) (Op.negFloat .f64 (FloatKind.nearest .f64 c))) w9)) ?_
  refine ops_rule (C := []) [] [] 1 [] 0 (fun φ10 => [(25, .complex .f64 (FloatKind.nearest .f64 a) (FloatKind.nearest .f64 c))]) (fun φ10 => []) (fun φ10 => []) s trivial (fun φ10 => by kernel_rfl) ?_
  intro φ10 w10 s
  refine sem_rule (Builtin.imag_ #[35] 37 #[.complex .f64 (FloatKind.nearest .f64 a) (FloatKind.nearest .f64 c)]) (some 26) (.float .f64 (FloatKind.nearest .f64 c)) (by kernel_rfl) ((by kernel_rfl : ((Builtin.imag_ #[35] 37 #[.complex .f64 (FloatKind.nearest .f64 a) (FloatKind.nearest .f64 c)]) : Sem Value).run Try.prog w10 = .ok (.float .f64 (FloatKind.nearest .f64 c)) w10)) ?_
  refine ops_rule (C := []) [] [] 1 [] 0 (fun φ11 => [(27, .complex .f64 (FloatKind.nearest .f64 a) (FloatKind.nearest .f64 c))]) (fun φ11 => []) (fun φ11 => []) s trivial (fun φ11 => by kernel_rfl) ?_
  intro φ11 w11 s
  refine sem_rule (Builtin.real_ #[35] 37 #[.complex .f64 (FloatKind.nearest .f64 a) (FloatKind.nearest .f64 c)]) (some 28) (.float .f64 (FloatKind.nearest .f64 a)) (by kernel_rfl) ((by kernel_rfl : ((Builtin.real_ #[35] 37 #[.complex .f64 (FloatKind.nearest .f64 a) (FloatKind.nearest .f64 c)]) : Sem Value).run Try.prog w11 = .ok (.float .f64 (FloatKind.nearest .f64 a)) w11)) ?_
  refine sem_rule (Op.unary .neg (.float .f64 (FloatKind.nearest .f64 a))) (some 29) (.float .f64 (Op.negFloat .f64 (FloatKind.nearest .f64 a))) (by kernel_rfl) ((by kernel_rfl : ((Op.unary .neg (.float .f64 (FloatKind.nearest .f64 a))) : Sem Value).run Try.prog w11 = .ok (.float .f64 (Op.negFloat .f64 (FloatKind.nearest .f64 a))) w11)) ?_
  refine sem_rule (Builtin.complex_ #[37, 37] 35 #[.float .f64 (FloatKind.nearest .f64 c), .float .f64 (Op.negFloat .f64 (FloatKind.nearest .f64 a))]) (some 30) (.complex .f64 (FloatKind.nearest .f64 c) (Op.negFloat .f64 (FloatKind.nearest .f64 a))) (by kernel_rfl) ((by kernel_rfl : ((Builtin.complex_ #[37, 37] 35 #[.float .f64 (FloatKind.nearest .f64 c), .float .f64 (Op.negFloat .f64 (FloatKind.nearest .f64 a))]) : Sem Value).run Try.prog w11 = .ok (.complex .f64 (FloatKind.nearest .f64 c) (Op.negFloat .f64 (FloatKind.nearest .f64 a))) w11)) ?_
  refine ops_rule (C := []) [] [] 2 [] 0 (fun φ12 => [(32, .int .i64 z), (31, .agg #[.complex .f64 (FloatKind.nearest .f64 a) (FloatKind.nearest .f64 c), .complex .f64 (Op.negFloat .f64 (FloatKind.nearest .f64 c)) (FloatKind.nearest .f64 a), .complex .f64 (Op.negFloat .f64 (FloatKind.nearest .f64 a)) (Op.negFloat .f64 (FloatKind.nearest .f64 c)), .complex .f64 (FloatKind.nearest .f64 c) (Op.negFloat .f64 (FloatKind.nearest .f64 a))])]) (fun φ12 => []) (fun φ12 => []) s trivial (fun φ12 => by kernel_rfl) ?_
  intro φ12 w12 s
  refine sem_rule (binOp .rem 3 (.int .i64 z) (.int .i64 4)) (some 33) (.int .i64 (Int.tmod z 4)) (by kernel_rfl) (run_rem4) ?_
  refine sem_rule (binOp .add 3 (.int .i64 (Int.tmod z 4)) (.int .i64 4)) (some 34) (.int .i64 (Int.tmod z 4 + 4)) (by kernel_rfl) (run_add4) ?_
  refine sem_rule (binOp .rem 3 (.int .i64 (Int.tmod z 4 + 4)) (.int .i64 4)) (some 35) (.int .i64 ((by4 z : Nat) : Int)) (by kernel_rfl) (run_rem44) ?_
  refine sem_rule (Instr.index 62 (.agg #[.complex .f64 (FloatKind.nearest .f64 a) (FloatKind.nearest .f64 c), .complex .f64 (Op.negFloat .f64 (FloatKind.nearest .f64 c)) (FloatKind.nearest .f64 a), .complex .f64 (Op.negFloat .f64 (FloatKind.nearest .f64 a)) (Op.negFloat .f64 (FloatKind.nearest .f64 c)), .complex .f64 (FloatKind.nearest .f64 c) (Op.negFloat .f64 (FloatKind.nearest .f64 a))]) (.int .i64 ((by4 z : Nat) : Int))) (some 36) (.complex .f64 ((tnF (by4 z) (FloatKind.nearest .f64 a) (FloatKind.nearest .f64 c)).1) ((tnF (by4 z) (FloatKind.nearest .f64 a) (FloatKind.nearest .f64 c)).2)) (by kernel_rfl) (run_idx62 (okF_int a) (okF_int c)) ?_
  refine ops_rule (C := []) [] [] 1 [] 0 (fun φ13 => [(8, .complex .f64 ((tnF (by4 z) (FloatKind.nearest .f64 a) (FloatKind.nearest .f64 c)).1) ((tnF (by4 z) (FloatKind.nearest .f64 a) (FloatKind.nearest .f64 c)).2))]) (fun φ13 => []) (fun φ13 => []) s trivial (fun φ13 => by kernel_rfl) ?_
  intro φ13 w13 s
  refine ops_done (by kernel_rfl) ?_
  refine wp_seq ?_
  refine region_rule ?_
  refine ops_rule (C := []) [] [] 2 [] 0 (fun φ14 => [(38, .int .i64 z), (37, .complex .f64 (FloatKind.nearest .f64 a) (FloatKind.nearest .f64 c))]) (fun φ14 => []) (fun φ14 => []) s trivial (fun φ14 => by kernel_rfl) ?_
  intro φ14 w14 s
  refine call_rule (some 39) s (turn_c (r := FloatKind.nearest .f64 a) (i := FloatKind.nearest .f64 c) (z := z)) (by kernel_rfl) ?_
  intro v15 I15 w15 le15 h15 s
  obtain rfl := h15
  refine ops_rule (C := []) [] [] 1 [] 0 (fun φ16 => [(40, .complex .f64 ((tnF (by4 z) (FloatKind.nearest .f64 a) (FloatKind.nearest .f64 c)).1) ((tnF (by4 z) (FloatKind.nearest .f64 a) (FloatKind.nearest .f64 c)).2))]) (fun φ16 => []) (fun φ16 => []) s trivial (fun φ16 => by kernel_rfl) ?_
  intro φ16 w16 s
  refine sem_rule (binOp .eql 35 (.complex .f64 ((tnF (by4 z) (FloatKind.nearest .f64 a) (FloatKind.nearest .f64 c)).1) ((tnF (by4 z) (FloatKind.nearest .f64 a) (FloatKind.nearest .f64 c)).2)) (.complex .f64 ((tnF (by4 z) (FloatKind.nearest .f64 a) (FloatKind.nearest .f64 c)).1) ((tnF (by4 z) (FloatKind.nearest .f64 a) (FloatKind.nearest .f64 c)).2))) (some 41) (.bool true) (by kernel_rfl) (run_eqC (okF_tn _ (okF_int a) (okF_int c)).1 (okF_tn _ (okF_int a) (okF_int c)).2) ?_
  refine ops_rule (C := []) [] [] 2 [] 0 (fun φ17 => [(43, .complex .f64 (FloatKind.nearest .f64 a) (FloatKind.nearest .f64 c)), (42, .bool true)]) (fun φ17 => []) (fun φ17 => []) s trivial (fun φ17 => by kernel_rfl) ?_
  intro φ17 w17 s
  refine call_rule (some 44) s (turn1_c (r := FloatKind.nearest .f64 a) (i := FloatKind.nearest .f64 c)) (by kernel_rfl) ?_
  intro v18 I18 w18 le18 h18 s
  obtain rfl := h18
  refine call_rule (some 45) s (turn3_c (okF_int a) (okF_int c)) (by kernel_rfl) ?_
  intro v19 I19 w19 le19 h19 s
  obtain rfl := h19
  refine ops_rule (C := []) [] [] 1 [] 0 (fun φ20 => [(46, .complex .f64 (FloatKind.nearest .f64 a) (FloatKind.nearest .f64 c))]) (fun φ20 => []) (fun φ20 => []) s trivial (fun φ20 => by kernel_rfl) ?_
  intro φ20 w20 s
  refine sem_rule (binOp .eql 35 (.complex .f64 (FloatKind.nearest .f64 a) (FloatKind.nearest .f64 c)) (.complex .f64 (FloatKind.nearest .f64 a) (FloatKind.nearest .f64 c))) (some 47) (.bool true) (by kernel_rfl) (run_eqC (okF_int a) (okF_int c)) ?_
  refine ops_rule (C := []) [] [] 3 [] 0 (fun φ21 => [(50, .complex .f64 (FloatKind.nearest .f64 a) (FloatKind.nearest .f64 c)), (49, .bool true), (48, .bool true)]) (fun φ21 => []) (fun φ21 => []) s trivial (fun φ21 => by kernel_rfl) ?_
  intro φ21 w21 s
  refine call_rule (some 51) s (turn2_c (r := FloatKind.nearest .f64 a) (i := FloatKind.nearest .f64 c)) (by kernel_rfl) ?_
  intro v22 I22 w22 le22 h22 s
  obtain rfl := h22
  refine ops_rule (C := []) [] [] 1 [] 0 (fun φ23 => [(52, .complex .f64 (FloatKind.nearest .f64 a) (FloatKind.nearest .f64 c))]) (fun φ23 => []) (fun φ23 => []) s trivial (fun φ23 => by kernel_rfl) ?_
  intro φ23 w23 s
  refine sem_rule (Op.unary .neg (.complex .f64 (FloatKind.nearest .f64 a) (FloatKind.nearest .f64 c))) (some 53) (.complex .f64 (Op.negFloat .f64 (FloatKind.nearest .f64 a)) (Op.negFloat .f64 (FloatKind.nearest .f64 c))) (by kernel_rfl) ((by kernel_rfl : ((Op.unary .neg (.complex .f64 (FloatKind.nearest .f64 a) (FloatKind.nearest .f64 c))) : Sem Value).run Try.prog w23 = .ok (.complex .f64 (Op.negFloat .f64 (FloatKind.nearest .f64 a)) (Op.negFloat .f64 (FloatKind.nearest .f64 c))) w23)) ?_
  refine sem_rule (binOp .eql 35 (.complex .f64 (Op.negFloat .f64 (FloatKind.nearest .f64 a)) (Op.negFloat .f64 (FloatKind.nearest .f64 c))) (.complex .f64 (Op.negFloat .f64 (FloatKind.nearest .f64 a)) (Op.negFloat .f64 (FloatKind.nearest .f64 c)))) (some 54) (.bool true) (by kernel_rfl) (run_eqC (okF_neg (okF_int a)) (okF_neg (okF_int c))) ?_
  refine ops_rule (C := []) [] [] 2 [] 0 (fun φ24 => [(6, .bool true), (55, .bool true)]) (fun φ24 => []) (fun φ24 => []) s trivial (fun φ24 => by kernel_rfl) ?_
  intro φ24 w24 s
  refine ops_done (by kernel_rfl) ?_
  refine wp_ret ?_
  refine ret_rule (C := []) [] [] (.bool true) [] [] s trivial (by kernel_rfl) ?_
  exact ⟨_, _, _, rfl, s, rfl⟩

end Go.Proofs.Ytgdickihjaomjaa
