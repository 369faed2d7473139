/- Turn -/
import Derived.Test.YtgdickihjaomjaaProg
import Derived.Test.YtgdickihjaomjaaTuV1
import Derived.Test.YtgdickihjaomjaaTuS13
set_option linter.all false
set_option maxRecDepth 100000
namespace Go.Proofs.Ytgdickihjaomjaa
open Go.RowKit Go.Sep
attribute [local irreducible] Go.wpList Go.Code.wp
theorem leMono9 {A I J : IM} (le : I.Le J) (h : A.Le I) : A.Le J := h.trans le
def by4 (z : Int) : Nat := (z % 4).toNat
theorem by4_lt (z : Int) : by4 z < 4 := by unfold by4; omega
theorem run_and3 {w : World} {z : Int} : (binOp .and 3 (.int .i64 z) (.int .i64 3)).run Try.prog w = .ok (.int .i64 ((by4 z : Nat) : Int)) w := by
  have e : (BitVec.ofInt 64 z &&& BitVec.ofInt 64 3).toNat = by4 z := by
    rw [BitVec.toNat_and, BitVec.toNat_ofInt, show (BitVec.ofInt 64 3).toNat = 2 ^ 2 - 1 by decide, Nat.and_two_pow_sub_one_eq_mod]
    unfold by4
    omega
  have h : (binOp .and 3 (.int .i64 z) (.int .i64 3)).run Try.prog w = .ok (.int .i64 (IntKind.wrap .i64 ((BitVec.ofInt 64 z &&& BitVec.ofInt 64 3).toNat : Int))) w := rfl
  rw [h, e, wrapI64 (by omega) (by have := by4_lt z; omega)]
/-- a quarter turn, so many times -/
def tnF : Nat → Nat → Nat → Nat × Nat
  | 0, r, i => (r, i)
  | k + 1, r, i => tnF k (Op.negFloat .f64 i) r

set_option maxHeartbeats 1000000 in
theorem turn_c {I : IM} {r i : Nat} {z : Int} : Fun Try.prog 25 #[.complex .f64 r i, .int .i64 z] I (fun v J => v = .complex .f64 (tnF (by4 z) r i).1 (tnF (by4 z) r i).2) := by
  refine enter_rule 19 [(0, .complex .f64 r i), (1, .int .i64 z)] Try.func25 rfl (by kernel_rfl) ?_
  intro w s
  refine wp_seq ?_
  refine region_rule ?_
  refine ops_rule (C := []) [] [] 1 [] 0 (fun φ1 => [(4, .complex .f64 0 0)]) (fun φ1 => []) (fun φ1 => []) s trivial (fun φ1 => by kernel_rfl) ?_
  intro φ1 w1 s
  refine ops_done (by kernel_rfl) ?_
  have hle2 := IM.Le.refl I
  refine goto_rule s 0 (fun x : Nat × Nat × Nat => [(0, .complex .f64 x.2.1 x.2.2), (5, .int .i64 ((x.1 : Nat) : Int))]) (fun _ => []) (fun n x J => IM.Le I J ∧ x.1 = n ∧ x.1 ≤ 3 ∧ tnF x.1 x.2.1 x.2.2 = tnF (by4 z) r i) rfl ?_ ?_
  ·
    rintro m3 ⟨l3, r3, i3⟩ I3 w3 ev3 s ⟨le3, hm3, hb3, ht3⟩
    dsimp only at s hm3 hb3 ht3
    replace hle2 := leMono9 le3 hle2
    refine wp_seq ?_
    refine wp_skip ?_
    refine wp_seq ?_
    refine wp_seq ?_
    refine region_rule ?_
    refine ops_rule (C := []) [] [] 2 [] 0 (fun φ4 => [(9, .bool (decide (((l3 : Nat) : Int) > ((0 : Nat) : Int)))), (8, .int .i64 ((l3 : Nat) : Int))]) (fun φ4 => []) (fun φ4 => []) s trivial (fun φ4 => by kernel_rfl) ?_
    intro φ4 w4 s
    rw [nat_gtr (a := l3) (b := 0)]
    refine ops_done (by kernel_rfl) ?_
    rcases Bool.eq_false_or_eq_true (decide (0 < l3)) with hc5 | hc5
    ·
      rw [hc5]
      refine cond_true_rule (b := true) (by kernel_rfl) rfl ?_
      refine wp_seq ?_
      refine region_rule ?_
      refine ops_rule (C := []) [] [] 1 [] 0 (fun φ6 => [(10, .complex .f64 r3 i3)]) (fun φ6 => []) (fun φ6 => []) s trivial (fun φ6 => by kernel_rfl) ?_
      intro φ6 w6 s
      refine sem_rule (Builtin.imag_ #[35] 37 #[.complex .f64 r3 i3]) (some 11) (.float .f64 i3) (by kernel_rfl) ((by kernel_rfl : ((Builtin.imag_ #[35] 37 #[.complex .f64 r3 i3]) : Sem Value).run Try.prog w6 = .ok (.float .f64 i3) w6)) ?_
      refine sem_rule (Op.unary .neg (.float .f64 i3)) (some 12) (.float .f64 (Op.negFloat .f64 i3)) (by kernel_rfl) ((by kernel_rfl : ((Op.unary .neg (.float .f64 i3)) : Sem Value).run Try.prog w6 = .ok (.float .f64 (Op.negFloat .f64 i3)) w6)) ?_
      refine ops_rule (C := []) [] [] 1 [] 0 (fun φ7 => [(13, .complex .f64 r3 i3)]) (fun φ7 => []) (fun φ7 => []) s trivial (fun φ7 => by kernel_rfl) ?_
      intro φ7 w7 s
      refine sem_rule (Builtin.real_ #[35] 37 #[.complex .f64 r3 i3]) (some 14) (.float .f64 r3) (by kernel_rfl) ((by kernel_rfl : ((Builtin.real_ #[35] 37 #[.complex .f64 r3 i3]) : Sem Value).run Try.prog w7 = .ok (.float .f64 r3) w7)) ?_
      refine sem_rule (Builtin.complex_ #[37, 37] 35 #[.float .f64 (Op.negFloat .f64 i3), .float .f64 r3]) (some 15) (.complex .f64 (Op.negFloat .f64 i3) r3) (by kernel_rfl) ((by kernel_rfl : ((Builtin.complex_ #[37, 37] 35 #[.float .f64 (Op.negFloat .f64 i3), .float .f64 r3]) : Sem Value).run Try.prog w7 = .ok (.complex .f64 (Op.negFloat .f64 i3) r3) w7)) ?_
      refine ops_rule (C := []) [] [] 1 [] 0 (fun φ8 => [(0, .complex .f64 (Op.negFloat .f64 i3) r3)]) (fun φ8 => []) (fun φ8 => []) s trivial (fun φ8 => by kernel_rfl) ?_
      intro φ8 w8 s
      refine ops_done (by kernel_rfl) ?_
      refine wp_seq ?_
      refine region_rule ?_
      refine ops_rule (C := []) [] [] 3 [] 0 (fun φ9 => [(5, .int .i64 (IntKind.wrap .i64 (((l3 : Nat) : Int) - ((1 : Nat) : Int)))), (17, .int .i64 (IntKind.wrap .i64 (((l3 : Nat) : Int) - ((1 : Nat) : Int)))), (16, .int .i64 ((l3 : Nat) : Int))]) (fun φ9 => []) (fun φ9 => []) s trivial (fun φ9 => by kernel_rfl) ?_
      intro φ9 w9 s
      rw [nat_subI (a := l3) (b := 1) (by have hb4 := by4_lt z; have hl4 := hb3; have hq0 := of_decide_eq_true hc5; omega) (by have hb4 := by4_lt z; have hl4 := hb3; have hq0 := of_decide_eq_true hc5; omega)]
      refine ops_done (by kernel_rfl) ?_
      refine wp_goto ?_
      obtain ⟨l9, hl9⟩ : ∃ q, l3 = q + 1 := ⟨l3 - 1, by have := (of_decide_eq_true hc5); omega⟩
      exact ⟨rfl, ⟨⟨m3 - 1, (l3 - 1, Op.negFloat .f64 i3, r3), _, _, _, (by have := (of_decide_eq_true hc5); omega), rfl, s, List.Sublist.slnil, by kernel_rfl, hle2, (by simp only; omega), (by simp only; omega), (by rw [hl9] at ht3 ⊢; exact ht3)⟩⟩⟩
    ·
      rw [hc5]
      refine cond_false_rule (b := false) (by kernel_rfl) rfl ?_
      refine wp_skip ?_
      refine wp_seq ?_
      refine region_rule ?_
      refine ops_rule (C := []) [] [] 2 [] 0 (fun φ10 => [(4, .complex .f64 r3 i3), (18, .complex .f64 r3 i3)]) (fun φ10 => []) (fun φ10 => []) s trivial (fun φ10 => by kernel_rfl) ?_
      intro φ10 w10 s
      refine ops_done (by kernel_rfl) ?_
      refine wp_ret ?_
      refine ret_rule (C := []) [] [] (.complex .f64 r3 i3) [] [] s trivial (by kernel_rfl) ?_
      exact ⟨_, _, _, rfl, s, (by have hz9 : l3 = 0 := (by have := (of_decide_eq_false hc5); omega); rw [← (show tnF l3 r3 i3 = tnF (by4 z) r i from ht3), hz9]; rfl)⟩
  ·
    refine wp_seq ?_
    refine region_rule ?_
    refine ops_rule (C := []) [] [] 1 [] 0 (fun φ11 => [(6, .int .i64 z)]) (fun φ11 => []) (fun φ11 => []) s trivial (fun φ11 => by kernel_rfl) ?_
    intro φ11 w11 s
    refine sem_rule (binOp .and 3 (.int .i64 z) (.int .i64 3)) (some 7) (.int .i64 ((by4 z : Nat) : Int)) (by kernel_rfl) (run_and3) ?_
    refine ops_rule (C := []) [] [] 1 [] 0 (fun φ12 => [(5, .int .i64 ((by4 z : Nat) : Int))]) (fun φ12 => []) (fun φ12 => []) s trivial (fun φ12 => by kernel_rfl) ?_
    intro φ12 w12 s
    refine ops_done (by kernel_rfl) ?_
    refine wp_seq ?_
    refine wp_label ?_
    refine wp_seq ?_
    refine wp_seq ?_
    refine region_rule ?_
    refine ops_rule (C := []) [] [] 2 [] 0 (fun φ13 => [(9, .bool (decide (((by4 z : Nat) : Int) > ((0 : Nat) : Int)))), (8, .int .i64 ((by4 z : Nat) : Int))]) (fun φ13 => []) (fun φ13 => []) s trivial (fun φ13 => by kernel_rfl) ?_
    intro φ13 w13 s
    rw [nat_gtr (a := (by4 z)) (b := 0)]
    refine ops_done (by kernel_rfl) ?_
    rcases Bool.eq_false_or_eq_true (decide (0 < (by4 z))) with hc14 | hc14
    ·
      rw [hc14]
      refine cond_true_rule (b := true) (by kernel_rfl) rfl ?_
      refine wp_seq ?_
      refine region_rule ?_
      refine ops_rule (C := []) [] [] 1 [] 0 (fun φ15 => [(10, .complex .f64 r i)]) (fun φ15 => []) (fun φ15 => []) s trivial (fun φ15 => by kernel_rfl) ?_
      intro φ15 w15 s
      refine sem_rule (Builtin.imag_ #[35] 37 #[.complex .f64 r i]) (some 11) (.float .f64 i) (by kernel_rfl) ((by kernel_rfl : ((Builtin.imag_ #[35] 37 #[.complex .f64 r i]) : Sem Value).run Try.prog w15 = .ok (.float .f64 i) w15)) ?_
      refine sem_rule (Op.unary .neg (.float .f64 i)) (some 12) (.float .f64 (Op.negFloat .f64 i)) (by kernel_rfl) ((by kernel_rfl : ((Op.unary .neg (.float .f64 i)) : Sem Value).run Try.prog w15 = .ok (.float .f64 (Op.negFloat .f64 i)) w15)) ?_
      refine ops_rule (C := []) [] [] 1 [] 0 (fun φ16 => [(13, .complex .f64 r i)]) (fun φ16 => []) (fun φ16 => []) s trivial (fun φ16 => by kernel_rfl) ?_
      intro φ16 w16 s
      refine sem_rule (Builtin.real_ #[35] 37 #[.complex .f64 r i]) (some 14) (.float .f64 r) (by kernel_rfl) ((by kernel_rfl : ((Builtin.real_ #[35] 37 #[.complex .f64 r i]) : Sem Value).run Try.prog w16 = .ok (.float .f64 r) w16)) ?_
      refine sem_rule (Builtin.complex_ #[37, 37] 35 #[.float .f64 (Op.negFloat .f64 i), .float .f64 r]) (some 15) (.complex .f64 (Op.negFloat .f64 i) r) (by kernel_rfl) ((by kernel_rfl : ((Builtin.complex_ #[37, 37] 35 #[.float .f64 (Op.negFloat .f64 i), .float .f64 r]) : Sem Value).run Try.prog w16 = .ok (.complex .f64 (Op.negFloat .f64 i) r) w16)) ?_
      refine ops_rule (C := []) [] [] 1 [] 0 (fun φ17 => [(0, .complex .f64 (Op.negFloat .f64 i) r)]) (fun φ17 => []) (fun φ17 => []) s trivial (fun φ17 => by kernel_rfl) ?_
      intro φ17 w17 s
      refine ops_done (by kernel_rfl) ?_
      refine wp_seq ?_
      refine region_rule ?_
      refine ops_rule (C := []) [] [] 3 [] 0 (fun φ18 => [(5, .int .i64 (IntKind.wrap .i64 (((by4 z : Nat) : Int) - ((1 : Nat) : Int)))), (17, .int .i64 (IntKind.wrap .i64 (((by4 z : Nat) : Int) - ((1 : Nat) : Int)))), (16, .int .i64 ((by4 z : Nat) : Int))]) (fun φ18 => []) (fun φ18 => []) s trivial (fun φ18 => by kernel_rfl) ?_
      intro φ18 w18 s
      rw [nat_subI (a := (by4 z)) (b := 1) (by have hb4 := by4_lt z; have hl4 := (by have := by4_lt z; omega); have hq0 := of_decide_eq_true hc14; omega) (by have hb4 := by4_lt z; have hl4 := (by have := by4_lt z; omega); have hq0 := of_decide_eq_true hc14; omega)]
      refine ops_done (by kernel_rfl) ?_
      refine wp_goto ?_
      have hb4 := by4_lt z
      obtain ⟨l9, hl9⟩ : ∃ q, by4 z = q + 1 := ⟨by4 z - 1, by have := (of_decide_eq_true hc14); omega⟩
      exact ⟨rfl, 4, ⟨⟨by4 z - 1, (by4 z - 1, Op.negFloat .f64 i, r), _, _, _, (by omega), rfl, s, List.Sublist.slnil, by kernel_rfl, hle2, rfl, (by simp only; omega), (by rw [hl9]; rfl)⟩⟩⟩
    ·
      rw [hc14]
      refine cond_false_rule (b := false) (by kernel_rfl) rfl ?_
      refine wp_skip ?_
      refine wp_seq ?_
      refine region_rule ?_
      refine ops_rule (C := []) [] [] 2 [] 0 (fun φ19 => [(4, .complex .f64 r i), (18, .complex .f64 r i)]) (fun φ19 => []) (fun φ19 => []) s trivial (fun φ19 => by kernel_rfl) ?_
      intro φ19 w19 s
      refine ops_done (by kernel_rfl) ?_
      refine wp_ret ?_
      refine ret_rule (C := []) [] [] (.complex .f64 r i) [] [] s trivial (by kernel_rfl) ?_
      exact ⟨_, _, _, rfl, s, (by have hz9 : (by4 z) = 0 := (by have := (of_decide_eq_false hc14); omega); rw [← (show tnF (by4 z) r i = tnF (by4 z) r i from rfl), hz9]; rfl)⟩

end Go.Proofs.Ytgdickihjaomjaa
