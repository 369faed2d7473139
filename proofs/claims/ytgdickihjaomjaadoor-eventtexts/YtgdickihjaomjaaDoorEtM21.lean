/- Any text is read: the document's number. -/
import Derived.Test.YtgdickihjaomjaaDoorEtM20
set_option linter.all false
set_option maxRecDepth 100000
namespace Go.Proofs.YtgdickihjaomjaaDoor
open Go.RowKit Go.Sep
attribute [local irreducible] Go.wpList Go.Code.wp
def nmT (ss : List UInt8) : Value := .tuple #[.int .u64 ((min (numR ss).1 1048576 : Nat) : Int), .string ⟨(ss.drop (numR ss).2.1).toArray⟩, .bool (numR ss).2.2, .bool (decide (1048576 < (numR ss).1))]
section
variable {ss : List UInt8} {n k : Nat}
theorem nm_of {a b : Nat} {c : Bool} (h : numR ss = (a, b, c)) : nmT ss = .tuple #[.int .u64 ((min a 1048576 : Nat) : Int), .string ⟨(ss.drop b).toArray⟩, .bool c, .bool (decide (1048576 < a))] := by
  unfold nmT; rw [h]
theorem nm_big (hL : numL ss 0 0 = some (n, k)) (h0 : 1 < k → ¬ (ss.getD 0 0).toNat = 48) (hn : n < 10 ^ k) (h : 1048576 < n) : Value.tuple #[.int .u64 1048576, .string ⟨(ss.drop k).toArray⟩, .bool true, .bool true] = nmT ss := by
  have hk : ¬ k = 0 := fun q => by subst q; simp at hn; omega
  rw [nm_of (numR_ok hL (fun q => q.elim hk (fun q => h0 q.1 q.2))), Nat.min_eq_right (by omega), decide_eq_true h]; rfl
theorem nm_small (hL : numL ss 0 0 = some (n, k)) (h0 : 1 < k → ¬ (ss.getD 0 0).toNat = 48) (hn : n < 10 ^ k) (h : ¬ 1048576 < n) : Value.tuple #[.int .u64 ((n : Nat) : Int), .string ⟨(ss.drop k).toArray⟩, .bool (decide (0 < k)), .bool false] = nmT ss := by
  by_cases hk : k = 0
  · subst hk
    have : n = 0 := by simp at hn; omega
    subst this
    rw [nm_of (numR_bad hL (.inl rfl))]; rfl
  · rw [nm_of (numR_ok hL (fun q => q.elim hk (fun q => h0 q.1 q.2))), Nat.min_eq_left (by omega), decide_eq_false h, decide_eq_true (by omega : 0 < k)]
theorem nm_none (hL : numL ss 0 0 = none) : Value.tuple #[.int .u64 0, .string ⟨(ss).toArray⟩, .bool false, .bool false] = nmT ss := by
  rw [nm_of (numR_none hL)]; rfl
theorem nm_zero {m : Nat} (hL : numL (ss.drop 2) m 2 = numL ss 0 0) (h0 : (ss.getD 0 0).toNat = 48) : Value.tuple #[.int .u64 0, .string ⟨(ss).toArray⟩, .bool false, .bool false] = nmT ss := by
  cases e : numL ss 0 0 with
  | none => exact nm_none e
  | some x =>
    obtain ⟨a, b⟩ := x
    rw [e] at hL
    have := (numL_le _ _ _ hL).1
    rw [nm_of (numR_bad e (.inr ⟨by omega, h0⟩))]; rfl
end

set_option maxHeartbeats 2000000 in
theorem refnum_c {I : IM} {ss : List UInt8} (hs : ss.length ≤ 1000000) : Fun Tryd.prog 108 #[.string ⟨(ss).toArray⟩] I (fun v J => v = nmT ss) := by
  refine enter_rule 57 [(0, .string ⟨(ss).toArray⟩)] Tryd.func108 rfl (by kernel_rfl) ?_
  intro w s
  refine wp_seq ?_
  refine region_rule ?_
  refine ops_rule (C := []) [] [] 4 [] 0 (fun φ1 => [(5, .bool false), (4, .bool false), (3, .string ⟨#[]⟩), (2, .int .u64 0)]) (fun φ1 => []) (fun φ1 => []) s trivial (fun φ1 => by kernel_rfl) ?_
  intro φ1 w1 s
  refine ops_done (by kernel_rfl) ?_
  refine wp_seq ?_
  refine region_rule ?_
  refine ops_rule (C := []) [] [] 1 [] 0 (fun φ2 => [(6, .int .u64 0)]) (fun φ2 => []) (fun φ2 => []) s trivial (fun φ2 => by kernel_rfl) ?_
  intro φ2 w2 s
  refine ops_done (by kernel_rfl) ?_
  refine wp_seq ?_
  refine region_rule ?_
  refine ops_rule (C := []) [] [] 1 [] 0 (fun φ3 => [(7, .int .i64 0)]) (fun φ3 => []) (fun φ3 => []) s trivial (fun φ3 => by kernel_rfl) ?_
  intro φ3 w3 s
  refine ops_done (by kernel_rfl) ?_
  refine wp_seq ?_
  refine wp_block ?_
  have hle4 := IM.Le.refl I
  refine loop_rule (fun (x : Nat × Nat) => [(0, .string ⟨(ss).toArray⟩), (6, .int .u64 ((x.1 : Nat) : Int)), (7, .int .i64 ((x.2 : Nat) : Int))]) (fun (_ : Nat × Nat) => []) (fun m (x : Nat × Nat) J => IM.Le I J ∧ x.2 + m = ss.length ∧ numL (ss.drop x.2) x.1 x.2 = numL ss 0 0 ∧ x.1 < 10 ^ x.2 ∧ x.2 ≤ 19 ∧ (1 < x.2 → ¬ (ss.getD 0 0).toNat = 48)) ss.length (0, 0) s (by kernel_rfl) List.Sublist.slnil ⟨IM.Le.refl _, Nat.zero_add _, rfl, by decide, by decide, fun q => by simp only at q; omega⟩ ?_
  rintro m ⟨n, k⟩ I5 w5 evj s ⟨le5, hm, hI, hn, hk19, hz⟩
  dsimp only at s hm hI hn hk19 hz ⊢
  replace hle4 := leMono9 le5 hle4
  refine wp_seq ?_
  refine wp_seq ?_
  refine region_rule ?_
  refine ops_rule (C := []) [] [] 5 [] 0 (fun φ6 => [(12, .bool (decide (((k : Nat) : Int) < (((ss).length : Nat) : Int)))), (11, .bool (decide (((k : Nat) : Int) < (((ss).length : Nat) : Int)))), (10, .int .i64 (((ss).length : Nat) : Int)), (9, .string ⟨(ss).toArray⟩), (8, .int .i64 ((k : Nat) : Int))]) (fun φ6 => []) (fun φ6 => []) s trivial (fun φ6 => by kernel_rfl) ?_
  intro φ6 w6 s
  rw [nat_lss (a := k) (b := ((ss).length))]
  rcases Bool.eq_false_or_eq_true (decide (k < ((ss).length))) with hc7 | hc7
  ·
    rw [hc7]
    refine ops_rule (C := []) [] [] 2 [] 0 (fun φ8 => [(14, .int .i64 ((k : Nat) : Int)), (13, .string ⟨(ss).toArray⟩)]) (fun φ8 => []) (fun φ8 => []) s trivial (fun φ8 => by kernel_rfl) ?_
    intro φ8 w8 s
    refine sem_rule (Instr.index 9 (.string ⟨(ss).toArray⟩) (.int .i64 ((k : Nat) : Int))) (some 15) (.int .u8 (((ss.getD k 0).toNat : Nat) : Int)) (by kernel_rfl) (run_idxStr (s := ss) under9 (by have hq0 := of_decide_eq_true hc7; omega)) ?_
    refine ops_rule (C := []) [] [] 3 [] 0 (fun φ9 => [(18, .bool (decide ((((ss.getD k 0).toNat : Nat) : Int) ≥ ((48 : Nat) : Int)))), (17, .bool (decide ((((ss.getD k 0).toNat : Nat) : Int) ≥ ((48 : Nat) : Int)))), (16, .bool (decide ((((ss.getD k 0).toNat : Nat) : Int) ≥ ((48 : Nat) : Int))))]) (fun φ9 => []) (fun φ9 => []) s trivial (fun φ9 => by kernel_rfl) ?_
    intro φ9 w9 s
    rw [nat_geq (a := ((ss.getD k 0).toNat)) (b := 48)]
    rcases Bool.eq_false_or_eq_true (decide (48 ≤ ((ss.getD k 0).toNat))) with hc10 | hc10
    ·
      rw [hc10]
      refine ops_rule (C := []) [] [] 2 [] 0 (fun φ11 => [(20, .int .i64 ((k : Nat) : Int)), (19, .string ⟨(ss).toArray⟩)]) (fun φ11 => []) (fun φ11 => []) s trivial (fun φ11 => by kernel_rfl) ?_
      intro φ11 w11 s
      refine sem_rule (Instr.index 9 (.string ⟨(ss).toArray⟩) (.int .i64 ((k : Nat) : Int))) (some 21) (.int .u8 (((ss.getD k 0).toNat : Nat) : Int)) (by kernel_rfl) (run_idxStr (s := ss) under9 (by have hq0 := of_decide_eq_true hc7; have hq1 := of_decide_eq_true hc10; omega)) ?_
      refine ops_rule (C := []) [] [] 2 [] 0 (fun φ12 => [(23, .bool (decide ((((ss.getD k 0).toNat : Nat) : Int) ≤ ((57 : Nat) : Int)))), (22, .bool (decide ((((ss.getD k 0).toNat : Nat) : Int) ≤ ((57 : Nat) : Int))))]) (fun φ12 => []) (fun φ12 => []) s trivial (fun φ12 => by kernel_rfl) ?_
      intro φ12 w12 s
      rw [nat_leq (a := ((ss.getD k 0).toNat)) (b := 57)]
      refine ops_done (by kernel_rfl) ?_
      rcases Bool.eq_false_or_eq_true (decide (((ss.getD k 0).toNat) ≤ 57)) with hc13 | hc13
      ·
        rw [hc13]
        refine cond_true_rule (b := true) (by kernel_rfl) rfl ?_
        refine wp_skip ?_
        refine wp_block ?_
        refine wp_seq ?_
        refine wp_seq ?_
        refine region_rule ?_
        refine ops_rule (C := []) [] [] 3 [] 0 (fun φ14 => [(26, .bool (((k : Nat) : Int) == ((19 : Nat) : Int))), (25, .bool (((k : Nat) : Int) == ((19 : Nat) : Int))), (24, .int .i64 ((k : Nat) : Int))]) (fun φ14 => []) (fun φ14 => []) s trivial (fun φ14 => by kernel_rfl) ?_
        intro φ14 w14 s
        rw [nat_eql (a := k) (b := 19)]
        rcases Bool.eq_false_or_eq_true (decide (k = 19)) with hc15 | hc15
        ·
          rw [hc15]
          refine ops_rule (C := []) [] [] 8 [] 0 (fun φ16 => [(34, .bool true), (33, undef), (32, undef), (31, undef), (30, undef), (29, undef), (28, undef), (27, undef)]) (fun φ16 => []) (fun φ16 => []) s trivial (fun φ16 => by kernel_rfl) ?_
          intro φ16 w16 s
          refine ops_done (by kernel_rfl) ?_
          refine cond_true_rule (b := true) (by kernel_rfl) rfl ?_
          refine wp_seq ?_
          refine region_rule ?_
          refine ops_rule (C := []) [] [] 5 [] 0 (fun φ17 => [(5, .bool false), (4, .bool false), (3, .string ⟨(ss).toArray⟩), (2, .int .u64 0), (35, .string ⟨(ss).toArray⟩)]) (fun φ17 => []) (fun φ17 => []) s trivial (fun φ17 => by kernel_rfl) ?_
          intro φ17 w17 s
          refine ops_done (by kernel_rfl) ?_
          refine wp_ret ?_
          refine ret_rule (C := []) [] [] (.tuple #[.int .u64 0, .string ⟨(ss).toArray⟩, .bool false, .bool false]) [] [] s trivial (by kernel_rfl) ?_
          exact ⟨_, _, _, rfl, s, (nm_none (hI.symm.trans (num_no (of_decide_eq_true hc7) (of_decide_eq_true hc10) (of_decide_eq_true hc13) (of_decide_eq_true hc15))))⟩
        ·
          rw [hc15]
          refine ops_rule (C := []) [] [] 3 [] 0 (fun φ18 => [(29, .bool (((k : Nat) : Int) == ((1 : Nat) : Int))), (28, .bool (((k : Nat) : Int) == ((1 : Nat) : Int))), (27, .int .i64 ((k : Nat) : Int))]) (fun φ18 => []) (fun φ18 => []) s trivial (fun φ18 => by kernel_rfl) ?_
          intro φ18 w18 s
          rw [nat_eql (a := k) (b := 1)]
          rcases Bool.eq_false_or_eq_true (decide (k = 1)) with hc19 | hc19
          ·
            rw [hc19]
            refine ops_rule (C := []) [] [] 1 [] 0 (fun φ20 => [(30, .string ⟨(ss).toArray⟩)]) (fun φ20 => []) (fun φ20 => []) s trivial (fun φ20 => by kernel_rfl) ?_
            intro φ20 w20 s
            refine sem_rule (Instr.index 9 (.string ⟨(ss).toArray⟩) (.int .i64 ((0 : Nat) : Int))) (some 31) (.int .u8 (((ss.getD 0 0).toNat : Nat) : Int)) (by kernel_rfl) (run_idxStr (s := ss) under9 (by have hq0 := of_decide_eq_true hc7; have hq1 := of_decide_eq_true hc10; have hq2 := of_decide_eq_true hc13; have hq3 := of_decide_eq_false hc15; have hq4 := of_decide_eq_true hc19; omega)) ?_
            refine ops_rule (C := []) [] [] 3 [] 0 (fun φ21 => [(34, .bool ((((ss.getD 0 0).toNat : Nat) : Int) == ((48 : Nat) : Int))), (33, .bool ((((ss.getD 0 0).toNat : Nat) : Int) == ((48 : Nat) : Int))), (32, .bool ((((ss.getD 0 0).toNat : Nat) : Int) == ((48 : Nat) : Int)))]) (fun φ21 => []) (fun φ21 => []) s trivial (fun φ21 => by kernel_rfl) ?_
            intro φ21 w21 s
            rw [nat_eql (a := ((ss.getD 0 0).toNat)) (b := 48)]
            refine ops_done (by kernel_rfl) ?_
            rcases Bool.eq_false_or_eq_true (decide (((ss.getD 0 0).toNat) = 48)) with hc22 | hc22
            ·
              rw [hc22]
              refine cond_true_rule (b := true) (by kernel_rfl) rfl ?_
              refine wp_seq ?_
              refine region_rule ?_
              refine ops_rule (C := []) [] [] 5 [] 0 (fun φ23 => [(5, .bool false), (4, .bool false), (3, .string ⟨(ss).toArray⟩), (2, .int .u64 0), (35, .string ⟨(ss).toArray⟩)]) (fun φ23 => []) (fun φ23 => []) s trivial (fun φ23 => by kernel_rfl) ?_
              intro φ23 w23 s
              refine ops_done (by kernel_rfl) ?_
              refine wp_ret ?_
              refine ret_rule (C := []) [] [] (.tuple #[.int .u64 0, .string ⟨(ss).toArray⟩, .bool false, .bool false]) [] [] s trivial (by kernel_rfl) ?_
              exact ⟨_, _, _, rfl, s, (by have hk1 := (of_decide_eq_true hc19); subst hk1; exact nm_zero ((num_step (n := n) (of_decide_eq_true hc7) (of_decide_eq_true hc10) (of_decide_eq_true hc13) (of_decide_eq_false hc15)).symm.trans hI) (of_decide_eq_true hc22))⟩
            ·
              rw [hc22]
              refine cond_false_rule (b := false) (by kernel_rfl) rfl ?_
              refine wp_skip ?_
              refine wp_seq ?_
              refine region_rule ?_
              refine ops_rule (C := []) [] [] 4 [] 0 (fun φ24 => [(39, .int .i64 ((k : Nat) : Int)), (38, .string ⟨(ss).toArray⟩), (37, .int .u64 (IntKind.wrap .u64 (((10 : Nat) : Int) * ((n : Nat) : Int)))), (36, .int .u64 ((n : Nat) : Int))]) (fun φ24 => []) (fun φ24 => []) s trivial (fun φ24 => by kernel_rfl) ?_
              intro φ24 w24 s
              rw [nat_mulU (a := 10) (b := n) (by have hc8 := (ss.getD k 0).toNat_lt; have hp9 : k ≤ 18 → 10 ^ k ≤ 10 ^ 18 := fun q => Nat.pow_le_pow_right (by omega) q; have hq0 := of_decide_eq_true hc7; have hq1 := of_decide_eq_true hc10; have hq2 := of_decide_eq_true hc13; have hq3 := of_decide_eq_false hc15; have hq4 := of_decide_eq_true hc19; have hq5 := of_decide_eq_false hc22; omega)]
              refine sem_rule (Instr.index 9 (.string ⟨(ss).toArray⟩) (.int .i64 ((k : Nat) : Int))) (some 40) (.int .u8 (((ss.getD k 0).toNat : Nat) : Int)) (by kernel_rfl) (run_idxStr (s := ss) under9 (by have hq0 := of_decide_eq_true hc7; have hq1 := of_decide_eq_true hc10; have hq2 := of_decide_eq_true hc13; have hq3 := of_decide_eq_false hc15; have hq4 := of_decide_eq_true hc19; have hq5 := of_decide_eq_false hc22; omega)) ?_
              refine ops_rule (C := []) [] [] 4 [] 0 (fun φ25 => [(6, .int .u64 (IntKind.wrap .u64 (((10 * n : Nat) : Int) + (IntKind.wrap .u64 (IntKind.wrap .u8 ((((ss.getD k 0).toNat : Nat) : Int) - ((48 : Nat) : Int))))))), (43, .int .u64 (IntKind.wrap .u64 (((10 * n : Nat) : Int) + (IntKind.wrap .u64 (IntKind.wrap .u8 ((((ss.getD k 0).toNat : Nat) : Int) - ((48 : Nat) : Int))))))), (42, .int .u64 (IntKind.wrap .u64 (IntKind.wrap .u8 ((((ss.getD k 0).toNat : Nat) : Int) - ((48 : Nat) : Int))))), (41, .int .u8 (IntKind.wrap .u8 ((((ss.getD k 0).toNat : Nat) : Int) - ((48 : Nat) : Int))))]) (fun φ25 => []) (fun φ25 => []) s trivial (fun φ25 => by kernel_rfl) ?_
              intro φ25 w25 s
              rw [nat_subu8 (a := ((ss.getD k 0).toNat)) (b := 48) (by have hc8 := (ss.getD k 0).toNat_lt; have hp9 : k ≤ 18 → 10 ^ k ≤ 10 ^ 18 := fun q => Nat.pow_le_pow_right (by omega) q; have hq0 := of_decide_eq_true hc7; have hq1 := of_decide_eq_true hc10; have hq2 := of_decide_eq_true hc13; have hq3 := of_decide_eq_false hc15; have hq4 := of_decide_eq_true hc19; have hq5 := of_decide_eq_false hc22; omega) (by have hc8 := (ss.getD k 0).toNat_lt; have hp9 : k ≤ 18 → 10 ^ k ≤ 10 ^ 18 := fun q => Nat.pow_le_pow_right (by omega) q; have hq0 := of_decide_eq_true hc7; have hq1 := of_decide_eq_true hc10; have hq2 := of_decide_eq_true hc13; have hq3 := of_decide_eq_false hc15; have hq4 := of_decide_eq_true hc19; have hq5 := of_decide_eq_false hc22; omega)]
              rw [nat_wrapU (a := (((ss.getD k 0).toNat) - 48)) (by have hc8 := (ss.getD k 0).toNat_lt; have hp9 : k ≤ 18 → 10 ^ k ≤ 10 ^ 18 := fun q => Nat.pow_le_pow_right (by omega) q; have hq0 := of_decide_eq_true hc7; have hq1 := of_decide_eq_true hc10; have hq2 := of_decide_eq_true hc13; have hq3 := of_decide_eq_false hc15; have hq4 := of_decide_eq_true hc19; have hq5 := of_decide_eq_false hc22; omega)]
              rw [nat_addU (a := (10 * n)) (b := (((ss.getD k 0).toNat) - 48)) (by have hc8 := (ss.getD k 0).toNat_lt; have hp9 : k ≤ 18 → 10 ^ k ≤ 10 ^ 18 := fun q => Nat.pow_le_pow_right (by omega) q; have hq0 := of_decide_eq_true hc7; have hq1 := of_decide_eq_true hc10; have hq2 := of_decide_eq_true hc13; have hq3 := of_decide_eq_false hc15; have hq4 := of_decide_eq_true hc19; have hq5 := of_decide_eq_false hc22; omega)]
              refine ops_done (by kernel_rfl) ?_
              refine region_rule ?_
              refine ops_rule (C := []) [] [] 3 [] 0 (fun φ26 => [(7, .int .i64 (IntKind.wrap .i64 (((k : Nat) : Int) + ((1 : Nat) : Int)))), (45, .int .i64 (IntKind.wrap .i64 (((k : Nat) : Int) + ((1 : Nat) : Int)))), (44, .int .i64 ((k : Nat) : Int))]) (fun φ26 => []) (fun φ26 => []) s trivial (fun φ26 => by kernel_rfl) ?_
              intro φ26 w26 s
              rw [nat_addI (a := k) (b := 1) (by have hc8 := (ss.getD k 0).toNat_lt; have hp9 : k ≤ 18 → 10 ^ k ≤ 10 ^ 18 := fun q => Nat.pow_le_pow_right (by omega) q; have hq0 := of_decide_eq_true hc7; have hq1 := of_decide_eq_true hc10; have hq2 := of_decide_eq_true hc13; have hq3 := of_decide_eq_false hc15; have hq4 := of_decide_eq_true hc19; have hq5 := of_decide_eq_false hc22; omega)]
              refine ops_done (by kernel_rfl) ?_
              have hs9 := num_step (n := n) (of_decide_eq_true hc7) (of_decide_eq_true hc10) (of_decide_eq_true hc13) (of_decide_eq_false hc15)
              have hq1 := (of_decide_eq_true hc7)
              have hq2 := (of_decide_eq_false hc15)
              have hq3 := (of_decide_eq_true hc13)
              have hq5 := (of_decide_eq_true hc19)
              exact ⟨⟨m - 1, ((10 * n) + (((ss.getD k 0).toNat) - 48), k + 1), _, _, _, by omega, rfl, s, List.Sublist.slnil, by kernel_rfl, hle4, by simp only; omega, (by rw [Nat.mul_comm 10 n]; exact hs9.symm.trans hI), by simp only [Nat.pow_succ]; omega, by simp only; omega, fun _ => (of_decide_eq_false hc22)⟩⟩
          ·
            rw [hc19]
            refine ops_rule (C := []) [] [] 5 [] 0 (fun φ27 => [(34, .bool false), (33, .bool false), (32, undef), (31, undef), (30, undef)]) (fun φ27 => []) (fun φ27 => []) s trivial (fun φ27 => by kernel_rfl) ?_
            intro φ27 w27 s
            refine ops_done (by kernel_rfl) ?_
            refine cond_false_rule (b := false) (by kernel_rfl) rfl ?_
            refine wp_skip ?_
            refine wp_seq ?_
            refine region_rule ?_
            refine ops_rule (C := []) [] [] 4 [] 0 (fun φ28 => [(39, .int .i64 ((k : Nat) : Int)), (38, .string ⟨(ss).toArray⟩), (37, .int .u64 (IntKind.wrap .u64 (((10 : Nat) : Int) * ((n : Nat) : Int)))), (36, .int .u64 ((n : Nat) : Int))]) (fun φ28 => []) (fun φ28 => []) s trivial (fun φ28 => by kernel_rfl) ?_
            intro φ28 w28 s
            rw [nat_mulU (a := 10) (b := n) (by have hc8 := (ss.getD k 0).toNat_lt; have hp9 : k ≤ 18 → 10 ^ k ≤ 10 ^ 18 := fun q => Nat.pow_le_pow_right (by omega) q; have hq0 := of_decide_eq_true hc7; have hq1 := of_decide_eq_true hc10; have hq2 := of_decide_eq_true hc13; have hq3 := of_decide_eq_false hc15; have hq4 := of_decide_eq_false hc19; omega)]
            refine sem_rule (Instr.index 9 (.string ⟨(ss).toArray⟩) (.int .i64 ((k : Nat) : Int))) (some 40) (.int .u8 (((ss.getD k 0).toNat : Nat) : Int)) (by kernel_rfl) (run_idxStr (s := ss) under9 (by have hq0 := of_decide_eq_true hc7; have hq1 := of_decide_eq_true hc10; have hq2 := of_decide_eq_true hc13; have hq3 := of_decide_eq_false hc15; have hq4 := of_decide_eq_false hc19; omega)) ?_
            refine ops_rule (C := []) [] [] 4 [] 0 (fun φ29 => [(6, .int .u64 (IntKind.wrap .u64 (((10 * n : Nat) : Int) + (IntKind.wrap .u64 (IntKind.wrap .u8 ((((ss.getD k 0).toNat : Nat) : Int) - ((48 : Nat) : Int))))))), (43, .int .u64 (IntKind.wrap .u64 (((10 * n : Nat) : Int) + (IntKind.wrap .u64 (IntKind.wrap .u8 ((((ss.getD k 0).toNat : Nat) : Int) - ((48 : Nat) : Int))))))), (42, .int .u64 (IntKind.wrap .u64 (IntKind.wrap .u8 ((((ss.getD k 0).toNat : Nat) : Int) - ((48 : Nat) : Int))))), (41, .int .u8 (IntKind.wrap .u8 ((((ss.getD k 0).toNat : Nat) : Int) - ((48 : Nat) : Int))))]) (fun φ29 => []) (fun φ29 => []) s trivial (fun φ29 => by kernel_rfl) ?_
            intro φ29 w29 s
            rw [nat_subu8 (a := ((ss.getD k 0).toNat)) (b := 48) (by have hc8 := (ss.getD k 0).toNat_lt; have hp9 : k ≤ 18 → 10 ^ k ≤ 10 ^ 18 := fun q => Nat.pow_le_pow_right (by omega) q; have hq0 := of_decide_eq_true hc7; have hq1 := of_decide_eq_true hc10; have hq2 := of_decide_eq_true hc13; have hq3 := of_decide_eq_false hc15; have hq4 := of_decide_eq_false hc19; omega) (by have hc8 := (ss.getD k 0).toNat_lt; have hp9 : k ≤ 18 → 10 ^ k ≤ 10 ^ 18 := fun q => Nat.pow_le_pow_right (by omega) q; have hq0 := of_decide_eq_true hc7; have hq1 := of_decide_eq_true hc10; have hq2 := of_decide_eq_true hc13; have hq3 := of_decide_eq_false hc15; have hq4 := of_decide_eq_false hc19; omega)]
            rw [nat_wrapU (a := (((ss.getD k 0).toNat) - 48)) (by have hc8 := (ss.getD k 0).toNat_lt; have hp9 : k ≤ 18 → 10 ^ k ≤ 10 ^ 18 := fun q => Nat.pow_le_pow_right (by omega) q; have hq0 := of_decide_eq_true hc7; have hq1 := of_decide_eq_true hc10; have hq2 := of_decide_eq_true hc13; have hq3 := of_decide_eq_false hc15; have hq4 := of_decide_eq_false hc19; omega)]
            rw [nat_addU (a := (10 * n)) (b := (((ss.getD k 0).toNat) - 48)) (by have hc8 := (ss.getD k 0).toNat_lt; have hp9 : k ≤ 18 → 10 ^ k ≤ 10 ^ 18 := fun q => Nat.pow_le_pow_right (by omega) q; have hq0 := of_decide_eq_true hc7; have hq1 := of_decide_eq_true hc10; have hq2 := of_decide_eq_true hc13; have hq3 := of_decide_eq_false hc15; have hq4 := of_decide_eq_false hc19; omega)]
            refine ops_done (by kernel_rfl) ?_
            refine region_rule ?_
            refine ops_rule (C := []) [] [] 3 [] 0 (fun φ30 => [(7, .int .i64 (IntKind.wrap .i64 (((k : Nat) : Int) + ((1 : Nat) : Int)))), (45, .int .i64 (IntKind.wrap .i64 (((k : Nat) : Int) + ((1 : Nat) : Int)))), (44, .int .i64 ((k : Nat) : Int))]) (fun φ30 => []) (fun φ30 => []) s trivial (fun φ30 => by kernel_rfl) ?_
            intro φ30 w30 s
            rw [nat_addI (a := k) (b := 1) (by have hc8 := (ss.getD k 0).toNat_lt; have hp9 : k ≤ 18 → 10 ^ k ≤ 10 ^ 18 := fun q => Nat.pow_le_pow_right (by omega) q; have hq0 := of_decide_eq_true hc7; have hq1 := of_decide_eq_true hc10; have hq2 := of_decide_eq_true hc13; have hq3 := of_decide_eq_false hc15; have hq4 := of_decide_eq_false hc19; omega)]
            refine ops_done (by kernel_rfl) ?_
            have hs9 := num_step (n := n) (of_decide_eq_true hc7) (of_decide_eq_true hc10) (of_decide_eq_true hc13) (of_decide_eq_false hc15)
            have hq1 := (of_decide_eq_true hc7)
            have hq2 := (of_decide_eq_false hc15)
            have hq3 := (of_decide_eq_true hc13)
            have hq5 := (of_decide_eq_false hc19)
            exact ⟨⟨m - 1, ((10 * n) + (((ss.getD k 0).toNat) - 48), k + 1), _, _, _, by omega, rfl, s, List.Sublist.slnil, by kernel_rfl, hle4, by simp only; omega, (by rw [Nat.mul_comm 10 n]; exact hs9.symm.trans hI), by simp only [Nat.pow_succ]; omega, by simp only; omega, fun q => hz (by simp only at q; omega)⟩⟩
      ·
        rw [hc13]
        refine cond_false_rule (b := false) (by kernel_rfl) rfl ?_
        refine wp_exit ?_
        refine wp_seq ?_
        refine wp_seq ?_
        refine region_rule ?_
        refine ops_rule (C := []) [] [] 2 [] 0 (fun φ31 => [(47, .bool (decide (((n : Nat) : Int) > ((1048576 : Nat) : Int)))), (46, .int .u64 ((n : Nat) : Int))]) (fun φ31 => []) (fun φ31 => []) s trivial (fun φ31 => by kernel_rfl) ?_
        intro φ31 w31 s
        rw [nat_gtr (a := n) (b := 1048576)]
        refine ops_done (by kernel_rfl) ?_
        rcases Bool.eq_false_or_eq_true (decide (1048576 < n)) with hc32 | hc32
        ·
          rw [hc32]
          refine cond_true_rule (b := true) (by kernel_rfl) rfl ?_
          refine wp_seq ?_
          refine draw_rule (C := []) ⟨(fun φ33 xs33 => [.look 0 [] [], .look 0 [] [], .ran (Instr.sliceAt 9 (.string ⟨(ss).toArray⟩) (some (.int .i64 ((k : Nat) : Int))) none none), .look 0 [] [], .look 0 [] [], .look 0 [] [], .look 0 [] []]), (fun φ33 xs33 => [.string ⟨(ss).toArray⟩, .int .i64 ((k : Nat) : Int), .string ⟨(ss.drop k).toArray⟩, .int .u64 1048576, .string ⟨(ss.drop k).toArray⟩, .bool true, .bool true]), (fun φ33 xs33 => [[]]), (fun φ33 xs33 => [[default, default, default, default, default, default, default]]), [], [1, 1, 6, 1, 1, 1, 1]⟩ (fun j => ([MP.any, MP.any, MP.any, MP.any, MP.any, MP.any, MP.any] : List MP).getD j MP.any) [] [] [2] (fun φ33 xs33 => []) (fun φ33 xs33 => [(48, .string ⟨(ss).toArray⟩), (49, .int .i64 ((k : Nat) : Int)), (50, .string ⟨(ss.drop k).toArray⟩), (2, .int .u64 1048576), (3, .string ⟨(ss.drop k).toArray⟩), (4, .bool true), (5, .bool true)]) (fun φ33 xs33 => []) s trivial (by kernel_rfl) (by kernel_rfl) (fun _ _ => by kernel_rfl) (fun _ _ => by kernel_rfl) ⟨fun _ _ => by kernel_rfl, fun _ _ => by kernel_rfl, fun _ _ => by kernel_rfl, fun _ _ => by kernel_rfl⟩ (fun _ _ _ => by kernel_rfl) (fun _ _ => by kernel_rfl) (fun _ _ => by kernel_rfl) (fun _ _ => by kernel_rfl) (fun _ _ => by kernel_rfl) (fun _ _ => by kernel_rfl) trivial ⟨kcast (A := ∀ (φ33 : Nat → Nat) (xs33 : Xs) (J : IM) (w : World), I5.Le J → J.Sub w → ((Instr.sliceAt 9 (.string ⟨(ss).toArray⟩) (some (.int .i64 ((k : Nat) : Int))) none none) : Sem Value).run Tryd.prog w = .ok (.string ⟨(ss.drop k).toArray⟩) w) (by kernel_rfl) (fun φ33 xs33 J w hJ hS => run_dropStr (s := ss) (lo := k) under9 (by have hq0 := of_decide_eq_true hc7; have hq1 := of_decide_eq_true hc10; have hq2 := of_decide_eq_false hc13; have hq3 := of_decide_eq_true hc32; omega)), trivial⟩ (by kernel_rfl) trivial ?k33
          case k33 =>
            rintro φ33 xs33 I33 w33 le33 s 
            replace hle4 := leMono9 le33 hle4
            refine wp_ret ?_
            refine ret_rule (C := []) [] [] (.tuple #[.int .u64 1048576, .string ⟨(ss.drop k).toArray⟩, .bool true, .bool true]) [] [] s trivial (by kernel_rfl) ?_
            exact ⟨_, _, _, rfl, s, (nm_big (hI.symm.trans (num_stop (of_decide_eq_true hc7) (fun q => (of_decide_eq_false hc13) q.2))) hz hn (of_decide_eq_true hc32))⟩
        ·
          rw [hc32]
          refine cond_false_rule (b := false) (by kernel_rfl) rfl ?_
          refine wp_skip ?_
          refine wp_seq ?_
          refine draw_rule (C := []) ⟨(fun φ34 xs34 => [.look 0 [] [], .look 0 [] [], .look 0 [] [], .ran (Instr.sliceAt 9 (.string ⟨(ss).toArray⟩) (some (.int .i64 ((k : Nat) : Int))) none none), .look 0 [] [], .sub 0 [] [] (.bool (decide (((k : Nat) : Int) > ((0 : Nat) : Int)))), .look 0 [] [], .look 0 [] [], .look 0 [] [], .look 0 [] []]), (fun φ34 xs34 => [.int .u64 ((n : Nat) : Int), .string ⟨(ss).toArray⟩, .int .i64 ((k : Nat) : Int), .string ⟨(ss.drop k).toArray⟩, .int .i64 ((k : Nat) : Int), .bool (decide (0 < k)), .int .u64 ((n : Nat) : Int), .string ⟨(ss.drop k).toArray⟩, .bool (decide (0 < k)), .bool false]), (fun φ34 xs34 => [[]]), (fun φ34 xs34 => [[default, default, default, default, default, default, default, default, default, default]]), [], [1, 1, 1, 6, 1, 5, 1, 1, 1, 1]⟩ (fun j => ([MP.any, MP.any, MP.any, MP.any, MP.any, MP.any, MP.any, MP.any, MP.any, MP.any] : List MP).getD j MP.any) [] [5] [3] (fun φ34 xs34 => []) (fun φ34 xs34 => [(51, .int .u64 ((n : Nat) : Int)), (52, .string ⟨(ss).toArray⟩), (53, .int .i64 ((k : Nat) : Int)), (54, .string ⟨(ss.drop k).toArray⟩), (55, .int .i64 ((k : Nat) : Int)), (56, .bool (decide (0 < k))), (2, .int .u64 ((n : Nat) : Int)), (3, .string ⟨(ss.drop k).toArray⟩), (4, .bool (decide (0 < k))), (5, .bool false)]) (fun φ34 xs34 => []) s trivial (by kernel_rfl) (by kernel_rfl) (fun _ _ => by kernel_rfl) (fun _ _ => by kernel_rfl) ⟨fun _ _ => by kernel_rfl, fun _ _ => by kernel_rfl, fun _ _ => by kernel_rfl, fun _ _ => by kernel_rfl⟩ (fun _ _ _ => by kernel_rfl) (fun _ _ => by kernel_rfl) (fun _ _ => by kernel_rfl) (fun _ _ => by kernel_rfl) (fun _ _ => by kernel_rfl) (fun _ _ => by kernel_rfl) ⟨kcast (A := ∀ (φ34 : Nat → Nat) (xs34 : Xs), (.bool (decide (((k : Nat) : Int) > ((0 : Nat) : Int))) : Value) = .bool (decide (0 < k))) (by kernel_rfl) (fun φ34 xs34 => congrArg Value.bool ((nat_gtr (a := k) (b := 0)))), trivial⟩ ⟨kcast (A := ∀ (φ34 : Nat → Nat) (xs34 : Xs) (J : IM) (w : World), I5.Le J → J.Sub w → ((Instr.sliceAt 9 (.string ⟨(ss).toArray⟩) (some (.int .i64 ((k : Nat) : Int))) none none) : Sem Value).run Tryd.prog w = .ok (.string ⟨(ss.drop k).toArray⟩) w) (by kernel_rfl) (fun φ34 xs34 J w hJ hS => run_dropStr (s := ss) (lo := k) under9 (by have hq0 := of_decide_eq_true hc7; have hq1 := of_decide_eq_true hc10; have hq2 := of_decide_eq_false hc13; have hq3 := of_decide_eq_false hc32; omega)), trivial⟩ (by kernel_rfl) trivial ?k34
          case k34 =>
            rintro φ34 xs34 I34 w34 le34 s 
            replace hle4 := leMono9 le34 hle4
            refine wp_ret ?_
            refine ret_rule (C := []) [] [] (.tuple #[.int .u64 ((n : Nat) : Int), .string ⟨(ss.drop k).toArray⟩, .bool (decide (0 < k)), .bool false]) [] [] s trivial (by kernel_rfl) ?_
            exact ⟨_, _, _, rfl, s, (nm_small (hI.symm.trans (num_stop (of_decide_eq_true hc7) (fun q => (of_decide_eq_false hc13) q.2))) hz hn (of_decide_eq_false hc32))⟩
    ·
      rw [hc10]
      refine ops_rule (C := []) [] [] 5 [] 0 (fun φ35 => [(23, .bool false), (22, undef), (21, undef), (20, undef), (19, undef)]) (fun φ35 => []) (fun φ35 => []) s trivial (fun φ35 => by kernel_rfl) ?_
      intro φ35 w35 s
      refine ops_done (by kernel_rfl) ?_
      refine cond_false_rule (b := false) (by kernel_rfl) rfl ?_
      refine wp_exit ?_
      refine wp_seq ?_
      refine wp_seq ?_
      refine region_rule ?_
      refine ops_rule (C := []) [] [] 2 [] 0 (fun φ36 => [(47, .bool (decide (((n : Nat) : Int) > ((1048576 : Nat) : Int)))), (46, .int .u64 ((n : Nat) : Int))]) (fun φ36 => []) (fun φ36 => []) s trivial (fun φ36 => by kernel_rfl) ?_
      intro φ36 w36 s
      rw [nat_gtr (a := n) (b := 1048576)]
      refine ops_done (by kernel_rfl) ?_
      rcases Bool.eq_false_or_eq_true (decide (1048576 < n)) with hc37 | hc37
      ·
        rw [hc37]
        refine cond_true_rule (b := true) (by kernel_rfl) rfl ?_
        refine wp_seq ?_
        refine draw_rule (C := []) ⟨(fun φ38 xs38 => [.look 0 [] [], .look 0 [] [], .ran (Instr.sliceAt 9 (.string ⟨(ss).toArray⟩) (some (.int .i64 ((k : Nat) : Int))) none none), .look 0 [] [], .look 0 [] [], .look 0 [] [], .look 0 [] []]), (fun φ38 xs38 => [.string ⟨(ss).toArray⟩, .int .i64 ((k : Nat) : Int), .string ⟨(ss.drop k).toArray⟩, .int .u64 1048576, .string ⟨(ss.drop k).toArray⟩, .bool true, .bool true]), (fun φ38 xs38 => [[]]), (fun φ38 xs38 => [[default, default, default, default, default, default, default]]), [], [1, 1, 6, 1, 1, 1, 1]⟩ (fun j => ([MP.any, MP.any, MP.any, MP.any, MP.any, MP.any, MP.any] : List MP).getD j MP.any) [] [] [2] (fun φ38 xs38 => []) (fun φ38 xs38 => [(48, .string ⟨(ss).toArray⟩), (49, .int .i64 ((k : Nat) : Int)), (50, .string ⟨(ss.drop k).toArray⟩), (2, .int .u64 1048576), (3, .string ⟨(ss.drop k).toArray⟩), (4, .bool true), (5, .bool true)]) (fun φ38 xs38 => []) s trivial (by kernel_rfl) (by kernel_rfl) (fun _ _ => by kernel_rfl) (fun _ _ => by kernel_rfl) ⟨fun _ _ => by kernel_rfl, fun _ _ => by kernel_rfl, fun _ _ => by kernel_rfl, fun _ _ => by kernel_rfl⟩ (fun _ _ _ => by kernel_rfl) (fun _ _ => by kernel_rfl) (fun _ _ => by kernel_rfl) (fun _ _ => by kernel_rfl) (fun _ _ => by kernel_rfl) (fun _ _ => by kernel_rfl) trivial ⟨kcast (A := ∀ (φ38 : Nat → Nat) (xs38 : Xs) (J : IM) (w : World), I5.Le J → J.Sub w → ((Instr.sliceAt 9 (.string ⟨(ss).toArray⟩) (some (.int .i64 ((k : Nat) : Int))) none none) : Sem Value).run Tryd.prog w = .ok (.string ⟨(ss.drop k).toArray⟩) w) (by kernel_rfl) (fun φ38 xs38 J w hJ hS => run_dropStr (s := ss) (lo := k) under9 (by have hq0 := of_decide_eq_true hc7; have hq1 := of_decide_eq_false hc10; have hq2 := of_decide_eq_true hc37; omega)), trivial⟩ (by kernel_rfl) trivial ?k38
        case k38 =>
          rintro φ38 xs38 I38 w38 le38 s 
          replace hle4 := leMono9 le38 hle4
          refine wp_ret ?_
          refine ret_rule (C := []) [] [] (.tuple #[.int .u64 1048576, .string ⟨(ss.drop k).toArray⟩, .bool true, .bool true]) [] [] s trivial (by kernel_rfl) ?_
          exact ⟨_, _, _, rfl, s, (nm_big (hI.symm.trans (num_stop (of_decide_eq_true hc7) (fun q => (of_decide_eq_false hc10) q.1))) hz hn (of_decide_eq_true hc37))⟩
      ·
        rw [hc37]
        refine cond_false_rule (b := false) (by kernel_rfl) rfl ?_
        refine wp_skip ?_
        refine wp_seq ?_
        refine draw_rule (C := []) ⟨(fun φ39 xs39 => [.look 0 [] [], .look 0 [] [], .look 0 [] [], .ran (Instr.sliceAt 9 (.string ⟨(ss).toArray⟩) (some (.int .i64 ((k : Nat) : Int))) none none), .look 0 [] [], .sub 0 [] [] (.bool (decide (((k : Nat) : Int) > ((0 : Nat) : Int)))), .look 0 [] [], .look 0 [] [], .look 0 [] [], .look 0 [] []]), (fun φ39 xs39 => [.int .u64 ((n : Nat) : Int), .string ⟨(ss).toArray⟩, .int .i64 ((k : Nat) : Int), .string ⟨(ss.drop k).toArray⟩, .int .i64 ((k : Nat) : Int), .bool (decide (0 < k)), .int .u64 ((n : Nat) : Int), .string ⟨(ss.drop k).toArray⟩, .bool (decide (0 < k)), .bool false]), (fun φ39 xs39 => [[]]), (fun φ39 xs39 => [[default, default, default, default, default, default, default, default, default, default]]), [], [1, 1, 1, 6, 1, 5, 1, 1, 1, 1]⟩ (fun j => ([MP.any, MP.any, MP.any, MP.any, MP.any, MP.any, MP.any, MP.any, MP.any, MP.any] : List MP).getD j MP.any) [] [5] [3] (fun φ39 xs39 => []) (fun φ39 xs39 => [(51, .int .u64 ((n : Nat) : Int)), (52, .string ⟨(ss).toArray⟩), (53, .int .i64 ((k : Nat) : Int)), (54, .string ⟨(ss.drop k).toArray⟩), (55, .int .i64 ((k : Nat) : Int)), (56, .bool (decide (0 < k))), (2, .int .u64 ((n : Nat) : Int)), (3, .string ⟨(ss.drop k).toArray⟩), (4, .bool (decide (0 < k))), (5, .bool false)]) (fun φ39 xs39 => []) s trivial (by kernel_rfl) (by kernel_rfl) (fun _ _ => by kernel_rfl) (fun _ _ => by kernel_rfl) ⟨fun _ _ => by kernel_rfl, fun _ _ => by kernel_rfl, fun _ _ => by kernel_rfl, fun _ _ => by kernel_rfl⟩ (fun _ _ _ => by kernel_rfl) (fun _ _ => by kernel_rfl) (fun _ _ => by kernel_rfl) (fun _ _ => by kernel_rfl) (fun _ _ => by kernel_rfl) (fun _ _ => by kernel_rfl) ⟨kcast (A := ∀ (φ39 : Nat → Nat) (xs39 : Xs), (.bool (decide (((k : Nat) : Int) > ((0 : Nat) : Int))) : Value) = .bool (decide (0 < k))) (by kernel_rfl) (fun φ39 xs39 => congrArg Value.bool ((nat_gtr (a := k) (b := 0)))), trivial⟩ ⟨kcast (A := ∀ (φ39 : Nat → Nat) (xs39 : Xs) (J : IM) (w : World), I5.Le J → J.Sub w → ((Instr.sliceAt 9 (.string ⟨(ss).toArray⟩) (some (.int .i64 ((k : Nat) : Int))) none none) : Sem Value).run Tryd.prog w = .ok (.string ⟨(ss.drop k).toArray⟩) w) (by kernel_rfl) (fun φ39 xs39 J w hJ hS => run_dropStr (s := ss) (lo := k) under9 (by have hq0 := of_decide_eq_true hc7; have hq1 := of_decide_eq_false hc10; have hq2 := of_decide_eq_false hc37; omega)), trivial⟩ (by kernel_rfl) trivial ?k39
        case k39 =>
          rintro φ39 xs39 I39 w39 le39 s 
          replace hle4 := leMono9 le39 hle4
          refine wp_ret ?_
          refine ret_rule (C := []) [] [] (.tuple #[.int .u64 ((n : Nat) : Int), .string ⟨(ss.drop k).toArray⟩, .bool (decide (0 < k)), .bool false]) [] [] s trivial (by kernel_rfl) ?_
          exact ⟨_, _, _, rfl, s, (nm_small (hI.symm.trans (num_stop (of_decide_eq_true hc7) (fun q => (of_decide_eq_false hc10) q.1))) hz hn (of_decide_eq_false hc37))⟩
  ·
    rw [hc7]
    refine ops_rule (C := []) [] [] 11 [] 0 (fun φ40 => [(23, .bool false), (22, undef), (21, undef), (20, undef), (19, undef), (18, .bool false), (17, .bool false), (16, undef), (15, undef), (14, undef), (13, undef)]) (fun φ40 => []) (fun φ40 => []) s trivial (fun φ40 => by kernel_rfl) ?_
    intro φ40 w40 s
    refine ops_done (by kernel_rfl) ?_
    refine cond_false_rule (b := false) (by kernel_rfl) rfl ?_
    refine wp_exit ?_
    refine wp_seq ?_
    refine wp_seq ?_
    refine region_rule ?_
    refine ops_rule (C := []) [] [] 2 [] 0 (fun φ41 => [(47, .bool (decide (((n : Nat) : Int) > ((1048576 : Nat) : Int)))), (46, .int .u64 ((n : Nat) : Int))]) (fun φ41 => []) (fun φ41 => []) s trivial (fun φ41 => by kernel_rfl) ?_
    intro φ41 w41 s
    rw [nat_gtr (a := n) (b := 1048576)]
    refine ops_done (by kernel_rfl) ?_
    rcases Bool.eq_false_or_eq_true (decide (1048576 < n)) with hc42 | hc42
    ·
      rw [hc42]
      refine cond_true_rule (b := true) (by kernel_rfl) rfl ?_
      refine wp_seq ?_
      refine draw_rule (C := []) ⟨(fun φ43 xs43 => [.look 0 [] [], .look 0 [] [], .ran (Instr.sliceAt 9 (.string ⟨(ss).toArray⟩) (some (.int .i64 ((k : Nat) : Int))) none none), .look 0 [] [], .look 0 [] [], .look 0 [] [], .look 0 [] []]), (fun φ43 xs43 => [.string ⟨(ss).toArray⟩, .int .i64 ((k : Nat) : Int), .string ⟨(ss.drop k).toArray⟩, .int .u64 1048576, .string ⟨(ss.drop k).toArray⟩, .bool true, .bool true]), (fun φ43 xs43 => [[]]), (fun φ43 xs43 => [[default, default, default, default, default, default, default]]), [], [1, 1, 6, 1, 1, 1, 1]⟩ (fun j => ([MP.any, MP.any, MP.any, MP.any, MP.any, MP.any, MP.any] : List MP).getD j MP.any) [] [] [2] (fun φ43 xs43 => []) (fun φ43 xs43 => [(48, .string ⟨(ss).toArray⟩), (49, .int .i64 ((k : Nat) : Int)), (50, .string ⟨(ss.drop k).toArray⟩), (2, .int .u64 1048576), (3, .string ⟨(ss.drop k).toArray⟩), (4, .bool true), (5, .bool true)]) (fun φ43 xs43 => []) s trivial (by kernel_rfl) (by kernel_rfl) (fun _ _ => by kernel_rfl) (fun _ _ => by kernel_rfl) ⟨fun _ _ => by kernel_rfl, fun _ _ => by kernel_rfl, fun _ _ => by kernel_rfl, fun _ _ => by kernel_rfl⟩ (fun _ _ _ => by kernel_rfl) (fun _ _ => by kernel_rfl) (fun _ _ => by kernel_rfl) (fun _ _ => by kernel_rfl) (fun _ _ => by kernel_rfl) (fun _ _ => by kernel_rfl) trivial ⟨kcast (A := ∀ (φ43 : Nat → Nat) (xs43 : Xs) (J : IM) (w : World), I5.Le J → J.Sub w → ((Instr.sliceAt 9 (.string ⟨(ss).toArray⟩) (some (.int .i64 ((k : Nat) : Int))) none none) : Sem Value).run Tryd.prog w = .ok (.string ⟨(ss.drop k).toArray⟩) w) (by kernel_rfl) (fun φ43 xs43 J w hJ hS => run_dropStr (s := ss) (lo := k) under9 (by have hq0 := of_decide_eq_false hc7; have hq1 := of_decide_eq_true hc42; omega)), trivial⟩ (by kernel_rfl) trivial ?k43
      case k43 =>
        rintro φ43 xs43 I43 w43 le43 s 
        replace hle4 := leMono9 le43 hle4
        refine wp_ret ?_
        refine ret_rule (C := []) [] [] (.tuple #[.int .u64 1048576, .string ⟨(ss.drop k).toArray⟩, .bool true, .bool true]) [] [] s trivial (by kernel_rfl) ?_
        exact ⟨_, _, _, rfl, s, (nm_big (hI.symm.trans (num_end (by have := (of_decide_eq_false hc7); omega))) hz hn (of_decide_eq_true hc42))⟩
    ·
      rw [hc42]
      refine cond_false_rule (b := false) (by kernel_rfl) rfl ?_
      refine wp_skip ?_
      refine wp_seq ?_
      refine draw_rule (C := []) ⟨(fun φ44 xs44 => [.look 0 [] [], .look 0 [] [], .look 0 [] [], .ran (Instr.sliceAt 9 (.string ⟨(ss).toArray⟩) (some (.int .i64 ((k : Nat) : Int))) none none), .look 0 [] [], .sub 0 [] [] (.bool (decide (((k : Nat) : Int) > ((0 : Nat) : Int)))), .look 0 [] [], .look 0 [] [], .look 0 [] [], .look 0 [] []]), (fun φ44 xs44 => [.int .u64 ((n : Nat) : Int), .string ⟨(ss).toArray⟩, .int .i64 ((k : Nat) : Int), .string ⟨(ss.drop k).toArray⟩, .int .i64 ((k : Nat) : Int), .bool (decide (0 < k)), .int .u64 ((n : Nat) : Int), .string ⟨(ss.drop k).toArray⟩, .bool (decide (0 < k)), .bool false]), (fun φ44 xs44 => [[]]), (fun φ44 xs44 => [[default, default, default, default, default, default, default, default, default, default]]), [], [1, 1, 1, 6, 1, 5, 1, 1, 1, 1]⟩ (fun j => ([MP.any, MP.any, MP.any, MP.any, MP.any, MP.any, MP.any, MP.any, MP.any, MP.any] : List MP).getD j MP.any) [] [5] [3] (fun φ44 xs44 => []) (fun φ44 xs44 => [(51, .int .u64 ((n : Nat) : Int)), (52, .string ⟨(ss).toArray⟩), (53, .int .i64 ((k : Nat) : Int)), (54, .string ⟨(ss.drop k).toArray⟩), (55, .int .i64 ((k : Nat) : Int)), (56, .bool (decide (0 < k))), (2, .int .u64 ((n : Nat) : Int)), (3, .string ⟨(ss.drop k).toArray⟩), (4, .bool (decide (0 < k))), (5, .bool false)]) (fun φ44 xs44 => []) s trivial (by kernel_rfl) (by kernel_rfl) (fun _ _ => by kernel_rfl) (fun _ _ => by kernel_rfl) ⟨fun _ _ => by kernel_rfl, fun _ _ => by kernel_rfl, fun _ _ => by kernel_rfl, fun _ _ => by kernel_rfl⟩ (fun _ _ _ => by kernel_rfl) (fun _ _ => by kernel_rfl) (fun _ _ => by kernel_rfl) (fun _ _ => by kernel_rfl) (fun _ _ => by kernel_rfl) (fun _ _ => by kernel_rfl) ⟨kcast (A := ∀ (φ44 : Nat → Nat) (xs44 : Xs), (.bool (decide (((k : Nat) : Int) > ((0 : Nat) : Int))) : Value) = .bool (decide (0 < k))) (by kernel_rfl) (fun φ44 xs44 => congrArg Value.bool ((nat_gtr (a := k) (b := 0)))), trivial⟩ ⟨kcast (A := ∀ (φ44 : Nat → Nat) (xs44 : Xs) (J : IM) (w : World), I5.Le J → J.Sub w → ((Instr.sliceAt 9 (.string ⟨(ss).toArray⟩) (some (.int .i64 ((k : Nat) : Int))) none none) : Sem Value).run Tryd.prog w = .ok (.string ⟨(ss.drop k).toArray⟩) w) (by kernel_rfl) (fun φ44 xs44 J w hJ hS => run_dropStr (s := ss) (lo := k) under9 (by have hq0 := of_decide_eq_false hc7; have hq1 := of_decide_eq_false hc42; omega)), trivial⟩ (by kernel_rfl) trivial ?k44
      case k44 =>
        rintro φ44 xs44 I44 w44 le44 s 
        replace hle4 := leMono9 le44 hle4
        refine wp_ret ?_
        refine ret_rule (C := []) [] [] (.tuple #[.int .u64 ((n : Nat) : Int), .string ⟨(ss.drop k).toArray⟩, .bool (decide (0 < k)), .bool false]) [] [] s trivial (by kernel_rfl) ?_
        exact ⟨_, _, _, rfl, s, (nm_small (hI.symm.trans (num_end (by have := (of_decide_eq_false hc7); omega))) hz hn (of_decide_eq_false hc42))⟩

end Go.Proofs.YtgdickihjaomjaaDoor
/- Any text is read: the document's reader. -/
set_option linter.all false
set_option maxRecDepth 100000
namespace Go.Proofs.YtgdickihjaomjaaDoor
open Go.RowKit Go.Sep
attribute [local irreducible] Go.wpList Go.Code.wp
/-- as the document reads it: one above the greatest height counts as that -/
def cE : E → E
  | .leaf n => .leaf (min n 1048576)
  | .node n l r => .node (min n 1048576) (cE l) (cE r)
def abv : E → Bool
  | .leaf n => decide (1048576 < n)
  | .node n l r => abv l || abv r || decide (1048576 < n)
def okT : E → Prop
  | .leaf _ => True
  | .node n l r => okT l ∧ okT r ∧ mayP (shE l) (shE r) = true
theorem okT_nf : ∀ {t : E}, okT t → t.nf
  | .leaf _, _ => trivial
  | .node _ _ _, h => ⟨okT_nf h.1, okT_nf h.2.1, pair_nf h.2.2⟩
theorem shE_c (t : E) : shE (cE t) = shE t := by
  cases t <;> simp only [cE, shE, leafSh, nodeSh] <;> split <;> split <;> omega
theorem okT_c : ∀ {t : E}, okT t → okT (cE t)
  | .leaf _, _ => trivial
  | .node _ _ _, h => ⟨okT_c h.1, okT_c h.2.1, by rw [shE_c, shE_c]; exact h.2.2⟩
theorem rd_okT : ∀ (f : Nat) {s : List UInt8} {t : E} {rest : List UInt8}, rdG f s = some (t, rest) → okT t
  | 0, s, t, rest, h => by cases h
  | f + 1, s, t, rest, h => by
    rcases rd_inv h with ⟨h40, n, k, hN, rfl, rfl⟩ | ⟨h40, n, k, l, r, s2, s3, hN, h44a, hl, h44, hr, h41, hm, rfl, rfl⟩
    · trivial
    · exact ⟨rd_okT f hl, rd_okT f hr, hm⟩
theorem dep_text : ∀ t : E, t.depth ≤ (textE t).length
  | .leaf _ => Nat.zero_le _
  | .node n l r => by
    have h1 := dep_text l
    have h2 := dep_text r
    show 1 + max l.depth r.depth ≤ ([40] ++ Lib.decDigits n ++ [44] ++ textE l ++ [44] ++ textE r ++ [41]).length
    simp only [List.length_append, List.length_cons, List.length_nil]; omega
theorem rd_dep {f : Nat} {s : List UInt8} {t : E} {rest : List UInt8} (h : rdG f s = some (t, rest)) : t.depth ≤ s.length := by
  have := congrArg List.length (rd_text f s h).1
  have h2 := dep_text t
  rw [List.length_append] at this; omega
theorem top_c : ∀ t : E, (cE t).top ≤ (t.depth + 1) * 1048576
  | .leaf n => by show min n 1048576 ≤ (0 + 1) * 1048576; omega
  | .node n l r => by
    have h1 := top_c l
    have h2 := top_c r
    show min n 1048576 + max (cE l).top (cE r).top ≤ (1 + max l.depth r.depth + 1) * 1048576
    omega
theorem rd_small {f : Nat} {s : List UInt8} {t : E} {rest : List UInt8} (h : rdG f s = some (t, rest)) (hs : s.length ≤ 1000) : (cE t).top < 18446744073709551616 := by
  have h1 := top_c t
  have h2 := rd_dep h
  omega
theorem dep_c : ∀ t : E, (cE t).depth = t.depth
  | .leaf _ => rfl
  | .node _ l r => by show 1 + max (cE l).depth (cE r).depth = 1 + max l.depth r.depth; rw [dep_c l, dep_c r]
def RD (J : IM) (o : Option (E × List UInt8)) (k : Nat) (r : List UInt8) (a : Bool) : Prop := ∀ t rest, o = some (t, rest) → r = rest ∧ a = abv t ∧ RE J (cE t) k
theorem RD.mono {I J : IM} (le : I.Le J) {o : Option (E × List UInt8)} {k : Nat} {r : List UInt8} {a : Bool} (h : RD I o k r a) : RD J o k r a := fun t rest e => ⟨(h t rest e).1, (h t rest e).2.1, (h t rest e).2.2.mono le⟩
theorem isS {o : Option (E × List UInt8)} (h : o.isSome = true) : ∃ x, o = some x := Option.isSome_iff_exists.1 h
theorem isN {o : Option (E × List UInt8)} (h : o.isSome = false) : o = none := by cases o with | none => rfl | some x => cases h
theorem tk_len {s : List UInt8} {c : Nat} (h : s.length = 0) : tkB s 0 c = false := decide_eq_false fun q => q.1 h.symm
theorem tk_neq {s : List UInt8} {c : Nat} (h : (s.getD 0 0).toNat ≠ c) : tkB s 0 c = false := decide_eq_false fun q => h q.2
theorem tk_eq {s : List UInt8} {c : Nat} (h : ¬ s.length = 0) (h2 : ¬ (s.getD 0 0).toNat ≠ c) : tkB s 0 c = true := decide_eq_true ⟨fun q => h q.symm, Decidable.not_not.1 h2⟩
theorem refnumV_c {I : IM} {ss : List UInt8} (hs : ss.length ≤ 1000000) : Fun Tryd.prog 108 #[.string ⟨(ss).toArray⟩] I (fun v J => v = .tuple #[.int .u64 ((min (numR ss).1 1048576 : Nat) : Int), .string ⟨(ss.drop (numR ss).2.1).toArray⟩, .bool (numR ss).2.2, .bool (decide (1048576 < (numR ss).1))]) := refnum_c hs
theorem rminC_c {I : IM} {e : E} {k b : Nat} (h : RE I e k) (hn : e.nf) (ht : e.top < 18446744073709551616) (hb : e.base = b) : Fun Tryd.prog 71 #[.pointer (some ⟨k, 0, none⟩)] I (fun v _ => v = .int .u64 ((b : Nat) : Int)) := by
  subst hb; exact rminB_c h hn ht
section
variable {f : Nat} {ss s2 s3 : List UInt8} {l r : E}
theorem rdL_some (h40 : tkB ss 0 40 = false) : (rdG (f + 1) ss).isSome = (numR ss).2.2 := by
  rw [rdG, if_neg (by rw [h40]; decide)]
  cases (numR ss).2.2 <;> rfl
theorem rdL_RD {J : IM} {k : Nat} (h40 : tkB ss 0 40 = false) (h : RE J (.leaf (min (numR ss).1 1048576)) k) : RD J (rdG (f + 1) ss) k (ss.drop (numR ss).2.1) (decide (1048576 < (numR ss).1)) := by
  rw [rdG, if_neg (by rw [h40]; decide)]
  intro t rest e
  split at e
  · simp only [Option.some.injEq, Prod.mk.injEq] at e
    obtain ⟨rfl, rfl⟩ := e
    exact ⟨rfl, rfl, h⟩
  · cases e
theorem rd_node (h40 : tkB ss 0 40 = true) : rdG (f + 1) ss = if (numR (ss.drop 1)).2.2 = true ∧ tkB ((ss.drop 1).drop (numR (ss.drop 1)).2.1) 0 44 = true then
      (match rdG f (((ss.drop 1).drop (numR (ss.drop 1)).2.1).drop 1) with
        | none => none
        | some (l, s2) => if tkB s2 0 44 = true then
            (match rdG f (s2.drop 1) with
            | none => none
            | some (r, s3) => if tkB s3 0 41 = true ∧ mayP (shE l) (shE r) = true then some (.node (numR (ss.drop 1)).1 l r, s3.drop 1) else none)
          else none)
       else none := by
  rw [rdG, if_pos h40]
  simp only [List.drop_drop]
  rw [show (1 + (numR (ss.drop 1)).2.1) = (numR (ss.drop 1)).2.1 + 1 by omega, show (numR (ss.drop 1)).2.1 + 1 + 1 = (numR (ss.drop 1)).2.1 + 2 by omega]
  rfl
theorem rdN_num (h40 : tkB ss 0 40 = true) (h : (numR (ss.drop 1)).2.2 = false) : rdG (f + 1) ss = none := by
  rw [rd_node h40, if_neg (fun q => by rw [h] at q; cases q.1)]
theorem rdN_com (h40 : tkB ss 0 40 = true) (h : tkB ((ss.drop 1).drop (numR (ss.drop 1)).2.1) 0 44 = false) : rdG (f + 1) ss = none := by
  rw [rd_node h40, if_neg (fun q => by rw [h] at q; cases q.2)]
theorem rdN_l (h40 : tkB ss 0 40 = true) (hl : rdG f (((ss.drop 1).drop (numR (ss.drop 1)).2.1).drop 1) = none) : rdG (f + 1) ss = none := by
  rw [rd_node h40, hl]; simp
theorem rdN_c2 (h40 : tkB ss 0 40 = true) (hl : rdG f (((ss.drop 1).drop (numR (ss.drop 1)).2.1).drop 1) = some (l, s2)) (h : tkB s2 0 44 = false) : rdG (f + 1) ss = none := by
  rw [rd_node h40, hl]; simp [h]
theorem rdN_r (h40 : tkB ss 0 40 = true) (hl : rdG f (((ss.drop 1).drop (numR (ss.drop 1)).2.1).drop 1) = some (l, s2)) (hr : rdG f (s2.drop 1) = none) : rdG (f + 1) ss = none := by
  rw [rd_node h40, hl]
  simp only [hr]
  split
  · split <;> rfl
  · rfl
theorem rdN_end (h40 : tkB ss 0 40 = true) (hl : rdG f (((ss.drop 1).drop (numR (ss.drop 1)).2.1).drop 1) = some (l, s2)) (hr : rdG f (s2.drop 1) = some (r, s3)) (h : ¬ (tkB s3 0 41 = true ∧ mayP (shE l) (shE r) = true)) : rdG (f + 1) ss = none := by
  rw [rd_node h40, hl]
  simp only [hr, if_neg h]
  simp
theorem rdN_ok (h40 : tkB ss 0 40 = true) (h1 : (numR (ss.drop 1)).2.2 = true) (h2 : tkB ((ss.drop 1).drop (numR (ss.drop 1)).2.1) 0 44 = true) (hl : rdG f (((ss.drop 1).drop (numR (ss.drop 1)).2.1).drop 1) = some (l, s2)) (h3 : tkB s2 0 44 = true) (hr : rdG f (s2.drop 1) = some (r, s3)) (h : tkB s3 0 41 = true ∧ mayP (shE l) (shE r) = true) : rdG (f + 1) ss = some (.node (numR (ss.drop 1)).1 l r, s3.drop 1) := by
  rw [rd_node h40, if_pos ⟨h1, h2⟩, hl]
  simp only [h3, hr, if_pos h, if_true]
end

end Go.Proofs.YtgdickihjaomjaaDoor
