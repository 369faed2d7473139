/- Fold: the program's and the document's. -/
import Derived.Test.YtcpmjogeafhpnaaDoorCoM19
set_option linter.all false
set_option maxRecDepth 100000
namespace Go.Proofs.YtcpmjogeafhpnaaDoor.Tx
open Go.RowKit Go.Sep
attribute [local irreducible] Go.wpList Go.Code.wp

def NLd (r : List UInt8) : Prop := ¬ (0 < r.length ∧ (r.getD 0 0).toNat = 32)
theorem fl_lead {r : List UInt8} (h : 0 < r.length) (e : (r.getD 0 0).toNat = 32) : fldS (r.drop 1) = fldS r := by
  have hr : r = 32 :: r.drop 1 := by
    have := drop_cons (s := r) (k := 0) h
    rw [List.drop_zero, show r.getD 0 0 = 32 from UInt8.toNat_inj.1 e] at this; exact this
  unfold fldS
  conv => rhs; rw [hr, wd_lead]
theorem last_split {r : List UInt8} (h : 0 < r.length) : r = r.take (r.length - 1) ++ [r.getD (r.length - 1) 0] := by
  have := take_snoc (l := r) (i := r.length - 1) (by omega)
  rw [show r.length - 1 + 1 = r.length by omega, List.take_length] at this; exact this
theorem fl_trail {r : List UInt8} (h : 0 < r.length) (e : (r.getD (r.length - 1) 0).toNat = 32) : fldS (r.take (r.length - 1)) = fldS r := by
  have hr := last_split h
  rw [show r.getD (r.length - 1) 0 = 32 from UInt8.toNat_inj.1 e] at hr
  unfold fldS
  conv => rhs; rw [hr, wd_end 0]
theorem fl_two {r : List UInt8} {i : Nat} (h : i + 1 < r.length) (e1 : (r.getD i 0).toNat = 32) (e2 : (r.getD (i + 1) 0).toNat = 32) : fldS (r.take i ++ r.drop (i + 1)) = fldS r := by
  have h1 : r.drop i = 32 :: r.drop (i + 1) := by rw [drop_cons (by omega), show r.getD i 0 = 32 from UInt8.toNat_inj.1 e1]
  have h2 : r.drop (i + 1) = 32 :: r.drop (i + 2) := by rw [drop_cons h, show r.getD (i + 1) 0 = 32 from UInt8.toNat_inj.1 e2]
  have hr : r = r.take i ++ 32 :: 32 :: r.drop (i + 2) := by rw [← h2, ← h1, List.take_append_drop]
  unfold fldS
  conv => rhs; rw [hr, wd_two, ← h2]
theorem nl_take {r : List UInt8} (h : NLd r) : NLd (r.take (r.length - 1)) := fun ⟨q1, q2⟩ => by
  rw [List.length_take] at q1
  rw [getD_takeU r _ 0 (by omega)] at q2
  exact h ⟨by omega, q2⟩
theorem tidy_of : ∀ (r : List UInt8), ¬ (0 < r.length ∧ (r.getD (r.length - 1) 0).toNat = 32) → (∀ j, j + 1 < r.length → ¬ ((r.getD j 0).toNat = 32 ∧ (r.getD (j + 1) 0).toNat = 32)) → tidy r
  | [], _, _ => trivial
  | [b], ht, _ => fun e => ht ⟨by simp, by rw [e]; rfl⟩
  | b :: c :: l, ht, hd => by
    refine ⟨fun ⟨q1, q2⟩ => hd 0 (by simp) ⟨by rw [q1]; rfl, by rw [q2]; rfl⟩, tidy_of (c :: l) (fun ⟨q1, q2⟩ => ht ⟨by simp, ?_⟩) (fun j hj hh => hd (j + 1) (by simp at hj ⊢; omega) hh)⟩
    simpa using q2
theorem fl_end {r : List UInt8} (hl : NLd r) (ht : ¬ (0 < r.length ∧ (r.getD (r.length - 1) 0).toNat = 32)) (hd : ∀ j, j + 1 < r.length → ¬ ((r.getD j 0).toNat = 32 ∧ (r.getD (j + 1) 0).toNat = 32)) : r = fldS r :=
  (fldS_tidy (tidy_of r ht hd) (fun b t e q => hl (by rw [e, q]; exact ⟨by simp, rfl⟩))).symm

set_option maxHeartbeats 1000000 in
theorem fold_c {I : IM} {l : List UInt8} (hn : l.length ≤ 1000000) : Fun Tryd.prog 100 #[.string ⟨(l).toArray⟩] I (fun v J => v = .string ⟨(fldS l).toArray⟩) := by
  refine enter_rule 6 [(0, .string ⟨(l).toArray⟩)] Tryd.func100 rfl (by kernel_rfl) ?_
  intro w s
  refine wp_seq ?_
  refine region_rule ?_
  refine ops_rule (C := []) [] [] 1 [] 0 (fun φ1 => [(2, .string ⟨#[]⟩)]) (fun φ1 => []) (fun φ1 => []) s trivial (fun φ1 => by kernel_rfl) ?_
  intro φ1 w1 s
  refine ops_done (by kernel_rfl) ?_
  refine wp_seq ?_
  refine region_rule ?_
  refine ops_rule (C := []) [] [] 1 [] 0 (fun φ2 => [(3, .string ⟨(l).toArray⟩)]) (fun φ2 => []) (fun φ2 => []) s trivial (fun φ2 => by kernel_rfl) ?_
  intro φ2 w2 s
  refine call_rule (some 4) s (fields_c (l := l) hn) (by kernel_rfl) ?_
  rintro v3 I3 w3 le3 ⟨A3, cur3, rfl, hA3, hcur3⟩ s
  refine call_rule (some 5) s (join_c (l := l) hn hA3 hcur3) (by kernel_rfl) ?_
  intro v4 I4 w4 le4 h4 s
  obtain rfl := h4
  refine ops_rule (C := []) [] [] 1 [] 0 (fun φ5 => [(2, .string ⟨((fldS l)).toArray⟩)]) (fun φ5 => []) (fun φ5 => []) s trivial (fun φ5 => by kernel_rfl) ?_
  intro φ5 w5 s
  refine ops_done (by kernel_rfl) ?_
  refine wp_ret ?_
  refine ret_rule (C := []) [] [] (.string ⟨((fldS l)).toArray⟩) [] [] s trivial (by kernel_rfl) ?_
  exact ⟨_, _, _, rfl, s, rfl⟩

set_option maxHeartbeats 4000000 in
theorem refFold_n (n : Nat) : ∀ {I : IM} {l : List UInt8}, l.length < n → l.length ≤ 1000000 → Fun Tryd.prog 63 #[.string ⟨(l).toArray⟩] I (fun v J => v = .string ⟨(fldS l).toArray⟩) := by
  induction n with
  | zero => intro I l h; omega
  | succ n ih =>
    intro I l hlt hn
    refine enter_rule 58 [(0, .string ⟨(l).toArray⟩)] Tryd.func63 rfl (by kernel_rfl) ?_
    intro w s
    refine wp_seq ?_
    refine region_rule ?_
    refine ops_rule (C := []) [] [] 1 [] 0 (fun φ1 => [(2, .string ⟨#[]⟩)]) (fun φ1 => []) (fun φ1 => []) s trivial (fun φ1 => by kernel_rfl) ?_
    intro φ1 w1 s
    refine ops_done (by kernel_rfl) ?_
    refine wp_seq ?_
    refine wp_block ?_
    have hle2 := IM.Le.refl I
    refine loop_rule (fun (x : List UInt8) => [(2, .string ⟨#[]⟩), (0, .string ⟨(x).toArray⟩)]) (fun (x : List UInt8) => []) (fun m (x : List UInt8) J => IM.Le I J ∧ (x).length ≤ m ∧ fldS x = fldS l ∧ (x).length ≤ l.length) (l.length) l s (by kernel_rfl) List.Sublist.slnil ⟨IM.Le.refl _, Nat.le_refl _, rfl, Nat.le_refl _⟩ ?_
    rintro m3 r3 I3 w3 ev3 s ⟨le3, hi3_0, hi3_1, hi3_2⟩
    try dsimp only at s hi3_0 hi3_1 hi3_2 ⊢
    replace hle2 := leMono le3 hle2
    refine wp_seq ?_
    refine wp_seq ?_
    refine region_rule ?_
    refine ops_rule (C := []) [] [] 4 [] 0 (fun φ4 => [(7, .bool (decide (((r3.length : Nat) : Int) > ((0 : Nat) : Int)))), (6, .bool (decide (((r3.length : Nat) : Int) > ((0 : Nat) : Int)))), (5, .int .i64 ((r3.length : Nat) : Int)), (4, .string ⟨(r3).toArray⟩)]) (fun φ4 => []) (fun φ4 => []) s trivial (fun φ4 => by kernel_rfl) ?_
    intro φ4 w4 s
    rw [nat_gtr (a := r3.length) (b := 0)]
    rcases Bool.eq_false_or_eq_true (decide (0 < r3.length)) with hc5 | hc5
    ·
      rw [hc5]
      refine ops_rule (C := []) [] [] 1 [] 0 (fun φ6 => [(8, .string ⟨(r3).toArray⟩)]) (fun φ6 => []) (fun φ6 => []) s trivial (fun φ6 => by kernel_rfl) ?_
      intro φ6 w6 s
      refine sem_rule (Instr.index 9 (.string ⟨(r3).toArray⟩) (.int .i64 ((0 : Nat) : Int))) (some 9) (.int .u8 (((r3.getD 0 0).toNat : Nat) : Int)) (by kernel_rfl) (run_idxK (s := r3) (i := 0) (by have hzh1 := hi3_2;  have hq0 := of_decide_eq_true hc5; omega)) ?_
      refine ops_rule (C := []) [] [] 2 [] 0 (fun φ7 => [(11, .bool ((((r3.getD 0 0).toNat : Nat) : Int) == ((32 : Nat) : Int))), (10, .bool ((((r3.getD 0 0).toNat : Nat) : Int) == ((32 : Nat) : Int)))]) (fun φ7 => []) (fun φ7 => []) s trivial (fun φ7 => by kernel_rfl) ?_
      intro φ7 w7 s
      rw [nat_eql (a := ((r3.getD 0 0).toNat)) (b := 32)]
      refine ops_done (by kernel_rfl) ?_
      rcases Bool.eq_false_or_eq_true (decide (((r3.getD 0 0).toNat) = 32)) with hc8 | hc8
      ·
        rw [hc8]
        refine cond_true_rule (b := true) (by kernel_rfl) rfl ?_
        refine wp_skip ?_
        refine wp_block ?_
        refine region_rule ?_
        refine ops_rule (C := []) [] [] 1 [] 0 (fun φ9 => [(12, .string ⟨(r3).toArray⟩)]) (fun φ9 => []) (fun φ9 => []) s trivial (fun φ9 => by kernel_rfl) ?_
        intro φ9 w9 s
        refine sem_rule (Instr.sliceAt 9 (.string ⟨(r3).toArray⟩) (some (.int .i64 ((1 : Nat) : Int))) none none) (some 13) (.string ⟨((r3.drop 1)).toArray⟩) (by kernel_rfl) (run_dropStr (s := r3) (lo := 1) under9 (by have hzh1 := hi3_2;  have hq0 := of_decide_eq_true hc5; have hq1 := of_decide_eq_true hc8; omega)) ?_
        refine ops_rule (C := []) [] [] 1 [] 0 (fun φ10 => [(0, .string ⟨((r3.drop 1)).toArray⟩)]) (fun φ10 => []) (fun φ10 => []) s trivial (fun φ10 => by kernel_rfl) ?_
        intro φ10 w10 s
        refine ops_done (by kernel_rfl) ?_
        exact ⟨⟨m3 - 1, (r3.drop 1), _, _, _, by have hq0 := of_decide_eq_true hc5; have hq1 := of_decide_eq_true hc8; have h6 := hi3_0; omega, rfl, s, List.Sublist.slnil, by kernel_rfl, hle2, by have hq0 := of_decide_eq_true hc5; have hq1 := of_decide_eq_true hc8; have h6 := hi3_0; show (r3.drop 1).length ≤ m3 - 1; rw [List.length_drop]; omega, (fl_lead (by have hq0 := of_decide_eq_true hc5; have hq1 := of_decide_eq_true hc8; omega) (by have hq0 := of_decide_eq_true hc5; have hq1 := of_decide_eq_true hc8; omega)).trans hi3_1, by have h6 := hi3_2; show (r3.drop 1).length ≤ l.length; rw [List.length_drop]; omega⟩⟩
      ·
        rw [hc8]
        refine cond_false_rule (b := false) (by kernel_rfl) rfl ?_
        refine wp_exit ?_
        refine wp_seq ?_
        refine wp_block ?_
        have hnl12 : NLd r3 := (by rintro ⟨q1, q2⟩; have hq0 := of_decide_eq_true hc5; have hq1 := of_decide_eq_false hc8; omega)
        have hle11 := IM.Le.refl I3
        refine loop_rule (fun (x : List UInt8) => [(2, .string ⟨#[]⟩), (0, .string ⟨(x).toArray⟩)]) (fun (x : List UInt8) => []) (fun m (x : List UInt8) J => IM.Le I3 J ∧ (x).length ≤ m ∧ fldS x = fldS l ∧ (x).length ≤ l.length ∧ NLd x) (r3.length) r3 s (by kernel_rfl) List.Sublist.slnil ⟨IM.Le.refl _, Nat.le_refl _, hi3_1, hi3_2, hnl12⟩ ?_
        rintro m12 r12 I12 w12 ev12 s ⟨le12, hi12_0, hi12_1, hi12_2, hi12_3⟩
        try dsimp only at s hi12_0 hi12_1 hi12_2 hi12_3 ⊢
        replace hle2 := leMono le12 hle2
        replace hle11 := leMono le12 hle11
        refine wp_seq ?_
        refine wp_seq ?_
        refine region_rule ?_
        refine ops_rule (C := []) [] [] 4 [] 0 (fun φ13 => [(17, .bool (decide (((r12.length : Nat) : Int) > ((0 : Nat) : Int)))), (16, .bool (decide (((r12.length : Nat) : Int) > ((0 : Nat) : Int)))), (15, .int .i64 ((r12.length : Nat) : Int)), (14, .string ⟨(r12).toArray⟩)]) (fun φ13 => []) (fun φ13 => []) s trivial (fun φ13 => by kernel_rfl) ?_
        intro φ13 w13 s
        rw [nat_gtr (a := r12.length) (b := 0)]
        rcases Bool.eq_false_or_eq_true (decide (0 < r12.length)) with hc14 | hc14
        ·
          rw [hc14]
          refine ops_rule (C := []) [] [] 4 [] 0 (fun φ15 => [(21, .int .i64 (IntKind.wrap .i64 (((r12.length : Nat) : Int) - ((1 : Nat) : Int)))), (20, .int .i64 ((r12.length : Nat) : Int)), (19, .string ⟨(r12).toArray⟩), (18, .string ⟨(r12).toArray⟩)]) (fun φ15 => []) (fun φ15 => []) s trivial (fun φ15 => by kernel_rfl) ?_
          intro φ15 w15 s
          rw [nat_subI (a := r12.length) (b := 1) (by have hzh1 := hi3_2; have hzh2 := hi12_2;  have hq0 := of_decide_eq_true hc5; have hq1 := of_decide_eq_false hc8; have hq2 := of_decide_eq_true hc14; omega) (by have hzh1 := hi3_2; have hzh2 := hi12_2;  have hq0 := of_decide_eq_true hc5; have hq1 := of_decide_eq_false hc8; have hq2 := of_decide_eq_true hc14; omega)]
          refine sem_rule (Instr.index 9 (.string ⟨(r12).toArray⟩) (.int .i64 ((r12.length - 1 : Nat) : Int))) (some 22) (.int .u8 (((r12.getD (r12.length - 1) 0).toNat : Nat) : Int)) (by kernel_rfl) (run_idxK (s := r12) (i := r12.length - 1) (by have hzh1 := hi3_2; have hzh2 := hi12_2;  have hq0 := of_decide_eq_true hc5; have hq1 := of_decide_eq_false hc8; have hq2 := of_decide_eq_true hc14; omega)) ?_
          refine ops_rule (C := []) [] [] 2 [] 0 (fun φ16 => [(24, .bool ((((r12.getD (r12.length - 1) 0).toNat : Nat) : Int) == ((32 : Nat) : Int))), (23, .bool ((((r12.getD (r12.length - 1) 0).toNat : Nat) : Int) == ((32 : Nat) : Int)))]) (fun φ16 => []) (fun φ16 => []) s trivial (fun φ16 => by kernel_rfl) ?_
          intro φ16 w16 s
          rw [nat_eql (a := ((r12.getD (r12.length - 1) 0).toNat)) (b := 32)]
          refine ops_done (by kernel_rfl) ?_
          rcases Bool.eq_false_or_eq_true (decide (((r12.getD (r12.length - 1) 0).toNat) = 32)) with hc17 | hc17
          ·
            rw [hc17]
            refine cond_true_rule (b := true) (by kernel_rfl) rfl ?_
            refine wp_skip ?_
            refine wp_block ?_
            refine region_rule ?_
            refine ops_rule (C := []) [] [] 4 [] 0 (fun φ18 => [(28, .int .i64 (IntKind.wrap .i64 (((r12.length : Nat) : Int) - ((1 : Nat) : Int)))), (27, .int .i64 ((r12.length : Nat) : Int)), (26, .string ⟨(r12).toArray⟩), (25, .string ⟨(r12).toArray⟩)]) (fun φ18 => []) (fun φ18 => []) s trivial (fun φ18 => by kernel_rfl) ?_
            intro φ18 w18 s
            rw [nat_subI (a := r12.length) (b := 1) (by have hzh1 := hi3_2; have hzh2 := hi12_2;  have hq0 := of_decide_eq_true hc5; have hq1 := of_decide_eq_false hc8; have hq2 := of_decide_eq_true hc14; have hq3 := of_decide_eq_true hc17; omega) (by have hzh1 := hi3_2; have hzh2 := hi12_2;  have hq0 := of_decide_eq_true hc5; have hq1 := of_decide_eq_false hc8; have hq2 := of_decide_eq_true hc14; have hq3 := of_decide_eq_true hc17; omega)]
            refine sem_rule (Instr.sliceAt 9 (.string ⟨(r12).toArray⟩) none (some (.int .i64 ((r12.length - 1 : Nat) : Int))) none) (some 29) (.string ⟨((r12.take (r12.length - 1))).toArray⟩) (by kernel_rfl) (run_takeS (s := r12) (hi := r12.length - 1) (by have hzh1 := hi3_2; have hzh2 := hi12_2;  have hq0 := of_decide_eq_true hc5; have hq1 := of_decide_eq_false hc8; have hq2 := of_decide_eq_true hc14; have hq3 := of_decide_eq_true hc17; omega)) ?_
            refine ops_rule (C := []) [] [] 1 [] 0 (fun φ19 => [(0, .string ⟨((r12.take (r12.length - 1))).toArray⟩)]) (fun φ19 => []) (fun φ19 => []) s trivial (fun φ19 => by kernel_rfl) ?_
            intro φ19 w19 s
            refine ops_done (by kernel_rfl) ?_
            exact ⟨⟨m12 - 1, (r12.take (r12.length - 1)), _, _, _, by have hq0 := of_decide_eq_true hc5; have hq1 := of_decide_eq_false hc8; have hq2 := of_decide_eq_true hc14; have hq3 := of_decide_eq_true hc17; have h6 := hi12_0; omega, rfl, s, List.Sublist.slnil, by kernel_rfl, hle11, by have hq0 := of_decide_eq_true hc5; have hq1 := of_decide_eq_false hc8; have hq2 := of_decide_eq_true hc14; have hq3 := of_decide_eq_true hc17; have h6 := hi12_0; show (r12.take (r12.length - 1)).length ≤ m12 - 1; rw [List.length_take]; omega, (fl_trail (by have hq0 := of_decide_eq_true hc5; have hq1 := of_decide_eq_false hc8; have hq2 := of_decide_eq_true hc14; have hq3 := of_decide_eq_true hc17; omega) (by have hq0 := of_decide_eq_true hc5; have hq1 := of_decide_eq_false hc8; have hq2 := of_decide_eq_true hc14; have hq3 := of_decide_eq_true hc17; omega)).trans hi12_1, by have h6 := hi12_2; show (r12.take (r12.length - 1)).length ≤ l.length; rw [List.length_take]; omega, nl_take hi12_3⟩⟩
          ·
            rw [hc17]
            refine cond_false_rule (b := false) (by kernel_rfl) rfl ?_
            refine wp_exit ?_
            refine wp_seq ?_
            refine wp_seq ?_
            refine region_rule ?_
            refine ops_rule (C := []) [] [] 1 [] 0 (fun φ20 => [(3, .int .i64 0)]) (fun φ20 => []) (fun φ20 => []) s trivial (fun φ20 => by kernel_rfl) ?_
            intro φ20 w20 s
            refine ops_done (by kernel_rfl) ?_
            refine wp_block ?_
            have hnt22 : ¬ (0 < r12.length ∧ (r12.getD (r12.length - 1) 0).toNat = 32) := (by rintro ⟨q1, q2⟩; have hq0 := of_decide_eq_true hc5; have hq1 := of_decide_eq_false hc8; have hq2 := of_decide_eq_true hc14; have hq3 := of_decide_eq_false hc17; omega)
            have hle21 := IM.Le.refl I12
            refine loop_rule (fun (x : Nat) => [(0, .string ⟨(r12).toArray⟩), (2, .string ⟨#[]⟩), (3, .int .i64 ((x : Nat) : Int))]) (fun (x : Nat) => []) (fun m (x : Nat) J => IM.Le I12 J ∧ r12.length ≤ x + m ∧ (∀ j, j < x → j + 1 < r12.length → ¬ ((r12.getD j 0).toNat = 32 ∧ (r12.getD (j + 1) 0).toNat = 32)) ∧ x ≤ r12.length) (r12.length) 0 s (by kernel_rfl) List.Sublist.slnil ⟨IM.Le.refl _, by omega, (fun j hj => absurd hj (Nat.not_lt_zero j)), Nat.zero_le _⟩ ?_
            rintro m22 i22 I22 w22 ev22 s ⟨le22, hi22_0, hi22_1, hi22_2⟩
            try dsimp only at s hi22_0 hi22_1 hi22_2 ⊢
            replace hle2 := leMono le22 hle2
            replace hle11 := leMono le22 hle11
            replace hle21 := leMono le22 hle21
            refine wp_seq ?_
            refine wp_seq ?_
            refine region_rule ?_
            refine ops_rule (C := []) [] [] 5 [] 0 (fun φ23 => [(34, .bool (decide ((IntKind.wrap .i64 (((i22 : Nat) : Int) + ((1 : Nat) : Int))) < ((r12.length : Nat) : Int)))), (33, .int .i64 ((r12.length : Nat) : Int)), (32, .string ⟨(r12).toArray⟩), (31, .int .i64 (IntKind.wrap .i64 (((i22 : Nat) : Int) + ((1 : Nat) : Int)))), (30, .int .i64 ((i22 : Nat) : Int))]) (fun φ23 => []) (fun φ23 => []) s trivial (fun φ23 => by kernel_rfl) ?_
            intro φ23 w23 s
            rw [nat_addI (a := i22) (b := 1) (by have hzh1 := hi3_2; have hzh2 := hi12_2;  have hq0 := of_decide_eq_true hc5; have hq1 := of_decide_eq_false hc8; have hq2 := of_decide_eq_true hc14; have hq3 := of_decide_eq_false hc17; omega)]
            rw [nat_lss (a := (i22 + 1)) (b := r12.length)]
            refine ops_done (by kernel_rfl) ?_
            rcases Bool.eq_false_or_eq_true (decide ((i22 + 1) < r12.length)) with hc24 | hc24
            ·
              rw [hc24]
              refine cond_true_rule (b := true) (by kernel_rfl) rfl ?_
              refine wp_skip ?_
              refine wp_seq ?_
              refine wp_block ?_
              refine wp_seq ?_
              refine region_rule ?_
              refine ops_rule (C := []) [] [] 2 [] 0 (fun φ25 => [(38, .int .i64 ((i22 : Nat) : Int)), (37, .string ⟨(r12).toArray⟩)]) (fun φ25 => []) (fun φ25 => []) s trivial (fun φ25 => by kernel_rfl) ?_
              intro φ25 w25 s
              refine sem_rule (Instr.index 9 (.string ⟨(r12).toArray⟩) (.int .i64 ((i22 : Nat) : Int))) (some 39) (.int .u8 (((r12.getD i22 0).toNat : Nat) : Int)) (by kernel_rfl) (run_idxK (s := r12) (i := i22) (by have hzh1 := hi3_2; have hzh2 := hi12_2;  have hq0 := of_decide_eq_true hc5; have hq1 := of_decide_eq_false hc8; have hq2 := of_decide_eq_true hc14; have hq3 := of_decide_eq_false hc17; have hq4 := of_decide_eq_true hc24; omega)) ?_
              refine ops_rule (C := []) [] [] 2 [] 0 (fun φ26 => [(41, .bool ((((r12.getD i22 0).toNat : Nat) : Int) == ((32 : Nat) : Int))), (40, .bool ((((r12.getD i22 0).toNat : Nat) : Int) == ((32 : Nat) : Int)))]) (fun φ26 => []) (fun φ26 => []) s trivial (fun φ26 => by kernel_rfl) ?_
              intro φ26 w26 s
              rw [nat_eql (a := ((r12.getD i22 0).toNat)) (b := 32)]
              rcases Bool.eq_false_or_eq_true (decide (((r12.getD i22 0).toNat) = 32)) with hc27 | hc27
              ·
                rw [hc27]
                refine ops_rule (C := []) [] [] 3 [] 0 (fun φ28 => [(44, .int .i64 (IntKind.wrap .i64 (((i22 : Nat) : Int) + ((1 : Nat) : Int)))), (43, .int .i64 ((i22 : Nat) : Int)), (42, .string ⟨(r12).toArray⟩)]) (fun φ28 => []) (fun φ28 => []) s trivial (fun φ28 => by kernel_rfl) ?_
                intro φ28 w28 s
                rw [nat_addI (a := i22) (b := 1) (by have hzh1 := hi3_2; have hzh2 := hi12_2;  have hq0 := of_decide_eq_true hc5; have hq1 := of_decide_eq_false hc8; have hq2 := of_decide_eq_true hc14; have hq3 := of_decide_eq_false hc17; have hq4 := of_decide_eq_true hc24; have hq5 := of_decide_eq_true hc27; omega)]
                refine sem_rule (Instr.index 9 (.string ⟨(r12).toArray⟩) (.int .i64 ((i22 + 1 : Nat) : Int))) (some 45) (.int .u8 (((r12.getD (i22 + 1) 0).toNat : Nat) : Int)) (by kernel_rfl) (run_idxK (s := r12) (i := i22 + 1) (by have hzh1 := hi3_2; have hzh2 := hi12_2;  have hq0 := of_decide_eq_true hc5; have hq1 := of_decide_eq_false hc8; have hq2 := of_decide_eq_true hc14; have hq3 := of_decide_eq_false hc17; have hq4 := of_decide_eq_true hc24; have hq5 := of_decide_eq_true hc27; omega)) ?_
                refine ops_rule (C := []) [] [] 2 [] 0 (fun φ29 => [(47, .bool ((((r12.getD (i22 + 1) 0).toNat : Nat) : Int) == ((32 : Nat) : Int))), (46, .bool ((((r12.getD (i22 + 1) 0).toNat : Nat) : Int) == ((32 : Nat) : Int)))]) (fun φ29 => []) (fun φ29 => []) s trivial (fun φ29 => by kernel_rfl) ?_
                intro φ29 w29 s
                rw [nat_eql (a := ((r12.getD (i22 + 1) 0).toNat)) (b := 32)]
                refine ops_done (by kernel_rfl) ?_
                rcases Bool.eq_false_or_eq_true (decide (((r12.getD (i22 + 1) 0).toNat) = 32)) with hc30 | hc30
                ·
                  rw [hc30]
                  refine cond_true_rule (b := true) (by kernel_rfl) rfl ?_
                  refine wp_seq ?_
                  refine draw_rule (C := []) ⟨(fun φ31 xs31 => [.look 0 [] [], .look 0 [] [], .ran (Instr.sliceAt 9 (.string ⟨(r12).toArray⟩) none (some (.int .i64 ((i22 : Nat) : Int))) none), .look 0 [] [], .look 0 [] [], .sub 0 [] [] (.int .i64 (IntKind.wrap .i64 (((i22 : Nat) : Int) + ((1 : Nat) : Int)))), .ran (Instr.sliceAt 9 (.string ⟨(r12).toArray⟩) (some (.int .i64 ((i22 + 1 : Nat) : Int))) none none), .ran (binOp .add 9 (.string ⟨((r12.take i22)).toArray⟩) (.string ⟨((r12.drop (i22 + 1))).toArray⟩)), .call 63 #[.string ⟨(((r12.take i22) ++ (r12.drop (i22 + 1)))).toArray⟩], .look 0 [] []]), (fun φ31 xs31 => [.string ⟨(r12).toArray⟩, .int .i64 ((i22 : Nat) : Int), .string ⟨((r12.take i22)).toArray⟩, .string ⟨(r12).toArray⟩, .int .i64 ((i22 : Nat) : Int), .int .i64 ((i22 + 1 : Nat) : Int), .string ⟨((r12.drop (i22 + 1))).toArray⟩, .string ⟨(((r12.take i22) ++ (r12.drop (i22 + 1)))).toArray⟩, .string ⟨((fldS ((r12.take i22) ++ (r12.drop (i22 + 1))))).toArray⟩, .string ⟨((fldS ((r12.take i22) ++ (r12.drop (i22 + 1))))).toArray⟩]), (fun φ31 xs31 => [[]]), (fun φ31 xs31 => [[default, default, default, default, default, default, default, default, default, default]]), [], [1, 1, 6, 1, 1, 5, 6, 6, 3, 1]⟩ (fun j => ([MP.any, MP.any, MP.any, MP.any, MP.any, MP.any, MP.any, MP.any, MP.any, MP.any] : List MP).getD j MP.any) [8] [5] [2, 6, 7] (fun φ31 xs31 => []) (fun φ31 xs31 => [(48, .string ⟨(r12).toArray⟩), (49, .int .i64 ((i22 : Nat) : Int)), (50, .string ⟨((r12.take i22)).toArray⟩), (51, .string ⟨(r12).toArray⟩), (52, .int .i64 ((i22 : Nat) : Int)), (53, .int .i64 ((i22 + 1 : Nat) : Int)), (54, .string ⟨((r12.drop (i22 + 1))).toArray⟩), (55, .string ⟨(((r12.take i22) ++ (r12.drop (i22 + 1)))).toArray⟩), (56, .string ⟨((fldS ((r12.take i22) ++ (r12.drop (i22 + 1))))).toArray⟩), (2, .string ⟨((fldS ((r12.take i22) ++ (r12.drop (i22 + 1))))).toArray⟩)]) (fun φ31 xs31 => []) s trivial (by kernel_rfl) (by kernel_rfl) (fun _ _ => by kernel_rfl) (fun _ _ => by kernel_rfl) ⟨fun _ _ => by kernel_rfl, fun _ _ => by kernel_rfl, fun _ _ => by kernel_rfl, fun _ _ => by kernel_rfl⟩ (fun _ _ _ => by kernel_rfl) (fun _ _ => by kernel_rfl) (fun _ _ => by kernel_rfl) (fun _ _ => by kernel_rfl) (fun _ _ => by kernel_rfl) (fun _ _ => by kernel_rfl) ⟨kcast (A := ∀ (φ31 : Nat → Nat) (xs31 : Xs), (.int .i64 (IntKind.wrap .i64 (((i22 : Nat) : Int) + ((1 : Nat) : Int))) : Value) = .int .i64 ((i22 + 1 : Nat) : Int)) (by kernel_rfl) (fun φ31 xs31 => congrArg (Value.int .i64) ((nat_addI (a := i22) (b := 1) (by have hzh1 := hi3_2; have hzh2 := hi12_2;  have hq0 := of_decide_eq_true hc5; have hq1 := of_decide_eq_false hc8; have hq2 := of_decide_eq_true hc14; have hq3 := of_decide_eq_false hc17; have hq4 := of_decide_eq_true hc24; have hq5 := of_decide_eq_true hc27; have hq6 := of_decide_eq_true hc30; omega)))), trivial⟩ ⟨kcast (A := ∀ (φ31 : Nat → Nat) (xs31 : Xs) (J : IM) (w : World), I22.Le J → J.Sub w → ((Instr.sliceAt 9 (.string ⟨(r12).toArray⟩) none (some (.int .i64 ((i22 : Nat) : Int))) none) : Sem Value).run Tryd.prog w = .ok (.string ⟨((r12.take i22)).toArray⟩) w) (by kernel_rfl) (fun φ31 xs31 J w hJ hS => run_takeS (s := r12) (hi := i22) (by have hzh1 := hi3_2; have hzh2 := hi12_2;  have hq0 := of_decide_eq_true hc5; have hq1 := of_decide_eq_false hc8; have hq2 := of_decide_eq_true hc14; have hq3 := of_decide_eq_false hc17; have hq4 := of_decide_eq_true hc24; have hq5 := of_decide_eq_true hc27; have hq6 := of_decide_eq_true hc30; omega)), ⟨kcast (A := ∀ (φ31 : Nat → Nat) (xs31 : Xs) (J : IM) (w : World), I22.Le J → J.Sub w → ((Instr.sliceAt 9 (.string ⟨(r12).toArray⟩) (some (.int .i64 ((i22 + 1 : Nat) : Int))) none none) : Sem Value).run Tryd.prog w = .ok (.string ⟨((r12.drop (i22 + 1))).toArray⟩) w) (by kernel_rfl) (fun φ31 xs31 J w hJ hS => run_dropStr (s := r12) (lo := i22 + 1) under9 (by have hzh1 := hi3_2; have hzh2 := hi12_2;  have hq0 := of_decide_eq_true hc5; have hq1 := of_decide_eq_false hc8; have hq2 := of_decide_eq_true hc14; have hq3 := of_decide_eq_false hc17; have hq4 := of_decide_eq_true hc24; have hq5 := of_decide_eq_true hc27; have hq6 := of_decide_eq_true hc30; omega)), ⟨kcast (A := ∀ (φ31 : Nat → Nat) (xs31 : Xs) (J : IM) (w : World), I22.Le J → J.Sub w → ((binOp .add 9 (.string ⟨((r12.take i22)).toArray⟩) (.string ⟨((r12.drop (i22 + 1))).toArray⟩)) : Sem Value).run Tryd.prog w = .ok (.string ⟨(((r12.take i22) ++ (r12.drop (i22 + 1)))).toArray⟩) w) (by kernel_rfl) (fun φ31 xs31 J w hJ hS => run_cat (x := (r12.take i22)) (y := (r12.drop (i22 + 1))) (by have h6 := hi12_2; have hq0 := of_decide_eq_true hc5; have hq1 := of_decide_eq_false hc8; have hq2 := of_decide_eq_true hc14; have hq3 := of_decide_eq_false hc17; have hq4 := of_decide_eq_true hc24; have hq5 := of_decide_eq_true hc27; have hq6 := of_decide_eq_true hc30; rw [List.length_take, List.length_drop]; omega)), trivial⟩⟩⟩ (by kernel_rfl) ⟨?c31_8, trivial⟩ ?k31
                  case c31_8 =>
                    refine kcast (A := ∀ (φ31 : Nat → Nat) (xs31 : Xs) (J8_31 : IM), I22.Le J8_31 → Fun Tryd.prog 63 #[.string ⟨(((r12.take i22) ++ (r12.drop (i22 + 1)))).toArray⟩] J8_31 (fun v J' => ∃ x : UX, v = .string ⟨((fldS ((r12.take i22) ++ (r12.drop (i22 + 1))))).toArray⟩ ∧ (True))) (by kernel_rfl) ?_
                    intro φ31 xs31 J8_31 leJ
                    exact Fun.mono (ih (l := ((r12.take i22) ++ (r12.drop (i22 + 1)))) (by have h6 := hi12_2; have hq0 := of_decide_eq_true hc5; have hq1 := of_decide_eq_false hc8; have hq2 := of_decide_eq_true hc14; have hq3 := of_decide_eq_false hc17; have hq4 := of_decide_eq_true hc24; have hq5 := of_decide_eq_true hc27; have hq6 := of_decide_eq_true hc30; rw [List.length_append, List.length_take, List.length_drop]; omega) (by have h6 := hi12_2; have hq0 := of_decide_eq_true hc5; have hq1 := of_decide_eq_false hc8; have hq2 := of_decide_eq_true hc14; have hq3 := of_decide_eq_false hc17; have hq4 := of_decide_eq_true hc24; have hq5 := of_decide_eq_true hc27; have hq6 := of_decide_eq_true hc30; rw [List.length_append, List.length_take, List.length_drop]; omega)) (fun v J' _ h => ⟨UX.d, h, trivial⟩)
                  case k31 =>
                    rintro φ31 xs31 I31 w31 le31 s _
                    replace hle2 := leMono le31 hle2
                    replace hle11 := leMono le31 hle11
                    replace hle21 := leMono le31 hle21
                    refine wp_ret ?_
                    refine ret_rule (C := []) [] [] (.string ⟨((fldS ((r12.take i22) ++ (r12.drop (i22 + 1))))).toArray⟩) [] [] s trivial (by kernel_rfl) ?_
                    exact ⟨_, _, _, rfl, s, (congrArg (fun q : List UInt8 => Value.string ⟨q.toArray⟩) ((fl_two (by have hq0 := of_decide_eq_true hc5; have hq1 := of_decide_eq_false hc8; have hq2 := of_decide_eq_true hc14; have hq3 := of_decide_eq_false hc17; have hq4 := of_decide_eq_true hc24; have hq5 := of_decide_eq_true hc27; have hq6 := of_decide_eq_true hc30; omega) (by have hq0 := of_decide_eq_true hc5; have hq1 := of_decide_eq_false hc8; have hq2 := of_decide_eq_true hc14; have hq3 := of_decide_eq_false hc17; have hq4 := of_decide_eq_true hc24; have hq5 := of_decide_eq_true hc27; have hq6 := of_decide_eq_true hc30; omega) (by have hq0 := of_decide_eq_true hc5; have hq1 := of_decide_eq_false hc8; have hq2 := of_decide_eq_true hc14; have hq3 := of_decide_eq_false hc17; have hq4 := of_decide_eq_true hc24; have hq5 := of_decide_eq_true hc27; have hq6 := of_decide_eq_true hc30; omega)).trans hi12_1))⟩
                ·
                  rw [hc30]
                  refine cond_false_rule (b := false) (by kernel_rfl) rfl ?_
                  refine wp_skip ?_
                  refine region_rule ?_
                  refine ops_rule (C := []) [] [] 3 [] 0 (fun φ32 => [(3, .int .i64 (IntKind.wrap .i64 (((i22 : Nat) : Int) + ((1 : Nat) : Int)))), (36, .int .i64 (IntKind.wrap .i64 (((i22 : Nat) : Int) + ((1 : Nat) : Int)))), (35, .int .i64 ((i22 : Nat) : Int))]) (fun φ32 => []) (fun φ32 => []) s trivial (fun φ32 => by kernel_rfl) ?_
                  intro φ32 w32 s
                  rw [nat_addI (a := i22) (b := 1) (by have hzh1 := hi3_2; have hzh2 := hi12_2;  have hq0 := of_decide_eq_true hc5; have hq1 := of_decide_eq_false hc8; have hq2 := of_decide_eq_true hc14; have hq3 := of_decide_eq_false hc17; have hq4 := of_decide_eq_true hc24; have hq5 := of_decide_eq_true hc27; have hq6 := of_decide_eq_false hc30; omega)]
                  refine ops_done (by kernel_rfl) ?_
                  exact ⟨⟨m22 - 1, i22 + 1, _, _, _, by have hq0 := of_decide_eq_true hc5; have hq1 := of_decide_eq_false hc8; have hq2 := of_decide_eq_true hc14; have hq3 := of_decide_eq_false hc17; have hq4 := of_decide_eq_true hc24; have hq5 := of_decide_eq_true hc27; have hq6 := of_decide_eq_false hc30; have h6 := hi22_0; omega, rfl, s, List.Sublist.slnil, by kernel_rfl, hle21, by have hq0 := of_decide_eq_true hc5; have hq1 := of_decide_eq_false hc8; have hq2 := of_decide_eq_true hc14; have hq3 := of_decide_eq_false hc17; have hq4 := of_decide_eq_true hc24; have hq5 := of_decide_eq_true hc27; have hq6 := of_decide_eq_false hc30; have h6 := hi22_0; show r12.length ≤ i22 + 1 + (m22 - 1); omega, (by have hq0 := of_decide_eq_true hc5; have hq1 := of_decide_eq_false hc8; have hq2 := of_decide_eq_true hc14; have hq3 := of_decide_eq_false hc17; have hq4 := of_decide_eq_true hc24; have hq5 := of_decide_eq_true hc27; have hq6 := of_decide_eq_false hc30; intro j hj hl hh; rcases (by omega : j < i22 ∨ j = i22) with q | q; exact hi22_1 j q hl hh; subst q; omega), by have hq0 := of_decide_eq_true hc5; have hq1 := of_decide_eq_false hc8; have hq2 := of_decide_eq_true hc14; have hq3 := of_decide_eq_false hc17; have hq4 := of_decide_eq_true hc24; have hq5 := of_decide_eq_true hc27; have hq6 := of_decide_eq_false hc30; show i22 + 1 ≤ r12.length; omega⟩⟩
              ·
                rw [hc27]
                refine ops_rule (C := []) [] [] 6 [] 0 (fun φ33 => [(47, .bool false), (46, undef), (45, undef), (44, undef), (43, undef), (42, undef)]) (fun φ33 => []) (fun φ33 => []) s trivial (fun φ33 => by kernel_rfl) ?_
                intro φ33 w33 s
                refine ops_done (by kernel_rfl) ?_
                refine cond_false_rule (b := false) (by kernel_rfl) rfl ?_
                refine wp_skip ?_
                refine region_rule ?_
                refine ops_rule (C := []) [] [] 3 [] 0 (fun φ34 => [(3, .int .i64 (IntKind.wrap .i64 (((i22 : Nat) : Int) + ((1 : Nat) : Int)))), (36, .int .i64 (IntKind.wrap .i64 (((i22 : Nat) : Int) + ((1 : Nat) : Int)))), (35, .int .i64 ((i22 : Nat) : Int))]) (fun φ34 => []) (fun φ34 => []) s trivial (fun φ34 => by kernel_rfl) ?_
                intro φ34 w34 s
                rw [nat_addI (a := i22) (b := 1) (by have hzh1 := hi3_2; have hzh2 := hi12_2;  have hq0 := of_decide_eq_true hc5; have hq1 := of_decide_eq_false hc8; have hq2 := of_decide_eq_true hc14; have hq3 := of_decide_eq_false hc17; have hq4 := of_decide_eq_true hc24; have hq5 := of_decide_eq_false hc27; omega)]
                refine ops_done (by kernel_rfl) ?_
                exact ⟨⟨m22 - 1, i22 + 1, _, _, _, by have hq0 := of_decide_eq_true hc5; have hq1 := of_decide_eq_false hc8; have hq2 := of_decide_eq_true hc14; have hq3 := of_decide_eq_false hc17; have hq4 := of_decide_eq_true hc24; have hq5 := of_decide_eq_false hc27; have h6 := hi22_0; omega, rfl, s, List.Sublist.slnil, by kernel_rfl, hle21, by have hq0 := of_decide_eq_true hc5; have hq1 := of_decide_eq_false hc8; have hq2 := of_decide_eq_true hc14; have hq3 := of_decide_eq_false hc17; have hq4 := of_decide_eq_true hc24; have hq5 := of_decide_eq_false hc27; have h6 := hi22_0; show r12.length ≤ i22 + 1 + (m22 - 1); omega, (by have hq0 := of_decide_eq_true hc5; have hq1 := of_decide_eq_false hc8; have hq2 := of_decide_eq_true hc14; have hq3 := of_decide_eq_false hc17; have hq4 := of_decide_eq_true hc24; have hq5 := of_decide_eq_false hc27; intro j hj hl hh; rcases (by omega : j < i22 ∨ j = i22) with q | q; exact hi22_1 j q hl hh; subst q; omega), by have hq0 := of_decide_eq_true hc5; have hq1 := of_decide_eq_false hc8; have hq2 := of_decide_eq_true hc14; have hq3 := of_decide_eq_false hc17; have hq4 := of_decide_eq_true hc24; have hq5 := of_decide_eq_false hc27; show i22 + 1 ≤ r12.length; omega⟩⟩
            ·
              rw [hc24]
              refine cond_false_rule (b := false) (by kernel_rfl) rfl ?_
              refine wp_exit ?_
              refine wp_seq ?_
              refine region_rule ?_
              refine ops_rule (C := []) [] [] 2 [] 0 (fun φ35 => [(2, .string ⟨(r12).toArray⟩), (57, .string ⟨(r12).toArray⟩)]) (fun φ35 => []) (fun φ35 => []) s trivial (fun φ35 => by kernel_rfl) ?_
              intro φ35 w35 s
              refine ops_done (by kernel_rfl) ?_
              refine wp_ret ?_
              refine ret_rule (C := []) [] [] (.string ⟨(r12).toArray⟩) [] [] s trivial (by kernel_rfl) ?_
              exact ⟨_, _, _, rfl, s, (congrArg (fun q : List UInt8 => Value.string ⟨q.toArray⟩) ((fl_end hi12_3 hnt22 (by have hq0 := of_decide_eq_true hc5; have hq1 := of_decide_eq_false hc8; have hq2 := of_decide_eq_true hc14; have hq3 := of_decide_eq_false hc17; have hq4 := of_decide_eq_false hc24; intro j hl; exact hi22_1 j (by omega) hl)).trans hi12_1))⟩
        ·
          rw [hc14]
          refine ops_rule (C := []) [] [] 7 [] 0 (fun φ36 => [(24, .bool false), (23, undef), (22, undef), (21, undef), (20, undef), (19, undef), (18, undef)]) (fun φ36 => []) (fun φ36 => []) s trivial (fun φ36 => by kernel_rfl) ?_
          intro φ36 w36 s
          refine ops_done (by kernel_rfl) ?_
          refine cond_false_rule (b := false) (by kernel_rfl) rfl ?_
          refine wp_exit ?_
          refine wp_seq ?_
          refine wp_seq ?_
          refine region_rule ?_
          refine ops_rule (C := []) [] [] 1 [] 0 (fun φ37 => [(3, .int .i64 0)]) (fun φ37 => []) (fun φ37 => []) s trivial (fun φ37 => by kernel_rfl) ?_
          intro φ37 w37 s
          refine ops_done (by kernel_rfl) ?_
          refine wp_block ?_
          have hnt39 : ¬ (0 < r12.length ∧ (r12.getD (r12.length - 1) 0).toNat = 32) := (by rintro ⟨q1, q2⟩; have hq0 := of_decide_eq_true hc5; have hq1 := of_decide_eq_false hc8; have hq2 := of_decide_eq_false hc14; omega)
          have hle38 := IM.Le.refl I12
          refine loop_rule (fun (x : Nat) => [(0, .string ⟨(r12).toArray⟩), (2, .string ⟨#[]⟩), (3, .int .i64 ((x : Nat) : Int))]) (fun (x : Nat) => []) (fun m (x : Nat) J => IM.Le I12 J ∧ r12.length ≤ x + m ∧ (∀ j, j < x → j + 1 < r12.length → ¬ ((r12.getD j 0).toNat = 32 ∧ (r12.getD (j + 1) 0).toNat = 32)) ∧ x ≤ r12.length) (r12.length) 0 s (by kernel_rfl) List.Sublist.slnil ⟨IM.Le.refl _, by omega, (fun j hj => absurd hj (Nat.not_lt_zero j)), Nat.zero_le _⟩ ?_
          rintro m39 i39 I39 w39 ev39 s ⟨le39, hi39_0, hi39_1, hi39_2⟩
          try dsimp only at s hi39_0 hi39_1 hi39_2 ⊢
          replace hle2 := leMono le39 hle2
          replace hle11 := leMono le39 hle11
          replace hle38 := leMono le39 hle38
          refine wp_seq ?_
          refine wp_seq ?_
          refine region_rule ?_
          refine ops_rule (C := []) [] [] 5 [] 0 (fun φ40 => [(34, .bool (decide ((IntKind.wrap .i64 (((i39 : Nat) : Int) + ((1 : Nat) : Int))) < ((r12.length : Nat) : Int)))), (33, .int .i64 ((r12.length : Nat) : Int)), (32, .string ⟨(r12).toArray⟩), (31, .int .i64 (IntKind.wrap .i64 (((i39 : Nat) : Int) + ((1 : Nat) : Int)))), (30, .int .i64 ((i39 : Nat) : Int))]) (fun φ40 => []) (fun φ40 => []) s trivial (fun φ40 => by kernel_rfl) ?_
          intro φ40 w40 s
          rw [nat_addI (a := i39) (b := 1) (by have hzh1 := hi3_2; have hzh2 := hi12_2;  have hq0 := of_decide_eq_true hc5; have hq1 := of_decide_eq_false hc8; have hq2 := of_decide_eq_false hc14; omega)]
          rw [nat_lss (a := (i39 + 1)) (b := r12.length)]
          refine ops_done (by kernel_rfl) ?_
          rcases Bool.eq_false_or_eq_true (decide ((i39 + 1) < r12.length)) with hc41 | hc41
          ·
            rw [hc41]
            refine cond_true_rule (b := true) (by kernel_rfl) rfl ?_
            refine wp_skip ?_
            refine wp_seq ?_
            refine wp_block ?_
            refine wp_seq ?_
            refine region_rule ?_
            refine ops_rule (C := []) [] [] 2 [] 0 (fun φ42 => [(38, .int .i64 ((i39 : Nat) : Int)), (37, .string ⟨(r12).toArray⟩)]) (fun φ42 => []) (fun φ42 => []) s trivial (fun φ42 => by kernel_rfl) ?_
            intro φ42 w42 s
            refine sem_rule (Instr.index 9 (.string ⟨(r12).toArray⟩) (.int .i64 ((i39 : Nat) : Int))) (some 39) (.int .u8 (((r12.getD i39 0).toNat : Nat) : Int)) (by kernel_rfl) (run_idxK (s := r12) (i := i39) (by have hzh1 := hi3_2; have hzh2 := hi12_2;  have hq0 := of_decide_eq_true hc5; have hq1 := of_decide_eq_false hc8; have hq2 := of_decide_eq_false hc14; have hq3 := of_decide_eq_true hc41; omega)) ?_
            refine ops_rule (C := []) [] [] 2 [] 0 (fun φ43 => [(41, .bool ((((r12.getD i39 0).toNat : Nat) : Int) == ((32 : Nat) : Int))), (40, .bool ((((r12.getD i39 0).toNat : Nat) : Int) == ((32 : Nat) : Int)))]) (fun φ43 => []) (fun φ43 => []) s trivial (fun φ43 => by kernel_rfl) ?_
            intro φ43 w43 s
            rw [nat_eql (a := ((r12.getD i39 0).toNat)) (b := 32)]
            rcases Bool.eq_false_or_eq_true (decide (((r12.getD i39 0).toNat) = 32)) with hc44 | hc44
            ·
              rw [hc44]
              refine ops_rule (C := []) [] [] 3 [] 0 (fun φ45 => [(44, .int .i64 (IntKind.wrap .i64 (((i39 : Nat) : Int) + ((1 : Nat) : Int)))), (43, .int .i64 ((i39 : Nat) : Int)), (42, .string ⟨(r12).toArray⟩)]) (fun φ45 => []) (fun φ45 => []) s trivial (fun φ45 => by kernel_rfl) ?_
              intro φ45 w45 s
              rw [nat_addI (a := i39) (b := 1) (by have hzh1 := hi3_2; have hzh2 := hi12_2;  have hq0 := of_decide_eq_true hc5; have hq1 := of_decide_eq_false hc8; have hq2 := of_decide_eq_false hc14; have hq3 := of_decide_eq_true hc41; have hq4 := of_decide_eq_true hc44; omega)]
              refine sem_rule (Instr.index 9 (.string ⟨(r12).toArray⟩) (.int .i64 ((i39 + 1 : Nat) : Int))) (some 45) (.int .u8 (((r12.getD (i39 + 1) 0).toNat : Nat) : Int)) (by kernel_rfl) (run_idxK (s := r12) (i := i39 + 1) (by have hzh1 := hi3_2; have hzh2 := hi12_2;  have hq0 := of_decide_eq_true hc5; have hq1 := of_decide_eq_false hc8; have hq2 := of_decide_eq_false hc14; have hq3 := of_decide_eq_true hc41; have hq4 := of_decide_eq_true hc44; omega)) ?_
              refine ops_rule (C := []) [] [] 2 [] 0 (fun φ46 => [(47, .bool ((((r12.getD (i39 + 1) 0).toNat : Nat) : Int) == ((32 : Nat) : Int))), (46, .bool ((((r12.getD (i39 + 1) 0).toNat : Nat) : Int) == ((32 : Nat) : Int)))]) (fun φ46 => []) (fun φ46 => []) s trivial (fun φ46 => by kernel_rfl) ?_
              intro φ46 w46 s
              rw [nat_eql (a := ((r12.getD (i39 + 1) 0).toNat)) (b := 32)]
              refine ops_done (by kernel_rfl) ?_
              rcases Bool.eq_false_or_eq_true (decide (((r12.getD (i39 + 1) 0).toNat) = 32)) with hc47 | hc47
              ·
                rw [hc47]
                refine cond_true_rule (b := true) (by kernel_rfl) rfl ?_
                refine wp_seq ?_
                refine draw_rule (C := []) ⟨(fun φ48 xs48 => [.look 0 [] [], .look 0 [] [], .ran (Instr.sliceAt 9 (.string ⟨(r12).toArray⟩) none (some (.int .i64 ((i39 : Nat) : Int))) none), .look 0 [] [], .look 0 [] [], .sub 0 [] [] (.int .i64 (IntKind.wrap .i64 (((i39 : Nat) : Int) + ((1 : Nat) : Int)))), .ran (Instr.sliceAt 9 (.string ⟨(r12).toArray⟩) (some (.int .i64 ((i39 + 1 : Nat) : Int))) none none), .ran (binOp .add 9 (.string ⟨((r12.take i39)).toArray⟩) (.string ⟨((r12.drop (i39 + 1))).toArray⟩)), .call 63 #[.string ⟨(((r12.take i39) ++ (r12.drop (i39 + 1)))).toArray⟩], .look 0 [] []]), (fun φ48 xs48 => [.string ⟨(r12).toArray⟩, .int .i64 ((i39 : Nat) : Int), .string ⟨((r12.take i39)).toArray⟩, .string ⟨(r12).toArray⟩, .int .i64 ((i39 : Nat) : Int), .int .i64 ((i39 + 1 : Nat) : Int), .string ⟨((r12.drop (i39 + 1))).toArray⟩, .string ⟨(((r12.take i39) ++ (r12.drop (i39 + 1)))).toArray⟩, .string ⟨((fldS ((r12.take i39) ++ (r12.drop (i39 + 1))))).toArray⟩, .string ⟨((fldS ((r12.take i39) ++ (r12.drop (i39 + 1))))).toArray⟩]), (fun φ48 xs48 => [[]]), (fun φ48 xs48 => [[default, default, default, default, default, default, default, default, default, default]]), [], [1, 1, 6, 1, 1, 5, 6, 6, 3, 1]⟩ (fun j => ([MP.any, MP.any, MP.any, MP.any, MP.any, MP.any, MP.any, MP.any, MP.any, MP.any] : List MP).getD j MP.any) [8] [5] [2, 6, 7] (fun φ48 xs48 => []) (fun φ48 xs48 => [(48, .string ⟨(r12).toArray⟩), (49, .int .i64 ((i39 : Nat) : Int)), (50, .string ⟨((r12.take i39)).toArray⟩), (51, .string ⟨(r12).toArray⟩), (52, .int .i64 ((i39 : Nat) : Int)), (53, .int .i64 ((i39 + 1 : Nat) : Int)), (54, .string ⟨((r12.drop (i39 + 1))).toArray⟩), (55, .string ⟨(((r12.take i39) ++ (r12.drop (i39 + 1)))).toArray⟩), (56, .string ⟨((fldS ((r12.take i39) ++ (r12.drop (i39 + 1))))).toArray⟩), (2, .string ⟨((fldS ((r12.take i39) ++ (r12.drop (i39 + 1))))).toArray⟩)]) (fun φ48 xs48 => []) s trivial (by kernel_rfl) (by kernel_rfl) (fun _ _ => by kernel_rfl) (fun _ _ => by kernel_rfl) ⟨fun _ _ => by kernel_rfl, fun _ _ => by kernel_rfl, fun _ _ => by kernel_rfl, fun _ _ => by kernel_rfl⟩ (fun _ _ _ => by kernel_rfl) (fun _ _ => by kernel_rfl) (fun _ _ => by kernel_rfl) (fun _ _ => by kernel_rfl) (fun _ _ => by kernel_rfl) (fun _ _ => by kernel_rfl) ⟨kcast (A := ∀ (φ48 : Nat → Nat) (xs48 : Xs), (.int .i64 (IntKind.wrap .i64 (((i39 : Nat) : Int) + ((1 : Nat) : Int))) : Value) = .int .i64 ((i39 + 1 : Nat) : Int)) (by kernel_rfl) (fun φ48 xs48 => congrArg (Value.int .i64) ((nat_addI (a := i39) (b := 1) (by have hzh1 := hi3_2; have hzh2 := hi12_2;  have hq0 := of_decide_eq_true hc5; have hq1 := of_decide_eq_false hc8; have hq2 := of_decide_eq_false hc14; have hq3 := of_decide_eq_true hc41; have hq4 := of_decide_eq_true hc44; have hq5 := of_decide_eq_true hc47; omega)))), trivial⟩ ⟨kcast (A := ∀ (φ48 : Nat → Nat) (xs48 : Xs) (J : IM) (w : World), I39.Le J → J.Sub w → ((Instr.sliceAt 9 (.string ⟨(r12).toArray⟩) none (some (.int .i64 ((i39 : Nat) : Int))) none) : Sem Value).run Tryd.prog w = .ok (.string ⟨((r12.take i39)).toArray⟩) w) (by kernel_rfl) (fun φ48 xs48 J w hJ hS => run_takeS (s := r12) (hi := i39) (by have hzh1 := hi3_2; have hzh2 := hi12_2;  have hq0 := of_decide_eq_true hc5; have hq1 := of_decide_eq_false hc8; have hq2 := of_decide_eq_false hc14; have hq3 := of_decide_eq_true hc41; have hq4 := of_decide_eq_true hc44; have hq5 := of_decide_eq_true hc47; omega)), ⟨kcast (A := ∀ (φ48 : Nat → Nat) (xs48 : Xs) (J : IM) (w : World), I39.Le J → J.Sub w → ((Instr.sliceAt 9 (.string ⟨(r12).toArray⟩) (some (.int .i64 ((i39 + 1 : Nat) : Int))) none none) : Sem Value).run Tryd.prog w = .ok (.string ⟨((r12.drop (i39 + 1))).toArray⟩) w) (by kernel_rfl) (fun φ48 xs48 J w hJ hS => run_dropStr (s := r12) (lo := i39 + 1) under9 (by have hzh1 := hi3_2; have hzh2 := hi12_2;  have hq0 := of_decide_eq_true hc5; have hq1 := of_decide_eq_false hc8; have hq2 := of_decide_eq_false hc14; have hq3 := of_decide_eq_true hc41; have hq4 := of_decide_eq_true hc44; have hq5 := of_decide_eq_true hc47; omega)), ⟨kcast (A := ∀ (φ48 : Nat → Nat) (xs48 : Xs) (J : IM) (w : World), I39.Le J → J.Sub w → ((binOp .add 9 (.string ⟨((r12.take i39)).toArray⟩) (.string ⟨((r12.drop (i39 + 1))).toArray⟩)) : Sem Value).run Tryd.prog w = .ok (.string ⟨(((r12.take i39) ++ (r12.drop (i39 + 1)))).toArray⟩) w) (by kernel_rfl) (fun φ48 xs48 J w hJ hS => run_cat (x := (r12.take i39)) (y := (r12.drop (i39 + 1))) (by have h6 := hi12_2; have hq0 := of_decide_eq_true hc5; have hq1 := of_decide_eq_false hc8; have hq2 := of_decide_eq_false hc14; have hq3 := of_decide_eq_true hc41; have hq4 := of_decide_eq_true hc44; have hq5 := of_decide_eq_true hc47; rw [List.length_take, List.length_drop]; omega)), trivial⟩⟩⟩ (by kernel_rfl) ⟨?c48_8, trivial⟩ ?k48
                case c48_8 =>
                  refine kcast (A := ∀ (φ48 : Nat → Nat) (xs48 : Xs) (J8_48 : IM), I39.Le J8_48 → Fun Tryd.prog 63 #[.string ⟨(((r12.take i39) ++ (r12.drop (i39 + 1)))).toArray⟩] J8_48 (fun v J' => ∃ x : UX, v = .string ⟨((fldS ((r12.take i39) ++ (r12.drop (i39 + 1))))).toArray⟩ ∧ (True))) (by kernel_rfl) ?_
                  intro φ48 xs48 J8_48 leJ
                  exact Fun.mono (ih (l := ((r12.take i39) ++ (r12.drop (i39 + 1)))) (by have h6 := hi12_2; have hq0 := of_decide_eq_true hc5; have hq1 := of_decide_eq_false hc8; have hq2 := of_decide_eq_false hc14; have hq3 := of_decide_eq_true hc41; have hq4 := of_decide_eq_true hc44; have hq5 := of_decide_eq_true hc47; rw [List.length_append, List.length_take, List.length_drop]; omega) (by have h6 := hi12_2; have hq0 := of_decide_eq_true hc5; have hq1 := of_decide_eq_false hc8; have hq2 := of_decide_eq_false hc14; have hq3 := of_decide_eq_true hc41; have hq4 := of_decide_eq_true hc44; have hq5 := of_decide_eq_true hc47; rw [List.length_append, List.length_take, List.length_drop]; omega)) (fun v J' _ h => ⟨UX.d, h, trivial⟩)
                case k48 =>
                  rintro φ48 xs48 I48 w48 le48 s _
                  replace hle2 := leMono le48 hle2
                  replace hle11 := leMono le48 hle11
                  replace hle38 := leMono le48 hle38
                  refine wp_ret ?_
                  refine ret_rule (C := []) [] [] (.string ⟨((fldS ((r12.take i39) ++ (r12.drop (i39 + 1))))).toArray⟩) [] [] s trivial (by kernel_rfl) ?_
                  exact ⟨_, _, _, rfl, s, (congrArg (fun q : List UInt8 => Value.string ⟨q.toArray⟩) ((fl_two (by have hq0 := of_decide_eq_true hc5; have hq1 := of_decide_eq_false hc8; have hq2 := of_decide_eq_false hc14; have hq3 := of_decide_eq_true hc41; have hq4 := of_decide_eq_true hc44; have hq5 := of_decide_eq_true hc47; omega) (by have hq0 := of_decide_eq_true hc5; have hq1 := of_decide_eq_false hc8; have hq2 := of_decide_eq_false hc14; have hq3 := of_decide_eq_true hc41; have hq4 := of_decide_eq_true hc44; have hq5 := of_decide_eq_true hc47; omega) (by have hq0 := of_decide_eq_true hc5; have hq1 := of_decide_eq_false hc8; have hq2 := of_decide_eq_false hc14; have hq3 := of_decide_eq_true hc41; have hq4 := of_decide_eq_true hc44; have hq5 := of_decide_eq_true hc47; omega)).trans hi12_1))⟩
              ·
                rw [hc47]
                refine cond_false_rule (b := false) (by kernel_rfl) rfl ?_
                refine wp_skip ?_
                refine region_rule ?_
                refine ops_rule (C := []) [] [] 3 [] 0 (fun φ49 => [(3, .int .i64 (IntKind.wrap .i64 (((i39 : Nat) : Int) + ((1 : Nat) : Int)))), (36, .int .i64 (IntKind.wrap .i64 (((i39 : Nat) : Int) + ((1 : Nat) : Int)))), (35, .int .i64 ((i39 : Nat) : Int))]) (fun φ49 => []) (fun φ49 => []) s trivial (fun φ49 => by kernel_rfl) ?_
                intro φ49 w49 s
                rw [nat_addI (a := i39) (b := 1) (by have hzh1 := hi3_2; have hzh2 := hi12_2;  have hq0 := of_decide_eq_true hc5; have hq1 := of_decide_eq_false hc8; have hq2 := of_decide_eq_false hc14; have hq3 := of_decide_eq_true hc41; have hq4 := of_decide_eq_true hc44; have hq5 := of_decide_eq_false hc47; omega)]
                refine ops_done (by kernel_rfl) ?_
                exact ⟨⟨m39 - 1, i39 + 1, _, _, _, by have hq0 := of_decide_eq_true hc5; have hq1 := of_decide_eq_false hc8; have hq2 := of_decide_eq_false hc14; have hq3 := of_decide_eq_true hc41; have hq4 := of_decide_eq_true hc44; have hq5 := of_decide_eq_false hc47; have h6 := hi39_0; omega, rfl, s, List.Sublist.slnil, by kernel_rfl, hle38, by have hq0 := of_decide_eq_true hc5; have hq1 := of_decide_eq_false hc8; have hq2 := of_decide_eq_false hc14; have hq3 := of_decide_eq_true hc41; have hq4 := of_decide_eq_true hc44; have hq5 := of_decide_eq_false hc47; have h6 := hi39_0; show r12.length ≤ i39 + 1 + (m39 - 1); omega, (by have hq0 := of_decide_eq_true hc5; have hq1 := of_decide_eq_false hc8; have hq2 := of_decide_eq_false hc14; have hq3 := of_decide_eq_true hc41; have hq4 := of_decide_eq_true hc44; have hq5 := of_decide_eq_false hc47; intro j hj hl hh; rcases (by omega : j < i39 ∨ j = i39) with q | q; exact hi39_1 j q hl hh; subst q; omega), by have hq0 := of_decide_eq_true hc5; have hq1 := of_decide_eq_false hc8; have hq2 := of_decide_eq_false hc14; have hq3 := of_decide_eq_true hc41; have hq4 := of_decide_eq_true hc44; have hq5 := of_decide_eq_false hc47; show i39 + 1 ≤ r12.length; omega⟩⟩
            ·
              rw [hc44]
              refine ops_rule (C := []) [] [] 6 [] 0 (fun φ50 => [(47, .bool false), (46, undef), (45, undef), (44, undef), (43, undef), (42, undef)]) (fun φ50 => []) (fun φ50 => []) s trivial (fun φ50 => by kernel_rfl) ?_
              intro φ50 w50 s
              refine ops_done (by kernel_rfl) ?_
              refine cond_false_rule (b := false) (by kernel_rfl) rfl ?_
              refine wp_skip ?_
              refine region_rule ?_
              refine ops_rule (C := []) [] [] 3 [] 0 (fun φ51 => [(3, .int .i64 (IntKind.wrap .i64 (((i39 : Nat) : Int) + ((1 : Nat) : Int)))), (36, .int .i64 (IntKind.wrap .i64 (((i39 : Nat) : Int) + ((1 : Nat) : Int)))), (35, .int .i64 ((i39 : Nat) : Int))]) (fun φ51 => []) (fun φ51 => []) s trivial (fun φ51 => by kernel_rfl) ?_
              intro φ51 w51 s
              rw [nat_addI (a := i39) (b := 1) (by have hzh1 := hi3_2; have hzh2 := hi12_2;  have hq0 := of_decide_eq_true hc5; have hq1 := of_decide_eq_false hc8; have hq2 := of_decide_eq_false hc14; have hq3 := of_decide_eq_true hc41; have hq4 := of_decide_eq_false hc44; omega)]
              refine ops_done (by kernel_rfl) ?_
              exact ⟨⟨m39 - 1, i39 + 1, _, _, _, by have hq0 := of_decide_eq_true hc5; have hq1 := of_decide_eq_false hc8; have hq2 := of_decide_eq_false hc14; have hq3 := of_decide_eq_true hc41; have hq4 := of_decide_eq_false hc44; have h6 := hi39_0; omega, rfl, s, List.Sublist.slnil, by kernel_rfl, hle38, by have hq0 := of_decide_eq_true hc5; have hq1 := of_decide_eq_false hc8; have hq2 := of_decide_eq_false hc14; have hq3 := of_decide_eq_true hc41; have hq4 := of_decide_eq_false hc44; have h6 := hi39_0; show r12.length ≤ i39 + 1 + (m39 - 1); omega, (by have hq0 := of_decide_eq_true hc5; have hq1 := of_decide_eq_false hc8; have hq2 := of_decide_eq_false hc14; have hq3 := of_decide_eq_true hc41; have hq4 := of_decide_eq_false hc44; intro j hj hl hh; rcases (by omega : j < i39 ∨ j = i39) with q | q; exact hi39_1 j q hl hh; subst q; omega), by have hq0 := of_decide_eq_true hc5; have hq1 := of_decide_eq_false hc8; have hq2 := of_decide_eq_false hc14; have hq3 := of_decide_eq_true hc41; have hq4 := of_decide_eq_false hc44; show i39 + 1 ≤ r12.length; omega⟩⟩
          ·
            rw [hc41]
            refine cond_false_rule (b := false) (by kernel_rfl) rfl ?_
            refine wp_exit ?_
            refine wp_seq ?_
            refine region_rule ?_
            refine ops_rule (C := []) [] [] 2 [] 0 (fun φ52 => [(2, .string ⟨(r12).toArray⟩), (57, .string ⟨(r12).toArray⟩)]) (fun φ52 => []) (fun φ52 => []) s trivial (fun φ52 => by kernel_rfl) ?_
            intro φ52 w52 s
            refine ops_done (by kernel_rfl) ?_
            refine wp_ret ?_
            refine ret_rule (C := []) [] [] (.string ⟨(r12).toArray⟩) [] [] s trivial (by kernel_rfl) ?_
            exact ⟨_, _, _, rfl, s, (congrArg (fun q : List UInt8 => Value.string ⟨q.toArray⟩) ((fl_end hi12_3 hnt39 (by have hq0 := of_decide_eq_true hc5; have hq1 := of_decide_eq_false hc8; have hq2 := of_decide_eq_false hc14; have hq3 := of_decide_eq_false hc41; intro j hl; exact hi39_1 j (by omega) hl)).trans hi12_1))⟩
    ·
      rw [hc5]
      refine ops_rule (C := []) [] [] 4 [] 0 (fun φ53 => [(11, .bool false), (10, undef), (9, undef), (8, undef)]) (fun φ53 => []) (fun φ53 => []) s trivial (fun φ53 => by kernel_rfl) ?_
      intro φ53 w53 s
      refine ops_done (by kernel_rfl) ?_
      refine cond_false_rule (b := false) (by kernel_rfl) rfl ?_
      refine wp_exit ?_
      refine wp_seq ?_
      refine wp_block ?_
      have hnl55 : NLd r3 := (by rintro ⟨q1, q2⟩; have hq0 := of_decide_eq_false hc5; omega)
      have hle54 := IM.Le.refl I3
      refine loop_rule (fun (x : List UInt8) => [(2, .string ⟨#[]⟩), (0, .string ⟨(x).toArray⟩)]) (fun (x : List UInt8) => []) (fun m (x : List UInt8) J => IM.Le I3 J ∧ (x).length ≤ m ∧ fldS x = fldS l ∧ (x).length ≤ l.length ∧ NLd x) (r3.length) r3 s (by kernel_rfl) List.Sublist.slnil ⟨IM.Le.refl _, Nat.le_refl _, hi3_1, hi3_2, hnl55⟩ ?_
      rintro m55 r55 I55 w55 ev55 s ⟨le55, hi55_0, hi55_1, hi55_2, hi55_3⟩
      try dsimp only at s hi55_0 hi55_1 hi55_2 hi55_3 ⊢
      replace hle2 := leMono le55 hle2
      replace hle54 := leMono le55 hle54
      refine wp_seq ?_
      refine wp_seq ?_
      refine region_rule ?_
      refine ops_rule (C := []) [] [] 4 [] 0 (fun φ56 => [(17, .bool (decide (((r55.length : Nat) : Int) > ((0 : Nat) : Int)))), (16, .bool (decide (((r55.length : Nat) : Int) > ((0 : Nat) : Int)))), (15, .int .i64 ((r55.length : Nat) : Int)), (14, .string ⟨(r55).toArray⟩)]) (fun φ56 => []) (fun φ56 => []) s trivial (fun φ56 => by kernel_rfl) ?_
      intro φ56 w56 s
      rw [nat_gtr (a := r55.length) (b := 0)]
      rcases Bool.eq_false_or_eq_true (decide (0 < r55.length)) with hc57 | hc57
      ·
        rw [hc57]
        refine ops_rule (C := []) [] [] 4 [] 0 (fun φ58 => [(21, .int .i64 (IntKind.wrap .i64 (((r55.length : Nat) : Int) - ((1 : Nat) : Int)))), (20, .int .i64 ((r55.length : Nat) : Int)), (19, .string ⟨(r55).toArray⟩), (18, .string ⟨(r55).toArray⟩)]) (fun φ58 => []) (fun φ58 => []) s trivial (fun φ58 => by kernel_rfl) ?_
        intro φ58 w58 s
        rw [nat_subI (a := r55.length) (b := 1) (by have hzh1 := hi3_2; have hzh2 := hi55_2;  have hq0 := of_decide_eq_false hc5; have hq1 := of_decide_eq_true hc57; omega) (by have hzh1 := hi3_2; have hzh2 := hi55_2;  have hq0 := of_decide_eq_false hc5; have hq1 := of_decide_eq_true hc57; omega)]
        refine sem_rule (Instr.index 9 (.string ⟨(r55).toArray⟩) (.int .i64 ((r55.length - 1 : Nat) : Int))) (some 22) (.int .u8 (((r55.getD (r55.length - 1) 0).toNat : Nat) : Int)) (by kernel_rfl) (run_idxK (s := r55) (i := r55.length - 1) (by have hzh1 := hi3_2; have hzh2 := hi55_2;  have hq0 := of_decide_eq_false hc5; have hq1 := of_decide_eq_true hc57; omega)) ?_
        refine ops_rule (C := []) [] [] 2 [] 0 (fun φ59 => [(24, .bool ((((r55.getD (r55.length - 1) 0).toNat : Nat) : Int) == ((32 : Nat) : Int))), (23, .bool ((((r55.getD (r55.length - 1) 0).toNat : Nat) : Int) == ((32 : Nat) : Int)))]) (fun φ59 => []) (fun φ59 => []) s trivial (fun φ59 => by kernel_rfl) ?_
        intro φ59 w59 s
        rw [nat_eql (a := ((r55.getD (r55.length - 1) 0).toNat)) (b := 32)]
        refine ops_done (by kernel_rfl) ?_
        rcases Bool.eq_false_or_eq_true (decide (((r55.getD (r55.length - 1) 0).toNat) = 32)) with hc60 | hc60
        ·
          rw [hc60]
          refine cond_true_rule (b := true) (by kernel_rfl) rfl ?_
          refine wp_skip ?_
          refine wp_block ?_
          refine region_rule ?_
          refine ops_rule (C := []) [] [] 4 [] 0 (fun φ61 => [(28, .int .i64 (IntKind.wrap .i64 (((r55.length : Nat) : Int) - ((1 : Nat) : Int)))), (27, .int .i64 ((r55.length : Nat) : Int)), (26, .string ⟨(r55).toArray⟩), (25, .string ⟨(r55).toArray⟩)]) (fun φ61 => []) (fun φ61 => []) s trivial (fun φ61 => by kernel_rfl) ?_
          intro φ61 w61 s
          rw [nat_subI (a := r55.length) (b := 1) (by have hzh1 := hi3_2; have hzh2 := hi55_2;  have hq0 := of_decide_eq_false hc5; have hq1 := of_decide_eq_true hc57; have hq2 := of_decide_eq_true hc60; omega) (by have hzh1 := hi3_2; have hzh2 := hi55_2;  have hq0 := of_decide_eq_false hc5; have hq1 := of_decide_eq_true hc57; have hq2 := of_decide_eq_true hc60; omega)]
          refine sem_rule (Instr.sliceAt 9 (.string ⟨(r55).toArray⟩) none (some (.int .i64 ((r55.length - 1 : Nat) : Int))) none) (some 29) (.string ⟨((r55.take (r55.length - 1))).toArray⟩) (by kernel_rfl) (run_takeS (s := r55) (hi := r55.length - 1) (by have hzh1 := hi3_2; have hzh2 := hi55_2;  have hq0 := of_decide_eq_false hc5; have hq1 := of_decide_eq_true hc57; have hq2 := of_decide_eq_true hc60; omega)) ?_
          refine ops_rule (C := []) [] [] 1 [] 0 (fun φ62 => [(0, .string ⟨((r55.take (r55.length - 1))).toArray⟩)]) (fun φ62 => []) (fun φ62 => []) s trivial (fun φ62 => by kernel_rfl) ?_
          intro φ62 w62 s
          refine ops_done (by kernel_rfl) ?_
          exact ⟨⟨m55 - 1, (r55.take (r55.length - 1)), _, _, _, by have hq0 := of_decide_eq_false hc5; have hq1 := of_decide_eq_true hc57; have hq2 := of_decide_eq_true hc60; have h6 := hi55_0; omega, rfl, s, List.Sublist.slnil, by kernel_rfl, hle54, by have hq0 := of_decide_eq_false hc5; have hq1 := of_decide_eq_true hc57; have hq2 := of_decide_eq_true hc60; have h6 := hi55_0; show (r55.take (r55.length - 1)).length ≤ m55 - 1; rw [List.length_take]; omega, (fl_trail (by have hq0 := of_decide_eq_false hc5; have hq1 := of_decide_eq_true hc57; have hq2 := of_decide_eq_true hc60; omega) (by have hq0 := of_decide_eq_false hc5; have hq1 := of_decide_eq_true hc57; have hq2 := of_decide_eq_true hc60; omega)).trans hi55_1, by have h6 := hi55_2; show (r55.take (r55.length - 1)).length ≤ l.length; rw [List.length_take]; omega, nl_take hi55_3⟩⟩
        ·
          rw [hc60]
          refine cond_false_rule (b := false) (by kernel_rfl) rfl ?_
          refine wp_exit ?_
          refine wp_seq ?_
          refine wp_seq ?_
          refine region_rule ?_
          refine ops_rule (C := []) [] [] 1 [] 0 (fun φ63 => [(3, .int .i64 0)]) (fun φ63 => []) (fun φ63 => []) s trivial (fun φ63 => by kernel_rfl) ?_
          intro φ63 w63 s
          refine ops_done (by kernel_rfl) ?_
          refine wp_block ?_
          have hnt65 : ¬ (0 < r55.length ∧ (r55.getD (r55.length - 1) 0).toNat = 32) := (by rintro ⟨q1, q2⟩; have hq0 := of_decide_eq_false hc5; have hq1 := of_decide_eq_true hc57; have hq2 := of_decide_eq_false hc60; omega)
          have hle64 := IM.Le.refl I55
          refine loop_rule (fun (x : Nat) => [(0, .string ⟨(r55).toArray⟩), (2, .string ⟨#[]⟩), (3, .int .i64 ((x : Nat) : Int))]) (fun (x : Nat) => []) (fun m (x : Nat) J => IM.Le I55 J ∧ r55.length ≤ x + m ∧ (∀ j, j < x → j + 1 < r55.length → ¬ ((r55.getD j 0).toNat = 32 ∧ (r55.getD (j + 1) 0).toNat = 32)) ∧ x ≤ r55.length) (r55.length) 0 s (by kernel_rfl) List.Sublist.slnil ⟨IM.Le.refl _, by omega, (fun j hj => absurd hj (Nat.not_lt_zero j)), Nat.zero_le _⟩ ?_
          rintro m65 i65 I65 w65 ev65 s ⟨le65, hi65_0, hi65_1, hi65_2⟩
          try dsimp only at s hi65_0 hi65_1 hi65_2 ⊢
          replace hle2 := leMono le65 hle2
          replace hle54 := leMono le65 hle54
          replace hle64 := leMono le65 hle64
          refine wp_seq ?_
          refine wp_seq ?_
          refine region_rule ?_
          refine ops_rule (C := []) [] [] 5 [] 0 (fun φ66 => [(34, .bool (decide ((IntKind.wrap .i64 (((i65 : Nat) : Int) + ((1 : Nat) : Int))) < ((r55.length : Nat) : Int)))), (33, .int .i64 ((r55.length : Nat) : Int)), (32, .string ⟨(r55).toArray⟩), (31, .int .i64 (IntKind.wrap .i64 (((i65 : Nat) : Int) + ((1 : Nat) : Int)))), (30, .int .i64 ((i65 : Nat) : Int))]) (fun φ66 => []) (fun φ66 => []) s trivial (fun φ66 => by kernel_rfl) ?_
          intro φ66 w66 s
          rw [nat_addI (a := i65) (b := 1) (by have hzh1 := hi3_2; have hzh2 := hi55_2;  have hq0 := of_decide_eq_false hc5; have hq1 := of_decide_eq_true hc57; have hq2 := of_decide_eq_false hc60; omega)]
          rw [nat_lss (a := (i65 + 1)) (b := r55.length)]
          refine ops_done (by kernel_rfl) ?_
          rcases Bool.eq_false_or_eq_true (decide ((i65 + 1) < r55.length)) with hc67 | hc67
          ·
            rw [hc67]
            refine cond_true_rule (b := true) (by kernel_rfl) rfl ?_
            refine wp_skip ?_
            refine wp_seq ?_
            refine wp_block ?_
            refine wp_seq ?_
            refine region_rule ?_
            refine ops_rule (C := []) [] [] 2 [] 0 (fun φ68 => [(38, .int .i64 ((i65 : Nat) : Int)), (37, .string ⟨(r55).toArray⟩)]) (fun φ68 => []) (fun φ68 => []) s trivial (fun φ68 => by kernel_rfl) ?_
            intro φ68 w68 s
            refine sem_rule (Instr.index 9 (.string ⟨(r55).toArray⟩) (.int .i64 ((i65 : Nat) : Int))) (some 39) (.int .u8 (((r55.getD i65 0).toNat : Nat) : Int)) (by kernel_rfl) (run_idxK (s := r55) (i := i65) (by have hzh1 := hi3_2; have hzh2 := hi55_2;  have hq0 := of_decide_eq_false hc5; have hq1 := of_decide_eq_true hc57; have hq2 := of_decide_eq_false hc60; have hq3 := of_decide_eq_true hc67; omega)) ?_
            refine ops_rule (C := []) [] [] 2 [] 0 (fun φ69 => [(41, .bool ((((r55.getD i65 0).toNat : Nat) : Int) == ((32 : Nat) : Int))), (40, .bool ((((r55.getD i65 0).toNat : Nat) : Int) == ((32 : Nat) : Int)))]) (fun φ69 => []) (fun φ69 => []) s trivial (fun φ69 => by kernel_rfl) ?_
            intro φ69 w69 s
            rw [nat_eql (a := ((r55.getD i65 0).toNat)) (b := 32)]
            rcases Bool.eq_false_or_eq_true (decide (((r55.getD i65 0).toNat) = 32)) with hc70 | hc70
            ·
              rw [hc70]
              refine ops_rule (C := []) [] [] 3 [] 0 (fun φ71 => [(44, .int .i64 (IntKind.wrap .i64 (((i65 : Nat) : Int) + ((1 : Nat) : Int)))), (43, .int .i64 ((i65 : Nat) : Int)), (42, .string ⟨(r55).toArray⟩)]) (fun φ71 => []) (fun φ71 => []) s trivial (fun φ71 => by kernel_rfl) ?_
              intro φ71 w71 s
              rw [nat_addI (a := i65) (b := 1) (by have hzh1 := hi3_2; have hzh2 := hi55_2;  have hq0 := of_decide_eq_false hc5; have hq1 := of_decide_eq_true hc57; have hq2 := of_decide_eq_false hc60; have hq3 := of_decide_eq_true hc67; have hq4 := of_decide_eq_true hc70; omega)]
              refine sem_rule (Instr.index 9 (.string ⟨(r55).toArray⟩) (.int .i64 ((i65 + 1 : Nat) : Int))) (some 45) (.int .u8 (((r55.getD (i65 + 1) 0).toNat : Nat) : Int)) (by kernel_rfl) (run_idxK (s := r55) (i := i65 + 1) (by have hzh1 := hi3_2; have hzh2 := hi55_2;  have hq0 := of_decide_eq_false hc5; have hq1 := of_decide_eq_true hc57; have hq2 := of_decide_eq_false hc60; have hq3 := of_decide_eq_true hc67; have hq4 := of_decide_eq_true hc70; omega)) ?_
              refine ops_rule (C := []) [] [] 2 [] 0 (fun φ72 => [(47, .bool ((((r55.getD (i65 + 1) 0).toNat : Nat) : Int) == ((32 : Nat) : Int))), (46, .bool ((((r55.getD (i65 + 1) 0).toNat : Nat) : Int) == ((32 : Nat) : Int)))]) (fun φ72 => []) (fun φ72 => []) s trivial (fun φ72 => by kernel_rfl) ?_
              intro φ72 w72 s
              rw [nat_eql (a := ((r55.getD (i65 + 1) 0).toNat)) (b := 32)]
              refine ops_done (by kernel_rfl) ?_
              rcases Bool.eq_false_or_eq_true (decide (((r55.getD (i65 + 1) 0).toNat) = 32)) with hc73 | hc73
              ·
                rw [hc73]
                refine cond_true_rule (b := true) (by kernel_rfl) rfl ?_
                refine wp_seq ?_
                refine draw_rule (C := []) ⟨(fun φ74 xs74 => [.look 0 [] [], .look 0 [] [], .ran (Instr.sliceAt 9 (.string ⟨(r55).toArray⟩) none (some (.int .i64 ((i65 : Nat) : Int))) none), .look 0 [] [], .look 0 [] [], .sub 0 [] [] (.int .i64 (IntKind.wrap .i64 (((i65 : Nat) : Int) + ((1 : Nat) : Int)))), .ran (Instr.sliceAt 9 (.string ⟨(r55).toArray⟩) (some (.int .i64 ((i65 + 1 : Nat) : Int))) none none), .ran (binOp .add 9 (.string ⟨((r55.take i65)).toArray⟩) (.string ⟨((r55.drop (i65 + 1))).toArray⟩)), .call 63 #[.string ⟨(((r55.take i65) ++ (r55.drop (i65 + 1)))).toArray⟩], .look 0 [] []]), (fun φ74 xs74 => [.string ⟨(r55).toArray⟩, .int .i64 ((i65 : Nat) : Int), .string ⟨((r55.take i65)).toArray⟩, .string ⟨(r55).toArray⟩, .int .i64 ((i65 : Nat) : Int), .int .i64 ((i65 + 1 : Nat) : Int), .string ⟨((r55.drop (i65 + 1))).toArray⟩, .string ⟨(((r55.take i65) ++ (r55.drop (i65 + 1)))).toArray⟩, .string ⟨((fldS ((r55.take i65) ++ (r55.drop (i65 + 1))))).toArray⟩, .string ⟨((fldS ((r55.take i65) ++ (r55.drop (i65 + 1))))).toArray⟩]), (fun φ74 xs74 => [[]]), (fun φ74 xs74 => [[default, default, default, default, default, default, default, default, default, default]]), [], [1, 1, 6, 1, 1, 5, 6, 6, 3, 1]⟩ (fun j => ([MP.any, MP.any, MP.any, MP.any, MP.any, MP.any, MP.any, MP.any, MP.any, MP.any] : List MP).getD j MP.any) [8] [5] [2, 6, 7] (fun φ74 xs74 => []) (fun φ74 xs74 => [(48, .string ⟨(r55).toArray⟩), (49, .int .i64 ((i65 : Nat) : Int)), (50, .string ⟨((r55.take i65)).toArray⟩), (51, .string ⟨(r55).toArray⟩), (52, .int .i64 ((i65 : Nat) : Int)), (53, .int .i64 ((i65 + 1 : Nat) : Int)), (54, .string ⟨((r55.drop (i65 + 1))).toArray⟩), (55, .string ⟨(((r55.take i65) ++ (r55.drop (i65 + 1)))).toArray⟩), (56, .string ⟨((fldS ((r55.take i65) ++ (r55.drop (i65 + 1))))).toArray⟩), (2, .string ⟨((fldS ((r55.take i65) ++ (r55.drop (i65 + 1))))).toArray⟩)]) (fun φ74 xs74 => []) s trivial (by kernel_rfl) (by kernel_rfl) (fun _ _ => by kernel_rfl) (fun _ _ => by kernel_rfl) ⟨fun _ _ => by kernel_rfl, fun _ _ => by kernel_rfl, fun _ _ => by kernel_rfl, fun _ _ => by kernel_rfl⟩ (fun _ _ _ => by kernel_rfl) (fun _ _ => by kernel_rfl) (fun _ _ => by kernel_rfl) (fun _ _ => by kernel_rfl) (fun _ _ => by kernel_rfl) (fun _ _ => by kernel_rfl) ⟨kcast (A := ∀ (φ74 : Nat → Nat) (xs74 : Xs), (.int .i64 (IntKind.wrap .i64 (((i65 : Nat) : Int) + ((1 : Nat) : Int))) : Value) = .int .i64 ((i65 + 1 : Nat) : Int)) (by kernel_rfl) (fun φ74 xs74 => congrArg (Value.int .i64) ((nat_addI (a := i65) (b := 1) (by have hzh1 := hi3_2; have hzh2 := hi55_2;  have hq0 := of_decide_eq_false hc5; have hq1 := of_decide_eq_true hc57; have hq2 := of_decide_eq_false hc60; have hq3 := of_decide_eq_true hc67; have hq4 := of_decide_eq_true hc70; have hq5 := of_decide_eq_true hc73; omega)))), trivial⟩ ⟨kcast (A := ∀ (φ74 : Nat → Nat) (xs74 : Xs) (J : IM) (w : World), I65.Le J → J.Sub w → ((Instr.sliceAt 9 (.string ⟨(r55).toArray⟩) none (some (.int .i64 ((i65 : Nat) : Int))) none) : Sem Value).run Tryd.prog w = .ok (.string ⟨((r55.take i65)).toArray⟩) w) (by kernel_rfl) (fun φ74 xs74 J w hJ hS => run_takeS (s := r55) (hi := i65) (by have hzh1 := hi3_2; have hzh2 := hi55_2;  have hq0 := of_decide_eq_false hc5; have hq1 := of_decide_eq_true hc57; have hq2 := of_decide_eq_false hc60; have hq3 := of_decide_eq_true hc67; have hq4 := of_decide_eq_true hc70; have hq5 := of_decide_eq_true hc73; omega)), ⟨kcast (A := ∀ (φ74 : Nat → Nat) (xs74 : Xs) (J : IM) (w : World), I65.Le J → J.Sub w → ((Instr.sliceAt 9 (.string ⟨(r55).toArray⟩) (some (.int .i64 ((i65 + 1 : Nat) : Int))) none none) : Sem Value).run Tryd.prog w = .ok (.string ⟨((r55.drop (i65 + 1))).toArray⟩) w) (by kernel_rfl) (fun φ74 xs74 J w hJ hS => run_dropStr (s := r55) (lo := i65 + 1) under9 (by have hzh1 := hi3_2; have hzh2 := hi55_2;  have hq0 := of_decide_eq_false hc5; have hq1 := of_decide_eq_true hc57; have hq2 := of_decide_eq_false hc60; have hq3 := of_decide_eq_true hc67; have hq4 := of_decide_eq_true hc70; have hq5 := of_decide_eq_true hc73; omega)), ⟨kcast (A := ∀ (φ74 : Nat → Nat) (xs74 : Xs) (J : IM) (w : World), I65.Le J → J.Sub w → ((binOp .add 9 (.string ⟨((r55.take i65)).toArray⟩) (.string ⟨((r55.drop (i65 + 1))).toArray⟩)) : Sem Value).run Tryd.prog w = .ok (.string ⟨(((r55.take i65) ++ (r55.drop (i65 + 1)))).toArray⟩) w) (by kernel_rfl) (fun φ74 xs74 J w hJ hS => run_cat (x := (r55.take i65)) (y := (r55.drop (i65 + 1))) (by have h6 := hi55_2; have hq0 := of_decide_eq_false hc5; have hq1 := of_decide_eq_true hc57; have hq2 := of_decide_eq_false hc60; have hq3 := of_decide_eq_true hc67; have hq4 := of_decide_eq_true hc70; have hq5 := of_decide_eq_true hc73; rw [List.length_take, List.length_drop]; omega)), trivial⟩⟩⟩ (by kernel_rfl) ⟨?c74_8, trivial⟩ ?k74
                case c74_8 =>
                  refine kcast (A := ∀ (φ74 : Nat → Nat) (xs74 : Xs) (J8_74 : IM), I65.Le J8_74 → Fun Tryd.prog 63 #[.string ⟨(((r55.take i65) ++ (r55.drop (i65 + 1)))).toArray⟩] J8_74 (fun v J' => ∃ x : UX, v = .string ⟨((fldS ((r55.take i65) ++ (r55.drop (i65 + 1))))).toArray⟩ ∧ (True))) (by kernel_rfl) ?_
                  intro φ74 xs74 J8_74 leJ
                  exact Fun.mono (ih (l := ((r55.take i65) ++ (r55.drop (i65 + 1)))) (by have h6 := hi55_2; have hq0 := of_decide_eq_false hc5; have hq1 := of_decide_eq_true hc57; have hq2 := of_decide_eq_false hc60; have hq3 := of_decide_eq_true hc67; have hq4 := of_decide_eq_true hc70; have hq5 := of_decide_eq_true hc73; rw [List.length_append, List.length_take, List.length_drop]; omega) (by have h6 := hi55_2; have hq0 := of_decide_eq_false hc5; have hq1 := of_decide_eq_true hc57; have hq2 := of_decide_eq_false hc60; have hq3 := of_decide_eq_true hc67; have hq4 := of_decide_eq_true hc70; have hq5 := of_decide_eq_true hc73; rw [List.length_append, List.length_take, List.length_drop]; omega)) (fun v J' _ h => ⟨UX.d, h, trivial⟩)
                case k74 =>
                  rintro φ74 xs74 I74 w74 le74 s _
                  replace hle2 := leMono le74 hle2
                  replace hle54 := leMono le74 hle54
                  replace hle64 := leMono le74 hle64
                  refine wp_ret ?_
                  refine ret_rule (C := []) [] [] (.string ⟨((fldS ((r55.take i65) ++ (r55.drop (i65 + 1))))).toArray⟩) [] [] s trivial (by kernel_rfl) ?_
                  exact ⟨_, _, _, rfl, s, (congrArg (fun q : List UInt8 => Value.string ⟨q.toArray⟩) ((fl_two (by have hq0 := of_decide_eq_false hc5; have hq1 := of_decide_eq_true hc57; have hq2 := of_decide_eq_false hc60; have hq3 := of_decide_eq_true hc67; have hq4 := of_decide_eq_true hc70; have hq5 := of_decide_eq_true hc73; omega) (by have hq0 := of_decide_eq_false hc5; have hq1 := of_decide_eq_true hc57; have hq2 := of_decide_eq_false hc60; have hq3 := of_decide_eq_true hc67; have hq4 := of_decide_eq_true hc70; have hq5 := of_decide_eq_true hc73; omega) (by have hq0 := of_decide_eq_false hc5; have hq1 := of_decide_eq_true hc57; have hq2 := of_decide_eq_false hc60; have hq3 := of_decide_eq_true hc67; have hq4 := of_decide_eq_true hc70; have hq5 := of_decide_eq_true hc73; omega)).trans hi55_1))⟩
              ·
                rw [hc73]
                refine cond_false_rule (b := false) (by kernel_rfl) rfl ?_
                refine wp_skip ?_
                refine region_rule ?_
                refine ops_rule (C := []) [] [] 3 [] 0 (fun φ75 => [(3, .int .i64 (IntKind.wrap .i64 (((i65 : Nat) : Int) + ((1 : Nat) : Int)))), (36, .int .i64 (IntKind.wrap .i64 (((i65 : Nat) : Int) + ((1 : Nat) : Int)))), (35, .int .i64 ((i65 : Nat) : Int))]) (fun φ75 => []) (fun φ75 => []) s trivial (fun φ75 => by kernel_rfl) ?_
                intro φ75 w75 s
                rw [nat_addI (a := i65) (b := 1) (by have hzh1 := hi3_2; have hzh2 := hi55_2;  have hq0 := of_decide_eq_false hc5; have hq1 := of_decide_eq_true hc57; have hq2 := of_decide_eq_false hc60; have hq3 := of_decide_eq_true hc67; have hq4 := of_decide_eq_true hc70; have hq5 := of_decide_eq_false hc73; omega)]
                refine ops_done (by kernel_rfl) ?_
                exact ⟨⟨m65 - 1, i65 + 1, _, _, _, by have hq0 := of_decide_eq_false hc5; have hq1 := of_decide_eq_true hc57; have hq2 := of_decide_eq_false hc60; have hq3 := of_decide_eq_true hc67; have hq4 := of_decide_eq_true hc70; have hq5 := of_decide_eq_false hc73; have h6 := hi65_0; omega, rfl, s, List.Sublist.slnil, by kernel_rfl, hle64, by have hq0 := of_decide_eq_false hc5; have hq1 := of_decide_eq_true hc57; have hq2 := of_decide_eq_false hc60; have hq3 := of_decide_eq_true hc67; have hq4 := of_decide_eq_true hc70; have hq5 := of_decide_eq_false hc73; have h6 := hi65_0; show r55.length ≤ i65 + 1 + (m65 - 1); omega, (by have hq0 := of_decide_eq_false hc5; have hq1 := of_decide_eq_true hc57; have hq2 := of_decide_eq_false hc60; have hq3 := of_decide_eq_true hc67; have hq4 := of_decide_eq_true hc70; have hq5 := of_decide_eq_false hc73; intro j hj hl hh; rcases (by omega : j < i65 ∨ j = i65) with q | q; exact hi65_1 j q hl hh; subst q; omega), by have hq0 := of_decide_eq_false hc5; have hq1 := of_decide_eq_true hc57; have hq2 := of_decide_eq_false hc60; have hq3 := of_decide_eq_true hc67; have hq4 := of_decide_eq_true hc70; have hq5 := of_decide_eq_false hc73; show i65 + 1 ≤ r55.length; omega⟩⟩
            ·
              rw [hc70]
              refine ops_rule (C := []) [] [] 6 [] 0 (fun φ76 => [(47, .bool false), (46, undef), (45, undef), (44, undef), (43, undef), (42, undef)]) (fun φ76 => []) (fun φ76 => []) s trivial (fun φ76 => by kernel_rfl) ?_
              intro φ76 w76 s
              refine ops_done (by kernel_rfl) ?_
              refine cond_false_rule (b := false) (by kernel_rfl) rfl ?_
              refine wp_skip ?_
              refine region_rule ?_
              refine ops_rule (C := []) [] [] 3 [] 0 (fun φ77 => [(3, .int .i64 (IntKind.wrap .i64 (((i65 : Nat) : Int) + ((1 : Nat) : Int)))), (36, .int .i64 (IntKind.wrap .i64 (((i65 : Nat) : Int) + ((1 : Nat) : Int)))), (35, .int .i64 ((i65 : Nat) : Int))]) (fun φ77 => []) (fun φ77 => []) s trivial (fun φ77 => by kernel_rfl) ?_
              intro φ77 w77 s
              rw [nat_addI (a := i65) (b := 1) (by have hzh1 := hi3_2; have hzh2 := hi55_2;  have hq0 := of_decide_eq_false hc5; have hq1 := of_decide_eq_true hc57; have hq2 := of_decide_eq_false hc60; have hq3 := of_decide_eq_true hc67; have hq4 := of_decide_eq_false hc70; omega)]
              refine ops_done (by kernel_rfl) ?_
              exact ⟨⟨m65 - 1, i65 + 1, _, _, _, by have hq0 := of_decide_eq_false hc5; have hq1 := of_decide_eq_true hc57; have hq2 := of_decide_eq_false hc60; have hq3 := of_decide_eq_true hc67; have hq4 := of_decide_eq_false hc70; have h6 := hi65_0; omega, rfl, s, List.Sublist.slnil, by kernel_rfl, hle64, by have hq0 := of_decide_eq_false hc5; have hq1 := of_decide_eq_true hc57; have hq2 := of_decide_eq_false hc60; have hq3 := of_decide_eq_true hc67; have hq4 := of_decide_eq_false hc70; have h6 := hi65_0; show r55.length ≤ i65 + 1 + (m65 - 1); omega, (by have hq0 := of_decide_eq_false hc5; have hq1 := of_decide_eq_true hc57; have hq2 := of_decide_eq_false hc60; have hq3 := of_decide_eq_true hc67; have hq4 := of_decide_eq_false hc70; intro j hj hl hh; rcases (by omega : j < i65 ∨ j = i65) with q | q; exact hi65_1 j q hl hh; subst q; omega), by have hq0 := of_decide_eq_false hc5; have hq1 := of_decide_eq_true hc57; have hq2 := of_decide_eq_false hc60; have hq3 := of_decide_eq_true hc67; have hq4 := of_decide_eq_false hc70; show i65 + 1 ≤ r55.length; omega⟩⟩
          ·
            rw [hc67]
            refine cond_false_rule (b := false) (by kernel_rfl) rfl ?_
            refine wp_exit ?_
            refine wp_seq ?_
            refine region_rule ?_
            refine ops_rule (C := []) [] [] 2 [] 0 (fun φ78 => [(2, .string ⟨(r55).toArray⟩), (57, .string ⟨(r55).toArray⟩)]) (fun φ78 => []) (fun φ78 => []) s trivial (fun φ78 => by kernel_rfl) ?_
            intro φ78 w78 s
            refine ops_done (by kernel_rfl) ?_
            refine wp_ret ?_
            refine ret_rule (C := []) [] [] (.string ⟨(r55).toArray⟩) [] [] s trivial (by kernel_rfl) ?_
            exact ⟨_, _, _, rfl, s, (congrArg (fun q : List UInt8 => Value.string ⟨q.toArray⟩) ((fl_end hi55_3 hnt65 (by have hq0 := of_decide_eq_false hc5; have hq1 := of_decide_eq_true hc57; have hq2 := of_decide_eq_false hc60; have hq3 := of_decide_eq_false hc67; intro j hl; exact hi65_1 j (by omega) hl)).trans hi55_1))⟩
      ·
        rw [hc57]
        refine ops_rule (C := []) [] [] 7 [] 0 (fun φ79 => [(24, .bool false), (23, undef), (22, undef), (21, undef), (20, undef), (19, undef), (18, undef)]) (fun φ79 => []) (fun φ79 => []) s trivial (fun φ79 => by kernel_rfl) ?_
        intro φ79 w79 s
        refine ops_done (by kernel_rfl) ?_
        refine cond_false_rule (b := false) (by kernel_rfl) rfl ?_
        refine wp_exit ?_
        refine wp_seq ?_
        refine wp_seq ?_
        refine region_rule ?_
        refine ops_rule (C := []) [] [] 1 [] 0 (fun φ80 => [(3, .int .i64 0)]) (fun φ80 => []) (fun φ80 => []) s trivial (fun φ80 => by kernel_rfl) ?_
        intro φ80 w80 s
        refine ops_done (by kernel_rfl) ?_
        refine wp_block ?_
        have hnt82 : ¬ (0 < r55.length ∧ (r55.getD (r55.length - 1) 0).toNat = 32) := (by rintro ⟨q1, q2⟩; have hq0 := of_decide_eq_false hc5; have hq1 := of_decide_eq_false hc57; omega)
        have hle81 := IM.Le.refl I55
        refine loop_rule (fun (x : Nat) => [(0, .string ⟨(r55).toArray⟩), (2, .string ⟨#[]⟩), (3, .int .i64 ((x : Nat) : Int))]) (fun (x : Nat) => []) (fun m (x : Nat) J => IM.Le I55 J ∧ r55.length ≤ x + m ∧ (∀ j, j < x → j + 1 < r55.length → ¬ ((r55.getD j 0).toNat = 32 ∧ (r55.getD (j + 1) 0).toNat = 32)) ∧ x ≤ r55.length) (r55.length) 0 s (by kernel_rfl) List.Sublist.slnil ⟨IM.Le.refl _, by omega, (fun j hj => absurd hj (Nat.not_lt_zero j)), Nat.zero_le _⟩ ?_
        rintro m82 i82 I82 w82 ev82 s ⟨le82, hi82_0, hi82_1, hi82_2⟩
        try dsimp only at s hi82_0 hi82_1 hi82_2 ⊢
        replace hle2 := leMono le82 hle2
        replace hle54 := leMono le82 hle54
        replace hle81 := leMono le82 hle81
        refine wp_seq ?_
        refine wp_seq ?_
        refine region_rule ?_
        refine ops_rule (C := []) [] [] 5 [] 0 (fun φ83 => [(34, .bool (decide ((IntKind.wrap .i64 (((i82 : Nat) : Int) + ((1 : Nat) : Int))) < ((r55.length : Nat) : Int)))), (33, .int .i64 ((r55.length : Nat) : Int)), (32, .string ⟨(r55).toArray⟩), (31, .int .i64 (IntKind.wrap .i64 (((i82 : Nat) : Int) + ((1 : Nat) : Int)))), (30, .int .i64 ((i82 : Nat) : Int))]) (fun φ83 => []) (fun φ83 => []) s trivial (fun φ83 => by kernel_rfl) ?_
        intro φ83 w83 s
        rw [nat_addI (a := i82) (b := 1) (by have hzh1 := hi3_2; have hzh2 := hi55_2;  have hq0 := of_decide_eq_false hc5; have hq1 := of_decide_eq_false hc57; omega)]
        rw [nat_lss (a := (i82 + 1)) (b := r55.length)]
        refine ops_done (by kernel_rfl) ?_
        rcases Bool.eq_false_or_eq_true (decide ((i82 + 1) < r55.length)) with hc84 | hc84
        ·
          rw [hc84]
          refine cond_true_rule (b := true) (by kernel_rfl) rfl ?_
          refine wp_skip ?_
          refine wp_seq ?_
          refine wp_block ?_
          refine wp_seq ?_
          refine region_rule ?_
          refine ops_rule (C := []) [] [] 2 [] 0 (fun φ85 => [(38, .int .i64 ((i82 : Nat) : Int)), (37, .string ⟨(r55).toArray⟩)]) (fun φ85 => []) (fun φ85 => []) s trivial (fun φ85 => by kernel_rfl) ?_
          intro φ85 w85 s
          refine sem_rule (Instr.index 9 (.string ⟨(r55).toArray⟩) (.int .i64 ((i82 : Nat) : Int))) (some 39) (.int .u8 (((r55.getD i82 0).toNat : Nat) : Int)) (by kernel_rfl) (run_idxK (s := r55) (i := i82) (by have hzh1 := hi3_2; have hzh2 := hi55_2;  have hq0 := of_decide_eq_false hc5; have hq1 := of_decide_eq_false hc57; have hq2 := of_decide_eq_true hc84; omega)) ?_
          refine ops_rule (C := []) [] [] 2 [] 0 (fun φ86 => [(41, .bool ((((r55.getD i82 0).toNat : Nat) : Int) == ((32 : Nat) : Int))), (40, .bool ((((r55.getD i82 0).toNat : Nat) : Int) == ((32 : Nat) : Int)))]) (fun φ86 => []) (fun φ86 => []) s trivial (fun φ86 => by kernel_rfl) ?_
          intro φ86 w86 s
          rw [nat_eql (a := ((r55.getD i82 0).toNat)) (b := 32)]
          rcases Bool.eq_false_or_eq_true (decide (((r55.getD i82 0).toNat) = 32)) with hc87 | hc87
          ·
            rw [hc87]
            refine ops_rule (C := []) [] [] 3 [] 0 (fun φ88 => [(44, .int .i64 (IntKind.wrap .i64 (((i82 : Nat) : Int) + ((1 : Nat) : Int)))), (43, .int .i64 ((i82 : Nat) : Int)), (42, .string ⟨(r55).toArray⟩)]) (fun φ88 => []) (fun φ88 => []) s trivial (fun φ88 => by kernel_rfl) ?_
            intro φ88 w88 s
            rw [nat_addI (a := i82) (b := 1) (by have hzh1 := hi3_2; have hzh2 := hi55_2;  have hq0 := of_decide_eq_false hc5; have hq1 := of_decide_eq_false hc57; have hq2 := of_decide_eq_true hc84; have hq3 := of_decide_eq_true hc87; omega)]
            refine sem_rule (Instr.index 9 (.string ⟨(r55).toArray⟩) (.int .i64 ((i82 + 1 : Nat) : Int))) (some 45) (.int .u8 (((r55.getD (i82 + 1) 0).toNat : Nat) : Int)) (by kernel_rfl) (run_idxK (s := r55) (i := i82 + 1) (by have hzh1 := hi3_2; have hzh2 := hi55_2;  have hq0 := of_decide_eq_false hc5; have hq1 := of_decide_eq_false hc57; have hq2 := of_decide_eq_true hc84; have hq3 := of_decide_eq_true hc87; omega)) ?_
            refine ops_rule (C := []) [] [] 2 [] 0 (fun φ89 => [(47, .bool ((((r55.getD (i82 + 1) 0).toNat : Nat) : Int) == ((32 : Nat) : Int))), (46, .bool ((((r55.getD (i82 + 1) 0).toNat : Nat) : Int) == ((32 : Nat) : Int)))]) (fun φ89 => []) (fun φ89 => []) s trivial (fun φ89 => by kernel_rfl) ?_
            intro φ89 w89 s
            rw [nat_eql (a := ((r55.getD (i82 + 1) 0).toNat)) (b := 32)]
            refine ops_done (by kernel_rfl) ?_
            rcases Bool.eq_false_or_eq_true (decide (((r55.getD (i82 + 1) 0).toNat) = 32)) with hc90 | hc90
            ·
              rw [hc90]
              refine cond_true_rule (b := true) (by kernel_rfl) rfl ?_
              refine wp_seq ?_
              refine draw_rule (C := []) ⟨(fun φ91 xs91 => [.look 0 [] [], .look 0 [] [], .ran (Instr.sliceAt 9 (.string ⟨(r55).toArray⟩) none (some (.int .i64 ((i82 : Nat) : Int))) none), .look 0 [] [], .look 0 [] [], .sub 0 [] [] (.int .i64 (IntKind.wrap .i64 (((i82 : Nat) : Int) + ((1 : Nat) : Int)))), .ran (Instr.sliceAt 9 (.string ⟨(r55).toArray⟩) (some (.int .i64 ((i82 + 1 : Nat) : Int))) none none), .ran (binOp .add 9 (.string ⟨((r55.take i82)).toArray⟩) (.string ⟨((r55.drop (i82 + 1))).toArray⟩)), .call 63 #[.string ⟨(((r55.take i82) ++ (r55.drop (i82 + 1)))).toArray⟩], .look 0 [] []]), (fun φ91 xs91 => [.string ⟨(r55).toArray⟩, .int .i64 ((i82 : Nat) : Int), .string ⟨((r55.take i82)).toArray⟩, .string ⟨(r55).toArray⟩, .int .i64 ((i82 : Nat) : Int), .int .i64 ((i82 + 1 : Nat) : Int), .string ⟨((r55.drop (i82 + 1))).toArray⟩, .string ⟨(((r55.take i82) ++ (r55.drop (i82 + 1)))).toArray⟩, .string ⟨((fldS ((r55.take i82) ++ (r55.drop (i82 + 1))))).toArray⟩, .string ⟨((fldS ((r55.take i82) ++ (r55.drop (i82 + 1))))).toArray⟩]), (fun φ91 xs91 => [[]]), (fun φ91 xs91 => [[default, default, default, default, default, default, default, default, default, default]]), [], [1, 1, 6, 1, 1, 5, 6, 6, 3, 1]⟩ (fun j => ([MP.any, MP.any, MP.any, MP.any, MP.any, MP.any, MP.any, MP.any, MP.any, MP.any] : List MP).getD j MP.any) [8] [5] [2, 6, 7] (fun φ91 xs91 => []) (fun φ91 xs91 => [(48, .string ⟨(r55).toArray⟩), (49, .int .i64 ((i82 : Nat) : Int)), (50, .string ⟨((r55.take i82)).toArray⟩), (51, .string ⟨(r55).toArray⟩), (52, .int .i64 ((i82 : Nat) : Int)), (53, .int .i64 ((i82 + 1 : Nat) : Int)), (54, .string ⟨((r55.drop (i82 + 1))).toArray⟩), (55, .string ⟨(((r55.take i82) ++ (r55.drop (i82 + 1)))).toArray⟩), (56, .string ⟨((fldS ((r55.take i82) ++ (r55.drop (i82 + 1))))).toArray⟩), (2, .string ⟨((fldS ((r55.take i82) ++ (r55.drop (i82 + 1))))).toArray⟩)]) (fun φ91 xs91 => []) s trivial (by kernel_rfl) (by kernel_rfl) (fun _ _ => by kernel_rfl) (fun _ _ => by kernel_rfl) ⟨fun _ _ => by kernel_rfl, fun _ _ => by kernel_rfl, fun _ _ => by kernel_rfl, fun _ _ => by kernel_rfl⟩ (fun _ _ _ => by kernel_rfl) (fun _ _ => by kernel_rfl) (fun _ _ => by kernel_rfl) (fun _ _ => by kernel_rfl) (fun _ _ => by kernel_rfl) (fun _ _ => by kernel_rfl) ⟨kcast (A := ∀ (φ91 : Nat → Nat) (xs91 : Xs), (.int .i64 (IntKind.wrap .i64 (((i82 : Nat) : Int) + ((1 : Nat) : Int))) : Value) = .int .i64 ((i82 + 1 : Nat) : Int)) (by kernel_rfl) (fun φ91 xs91 => congrArg (Value.int .i64) ((nat_addI (a := i82) (b := 1) (by have hzh1 := hi3_2; have hzh2 := hi55_2;  have hq0 := of_decide_eq_false hc5; have hq1 := of_decide_eq_false hc57; have hq2 := of_decide_eq_true hc84; have hq3 := of_decide_eq_true hc87; have hq4 := of_decide_eq_true hc90; omega)))), trivial⟩ ⟨kcast (A := ∀ (φ91 : Nat → Nat) (xs91 : Xs) (J : IM) (w : World), I82.Le J → J.Sub w → ((Instr.sliceAt 9 (.string ⟨(r55).toArray⟩) none (some (.int .i64 ((i82 : Nat) : Int))) none) : Sem Value).run Tryd.prog w = .ok (.string ⟨((r55.take i82)).toArray⟩) w) (by kernel_rfl) (fun φ91 xs91 J w hJ hS => run_takeS (s := r55) (hi := i82) (by have hzh1 := hi3_2; have hzh2 := hi55_2;  have hq0 := of_decide_eq_false hc5; have hq1 := of_decide_eq_false hc57; have hq2 := of_decide_eq_true hc84; have hq3 := of_decide_eq_true hc87; have hq4 := of_decide_eq_true hc90; omega)), ⟨kcast (A := ∀ (φ91 : Nat → Nat) (xs91 : Xs) (J : IM) (w : World), I82.Le J → J.Sub w → ((Instr.sliceAt 9 (.string ⟨(r55).toArray⟩) (some (.int .i64 ((i82 + 1 : Nat) : Int))) none none) : Sem Value).run Tryd.prog w = .ok (.string ⟨((r55.drop (i82 + 1))).toArray⟩) w) (by kernel_rfl) (fun φ91 xs91 J w hJ hS => run_dropStr (s := r55) (lo := i82 + 1) under9 (by have hzh1 := hi3_2; have hzh2 := hi55_2;  have hq0 := of_decide_eq_false hc5; have hq1 := of_decide_eq_false hc57; have hq2 := of_decide_eq_true hc84; have hq3 := of_decide_eq_true hc87; have hq4 := of_decide_eq_true hc90; omega)), ⟨kcast (A := ∀ (φ91 : Nat → Nat) (xs91 : Xs) (J : IM) (w : World), I82.Le J → J.Sub w → ((binOp .add 9 (.string ⟨((r55.take i82)).toArray⟩) (.string ⟨((r55.drop (i82 + 1))).toArray⟩)) : Sem Value).run Tryd.prog w = .ok (.string ⟨(((r55.take i82) ++ (r55.drop (i82 + 1)))).toArray⟩) w) (by kernel_rfl) (fun φ91 xs91 J w hJ hS => run_cat (x := (r55.take i82)) (y := (r55.drop (i82 + 1))) (by have h6 := hi55_2; have hq0 := of_decide_eq_false hc5; have hq1 := of_decide_eq_false hc57; have hq2 := of_decide_eq_true hc84; have hq3 := of_decide_eq_true hc87; have hq4 := of_decide_eq_true hc90; rw [List.length_take, List.length_drop]; omega)), trivial⟩⟩⟩ (by kernel_rfl) ⟨?c91_8, trivial⟩ ?k91
              case c91_8 =>
                refine kcast (A := ∀ (φ91 : Nat → Nat) (xs91 : Xs) (J8_91 : IM), I82.Le J8_91 → Fun Tryd.prog 63 #[.string ⟨(((r55.take i82) ++ (r55.drop (i82 + 1)))).toArray⟩] J8_91 (fun v J' => ∃ x : UX, v = .string ⟨((fldS ((r55.take i82) ++ (r55.drop (i82 + 1))))).toArray⟩ ∧ (True))) (by kernel_rfl) ?_
                intro φ91 xs91 J8_91 leJ
                exact Fun.mono (ih (l := ((r55.take i82) ++ (r55.drop (i82 + 1)))) (by have h6 := hi55_2; have hq0 := of_decide_eq_false hc5; have hq1 := of_decide_eq_false hc57; have hq2 := of_decide_eq_true hc84; have hq3 := of_decide_eq_true hc87; have hq4 := of_decide_eq_true hc90; rw [List.length_append, List.length_take, List.length_drop]; omega) (by have h6 := hi55_2; have hq0 := of_decide_eq_false hc5; have hq1 := of_decide_eq_false hc57; have hq2 := of_decide_eq_true hc84; have hq3 := of_decide_eq_true hc87; have hq4 := of_decide_eq_true hc90; rw [List.length_append, List.length_take, List.length_drop]; omega)) (fun v J' _ h => ⟨UX.d, h, trivial⟩)
              case k91 =>
                rintro φ91 xs91 I91 w91 le91 s _
                replace hle2 := leMono le91 hle2
                replace hle54 := leMono le91 hle54
                replace hle81 := leMono le91 hle81
                refine wp_ret ?_
                refine ret_rule (C := []) [] [] (.string ⟨((fldS ((r55.take i82) ++ (r55.drop (i82 + 1))))).toArray⟩) [] [] s trivial (by kernel_rfl) ?_
                exact ⟨_, _, _, rfl, s, (congrArg (fun q : List UInt8 => Value.string ⟨q.toArray⟩) ((fl_two (by have hq0 := of_decide_eq_false hc5; have hq1 := of_decide_eq_false hc57; have hq2 := of_decide_eq_true hc84; have hq3 := of_decide_eq_true hc87; have hq4 := of_decide_eq_true hc90; omega) (by have hq0 := of_decide_eq_false hc5; have hq1 := of_decide_eq_false hc57; have hq2 := of_decide_eq_true hc84; have hq3 := of_decide_eq_true hc87; have hq4 := of_decide_eq_true hc90; omega) (by have hq0 := of_decide_eq_false hc5; have hq1 := of_decide_eq_false hc57; have hq2 := of_decide_eq_true hc84; have hq3 := of_decide_eq_true hc87; have hq4 := of_decide_eq_true hc90; omega)).trans hi55_1))⟩
            ·
              rw [hc90]
              refine cond_false_rule (b := false) (by kernel_rfl) rfl ?_
              refine wp_skip ?_
              refine region_rule ?_
              refine ops_rule (C := []) [] [] 3 [] 0 (fun φ92 => [(3, .int .i64 (IntKind.wrap .i64 (((i82 : Nat) : Int) + ((1 : Nat) : Int)))), (36, .int .i64 (IntKind.wrap .i64 (((i82 : Nat) : Int) + ((1 : Nat) : Int)))), (35, .int .i64 ((i82 : Nat) : Int))]) (fun φ92 => []) (fun φ92 => []) s trivial (fun φ92 => by kernel_rfl) ?_
              intro φ92 w92 s
              rw [nat_addI (a := i82) (b := 1) (by have hzh1 := hi3_2; have hzh2 := hi55_2;  have hq0 := of_decide_eq_false hc5; have hq1 := of_decide_eq_false hc57; have hq2 := of_decide_eq_true hc84; have hq3 := of_decide_eq_true hc87; have hq4 := of_decide_eq_false hc90; omega)]
              refine ops_done (by kernel_rfl) ?_
              exact ⟨⟨m82 - 1, i82 + 1, _, _, _, by have hq0 := of_decide_eq_false hc5; have hq1 := of_decide_eq_false hc57; have hq2 := of_decide_eq_true hc84; have hq3 := of_decide_eq_true hc87; have hq4 := of_decide_eq_false hc90; have h6 := hi82_0; omega, rfl, s, List.Sublist.slnil, by kernel_rfl, hle81, by have hq0 := of_decide_eq_false hc5; have hq1 := of_decide_eq_false hc57; have hq2 := of_decide_eq_true hc84; have hq3 := of_decide_eq_true hc87; have hq4 := of_decide_eq_false hc90; have h6 := hi82_0; show r55.length ≤ i82 + 1 + (m82 - 1); omega, (by have hq0 := of_decide_eq_false hc5; have hq1 := of_decide_eq_false hc57; have hq2 := of_decide_eq_true hc84; have hq3 := of_decide_eq_true hc87; have hq4 := of_decide_eq_false hc90; intro j hj hl hh; rcases (by omega : j < i82 ∨ j = i82) with q | q; exact hi82_1 j q hl hh; subst q; omega), by have hq0 := of_decide_eq_false hc5; have hq1 := of_decide_eq_false hc57; have hq2 := of_decide_eq_true hc84; have hq3 := of_decide_eq_true hc87; have hq4 := of_decide_eq_false hc90; show i82 + 1 ≤ r55.length; omega⟩⟩
          ·
            rw [hc87]
            refine ops_rule (C := []) [] [] 6 [] 0 (fun φ93 => [(47, .bool false), (46, undef), (45, undef), (44, undef), (43, undef), (42, undef)]) (fun φ93 => []) (fun φ93 => []) s trivial (fun φ93 => by kernel_rfl) ?_
            intro φ93 w93 s
            refine ops_done (by kernel_rfl) ?_
            refine cond_false_rule (b := false) (by kernel_rfl) rfl ?_
            refine wp_skip ?_
            refine region_rule ?_
            refine ops_rule (C := []) [] [] 3 [] 0 (fun φ94 => [(3, .int .i64 (IntKind.wrap .i64 (((i82 : Nat) : Int) + ((1 : Nat) : Int)))), (36, .int .i64 (IntKind.wrap .i64 (((i82 : Nat) : Int) + ((1 : Nat) : Int)))), (35, .int .i64 ((i82 : Nat) : Int))]) (fun φ94 => []) (fun φ94 => []) s trivial (fun φ94 => by kernel_rfl) ?_
            intro φ94 w94 s
            rw [nat_addI (a := i82) (b := 1) (by have hzh1 := hi3_2; have hzh2 := hi55_2;  have hq0 := of_decide_eq_false hc5; have hq1 := of_decide_eq_false hc57; have hq2 := of_decide_eq_true hc84; have hq3 := of_decide_eq_false hc87; omega)]
            refine ops_done (by kernel_rfl) ?_
            exact ⟨⟨m82 - 1, i82 + 1, _, _, _, by have hq0 := of_decide_eq_false hc5; have hq1 := of_decide_eq_false hc57; have hq2 := of_decide_eq_true hc84; have hq3 := of_decide_eq_false hc87; have h6 := hi82_0; omega, rfl, s, List.Sublist.slnil, by kernel_rfl, hle81, by have hq0 := of_decide_eq_false hc5; have hq1 := of_decide_eq_false hc57; have hq2 := of_decide_eq_true hc84; have hq3 := of_decide_eq_false hc87; have h6 := hi82_0; show r55.length ≤ i82 + 1 + (m82 - 1); omega, (by have hq0 := of_decide_eq_false hc5; have hq1 := of_decide_eq_false hc57; have hq2 := of_decide_eq_true hc84; have hq3 := of_decide_eq_false hc87; intro j hj hl hh; rcases (by omega : j < i82 ∨ j = i82) with q | q; exact hi82_1 j q hl hh; subst q; omega), by have hq0 := of_decide_eq_false hc5; have hq1 := of_decide_eq_false hc57; have hq2 := of_decide_eq_true hc84; have hq3 := of_decide_eq_false hc87; show i82 + 1 ≤ r55.length; omega⟩⟩
        ·
          rw [hc84]
          refine cond_false_rule (b := false) (by kernel_rfl) rfl ?_
          refine wp_exit ?_
          refine wp_seq ?_
          refine region_rule ?_
          refine ops_rule (C := []) [] [] 2 [] 0 (fun φ95 => [(2, .string ⟨(r55).toArray⟩), (57, .string ⟨(r55).toArray⟩)]) (fun φ95 => []) (fun φ95 => []) s trivial (fun φ95 => by kernel_rfl) ?_
          intro φ95 w95 s
          refine ops_done (by kernel_rfl) ?_
          refine wp_ret ?_
          refine ret_rule (C := []) [] [] (.string ⟨(r55).toArray⟩) [] [] s trivial (by kernel_rfl) ?_
          exact ⟨_, _, _, rfl, s, (congrArg (fun q : List UInt8 => Value.string ⟨q.toArray⟩) ((fl_end hi55_3 hnt82 (by have hq0 := of_decide_eq_false hc5; have hq1 := of_decide_eq_false hc57; have hq2 := of_decide_eq_false hc84; intro j hl; exact hi82_1 j (by omega) hl)).trans hi55_1))⟩

theorem refFold_c {I : IM} {l : List UInt8} (hn : l.length ≤ 1000000) : Fun Tryd.prog 63 #[.string ⟨(l).toArray⟩] I (fun v J => v = .string ⟨(fldS l).toArray⟩) := refFold_n (l.length + 1) (by omega) hn

end Go.Proofs.YtcpmjogeafhpnaaDoor.Tx

/- What a phone's number is, byte by byte. -/
set_option linter.all false
set_option maxRecDepth 100000
namespace Go.Proofs.YtcpmjogeafhpnaaDoor.Tx
open Go.RowKit Go.Sep Go.Lib
theorem dR_byte {l : List UInt8} {p : Nat} (h : (l.getD p 0).toNat < 128) : dR l p = (l.getD p 0).toNat ∧ dW l p = 1 := by
  have e := dN l p
  unfold decodeN at e
  rw [if_pos h] at e
  exact Prod.mk.inj e
set_option maxHeartbeats 2000000 in
theorem dR_small {l : List UInt8} {p : Nat} (h : dR l p < 128) : dR l p = (l.getD p 0).toNat ∧ dW l p = 1 := by
  by_cases hb : (l.getD p 0).toNat < 128
  · exact dR_byte hb
  · exfalso
    have e := dN l p
    unfold decodeN at e
    rw [if_neg hb] at e
    have e1 := (Prod.mk.inj e).1
    revert e
    (repeat' split) <;> (intro e; have e2 := (Prod.mk.inj e).1; omega)
/-- how many digits it has; none: it isn't one -/
def phG : Bool → List UInt8 → Option Nat
  | _, [] => some 0
  | f, b :: r => if 48 ≤ b.toNat ∧ b.toNat ≤ 57 then (phG false r).map (· + 1) else if b.toNat = 32 ∨ b.toNat = 45 ∨ (b.toNat = 43 ∧ f = true) then phG false r else none
def phone (l : List UInt8) : Bool := match phG true l with | none => false | some c => decide (0 < c) && decide (l.length ≤ 20)
def phI (l : List UInt8) (i d : Nat) : Prop := phG true l = (phG (decide (i = 0)) (l.drop i)).map (d + ·)
theorem ph_start (l : List UInt8) : phI l 0 0 := by
  unfold phI
  rw [List.drop_zero, show decide ((0 : Nat) = 0) = true from rfl]
  cases phG true l with
  | none => rfl
  | some c => simp
theorem drop_at {l : List UInt8} {i : Nat} (h : i < l.length) : l.drop i = l.getD i 0 :: l.drop (i + 1) := by
  rw [List.drop_eq_getElem_cons h]; simp [h]
theorem ph_dig {l : List UInt8} {i d : Nat} (h : i < l.length) (h1 : 48 ≤ (l.getD i 0).toNat ∧ (l.getD i 0).toNat ≤ 57) (e : phI l i d) : phI l (i + 1) (d + 1) := by
  unfold phI at e ⊢
  rw [e, drop_at h]
  simp only [phG]
  rw [if_pos h1, decide_eq_false (show ¬ i + 1 = 0 by omega)]
  cases phG false (l.drop (i + 1)) with
  | none => rfl
  | some c => simp only [Option.map_some]; congr 1; omega
theorem ph_skip {l : List UInt8} {i d : Nat} (h : i < l.length) (h1 : ¬ (48 ≤ (l.getD i 0).toNat ∧ (l.getD i 0).toNat ≤ 57)) (h2 : (l.getD i 0).toNat = 32 ∨ (l.getD i 0).toNat = 45 ∨ ((l.getD i 0).toNat = 43 ∧ i = 0)) (e : phI l i d) : phI l (i + 1) d := by
  unfold phI at e ⊢
  rw [e, drop_at h]
  simp only [phG]
  rw [if_neg h1, if_pos (by simpa using h2), decide_eq_false (show ¬ i + 1 = 0 by omega)]
theorem ph_bad {l : List UInt8} {i d : Nat} (h : i < l.length) (h1 : ¬ (48 ≤ (l.getD i 0).toNat ∧ (l.getD i 0).toNat ≤ 57)) (h2 : ¬ ((l.getD i 0).toNat = 32 ∨ (l.getD i 0).toNat = 45 ∨ ((l.getD i 0).toNat = 43 ∧ i = 0))) (e : phI l i d) : phone l = false := by
  unfold phI at e
  rw [drop_at h] at e
  simp only [phG] at e
  rw [if_neg h1, if_neg (by simpa using h2)] at e
  unfold phone
  rw [e]; rfl
theorem ph_end {l : List UInt8} {i d : Nat} (h : ¬ i < l.length) (e : phI l i d) : phG true l = some d := by
  unfold phI at e
  rw [e, List.drop_of_length_le (by omega)]; rfl
theorem ph_fin {l : List UInt8} {d : Nat} (e : phG true l = some d) : phone l = (decide (0 < d) && decide (l.length ≤ 20)) := by
  unfold phone; rw [e]
theorem ph_len : ∀ (l : List UInt8) {f : Bool} {c : Nat}, phG f l = some c → nR l = l.length
  | [], _, _, _ => rfl
  | b :: r, f, c, h => by
    have hb : b.toNat < 128 ∧ ∃ c', phG false r = some c' := by
      simp only [phG] at h
      split at h
      · rename_i h1
        cases q : phG false r with
        | none => rw [q] at h; cases h
        | some c' => exact ⟨by omega, c', rfl⟩
      · split at h
        · rename_i h1 h2
          exact ⟨by omega, c, h⟩
        · cases h
    obtain ⟨h1, c', h2⟩ := hb
    have ih := ph_len r h2
    have hd := dR_byte (l := b :: r) (p := 0) (by simpa using h1)
    have hw : (decodeL (b :: r)).2 = 1 := hd.2
    unfold nR at ih ⊢
    rw [steps_cons (by simp), List.length_cons, hw, List.length_cons]
    simp only [List.drop_succ_cons, List.drop_zero]
    omega
theorem ph_long {l : List UInt8} (h : 20 < nR l) : phone l = false := by
  have := nR_le l
  unfold phone
  split
  · rfl
  · rw [decide_eq_false (show ¬ l.length ≤ 20 by omega), Bool.and_false]
theorem ph_fin2 {l : List UInt8} {d : Nat} (h : ¬ 20 < nR l) (e : phG true l = some d) : phone l = decide (0 < d) := by
  have := ph_len l e
  rw [ph_fin e, decide_eq_true (show l.length ≤ 20 by omega), Bool.and_true]
end Go.Proofs.YtcpmjogeafhpnaaDoor.Tx
