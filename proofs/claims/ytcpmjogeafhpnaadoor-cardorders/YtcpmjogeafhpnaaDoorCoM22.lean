/- A mail's address: the document's. -/
import Derived.Test.YtcpmjogeafhpnaaDoorCoM21
import Derived.Test.YtcpmjogeafhpnaaDoorCoM20
set_option linter.all false
set_option maxRecDepth 100000
namespace Go.Proofs.YtcpmjogeafhpnaaDoor.Tx
open Go.RowKit Go.Sep
attribute [local irreducible] Go.wpList Go.Code.wp

theorem m_early {l : List UInt8} {a c i : Nat} (h : c = 1 → ixB 64 l = some a ∧ a < i) (ha : l.all okA = true) (hc : l.count 64 = c) (ho : c ≠ 1 ∨ a = 0 ∨ (l.drop (a + 1)).length = 0 ∨ ((l.drop (a + 1)).getD 0 0).toNat = 46 ∨ ((l.drop (a + 1)).getD ((l.drop (a + 1)).length - 1) 0).toNat = 46) : mail l = false := by
  by_cases h1 : c = 1
  · by_cases h0 : a = 0
    · subst h0; exact mail_zero (h h1).1
    · rw [mail_core (h h1).1 h0 ha (by omega)]
      by_cases hw : (l.drop (a + 1)).length = 0
      · rw [decide_eq_true (List.length_eq_zero_iff.1 hw)]; rfl
      · unfold point
        rw [first_46 (by omega), last_46 (by omega)]
        rcases ho with q | q | q | q | q
        · exact absurd h1 q
        · exact absurd q h0
        · exact absurd q hw
        · rw [decide_eq_true q]; simp
        · rw [decide_eq_true q]; simp
  · exact mail_cnt (by omega)
theorem m_late {l : List UInt8} {a c i : Nat} (h : c = 1 → ixB 64 l = some a ∧ a < i) (ha : l.all okA = true) (hc : l.count 64 = c) (h1 : c = 1) (h0 : a ≠ 0) (hw : (l.drop (a + 1)).length ≠ 0) (hf : ¬ ((l.drop (a + 1)).getD 0 0).toNat = 46) (hl : ¬ ((l.drop (a + 1)).getD ((l.drop (a + 1)).length - 1) 0).toNat = 46) : mail l = hasB 46 (l.drop (a + 1)) := by
  rw [mail_core (h h1).1 h0 ha (by omega), decide_eq_false (fun q => hw (by rw [q]; rfl))]
  unfold point
  rw [first_46 (by omega), last_46 (by omega), decide_eq_false hf, decide_eq_false hl]; simp

set_option maxHeartbeats 4000000 in
theorem refMail_c {I : IM} {l : List UInt8} (hn : l.length ≤ 1000000) : Fun Tryd.prog 65 #[.string ⟨(l).toArray⟩] I (fun v J => v = .bool (mail l)) := by
  refine enter_rule 67 [(0, .string ⟨(l).toArray⟩)] Tryd.func65 rfl (by kernel_rfl) ?_
  intro w s
  refine wp_seq ?_
  refine region_rule ?_
  refine ops_rule (C := []) [] [] 1 [] 0 (fun φ1 => [(2, .bool false)]) (fun φ1 => []) (fun φ1 => []) s trivial (fun φ1 => by kernel_rfl) ?_
  intro φ1 w1 s
  refine ops_done (by kernel_rfl) ?_
  refine wp_seq ?_
  refine region_rule ?_
  refine ops_rule (C := []) [] [] 2 [] 0 (fun φ2 => [(4, .int .i64 0), (3, .int .i64 0)]) (fun φ2 => []) (fun φ2 => []) s trivial (fun φ2 => by kernel_rfl) ?_
  intro φ2 w2 s
  refine ops_done (by kernel_rfl) ?_
  refine wp_seq ?_
  refine wp_seq ?_
  refine region_rule ?_
  refine ops_rule (C := []) [] [] 1 [] 0 (fun φ3 => [(5, .int .i64 0)]) (fun φ3 => []) (fun φ3 => []) s trivial (fun φ3 => by kernel_rfl) ?_
  intro φ3 w3 s
  refine ops_done (by kernel_rfl) ?_
  refine wp_block ?_
  have hle4 := IM.Le.refl I
  refine loop_rule (fun (x : Nat × Nat × Nat) => [(0, .string ⟨(l).toArray⟩), (2, .bool false), (5, .int .i64 ((x.1 : Nat) : Int)), (3, .int .i64 ((x.2.1 : Nat) : Int)), (4, .int .i64 ((x.2.2 : Nat) : Int))]) (fun (x : Nat × Nat × Nat) => []) (fun m (x : Nat × Nat × Nat) J => IM.Le I J ∧ l.length ≤ x.1 + m ∧ l.all okA = (l.drop x.1).all okA ∧ (l.take x.1).count 64 = x.2.2 ∧ (x.2.2 = 1 → ixB 64 l = some x.2.1 ∧ x.2.1 < x.1) ∧ x.2.2 ≤ x.1 ∧ x.2.1 ≤ x.1 ∧ x.1 ≤ l.length) (l.length) (0, 0, 0) s (by kernel_rfl) List.Sublist.slnil ⟨IM.Le.refl _, by omega, rfl, rfl, fun z9 => absurd z9 (by decide), Nat.le_refl _, Nat.le_refl _, Nat.zero_le _⟩ ?_
  rintro m5 ⟨i5, a5, c5⟩ I5 w5 ev5 s ⟨le5, hi5_0, hi5_1, hi5_2, hi5_3, hi5_4, hi5_5, hi5_6⟩
  try dsimp only at s hi5_0 hi5_1 hi5_2 hi5_3 hi5_4 hi5_5 hi5_6 ⊢
  replace hle4 := leMono le5 hle4
  refine wp_seq ?_
  refine wp_seq ?_
  refine region_rule ?_
  refine ops_rule (C := []) [] [] 4 [] 0 (fun φ6 => [(11, .bool (decide (((i5 : Nat) : Int) < ((l.length : Nat) : Int)))), (10, .int .i64 ((l.length : Nat) : Int)), (9, .string ⟨(l).toArray⟩), (8, .int .i64 ((i5 : Nat) : Int))]) (fun φ6 => []) (fun φ6 => []) s trivial (fun φ6 => by kernel_rfl) ?_
  intro φ6 w6 s
  rw [nat_lss (a := i5) (b := l.length)]
  refine ops_done (by kernel_rfl) ?_
  rcases Bool.eq_false_or_eq_true (decide (i5 < l.length)) with hc7 | hc7
  ·
    rw [hc7]
    refine cond_true_rule (b := true) (by kernel_rfl) rfl ?_
    refine wp_skip ?_
    refine wp_seq ?_
    refine wp_block ?_
    refine wp_seq ?_
    refine wp_seq ?_
    refine region_rule ?_
    refine ops_rule (C := []) [] [] 2 [] 0 (fun φ8 => [(15, .int .i64 ((i5 : Nat) : Int)), (14, .string ⟨(l).toArray⟩)]) (fun φ8 => []) (fun φ8 => []) s trivial (fun φ8 => by kernel_rfl) ?_
    intro φ8 w8 s
    refine sem_rule (Instr.index 9 (.string ⟨(l).toArray⟩) (.int .i64 ((i5 : Nat) : Int))) (some 16) (.int .u8 (((l.getD i5 0).toNat : Nat) : Int)) (by kernel_rfl) (run_idxK (s := l) (i := i5) (by have hz0 := hi5_4; have hz1 := hi5_5; have hz2 := hi5_6; have hL9 := List.length_drop (i := a5 + 1) (l := l);  have hq0 := of_decide_eq_true hc7; (try simp only [List.length_drop, List.length_take, List.length_append, List.length_cons, List.length_nil]); omega)) ?_
    refine ops_rule (C := []) [] [] 2 [] 0 (fun φ9 => [(18, .bool (decide ((((l.getD i5 0).toNat : Nat) : Int) < ((33 : Nat) : Int)))), (17, .bool (decide ((((l.getD i5 0).toNat : Nat) : Int) < ((33 : Nat) : Int))))]) (fun φ9 => []) (fun φ9 => []) s trivial (fun φ9 => by kernel_rfl) ?_
    intro φ9 w9 s
    rw [nat_lss (a := ((l.getD i5 0).toNat)) (b := 33)]
    rcases Bool.eq_false_or_eq_true (decide (((l.getD i5 0).toNat) < 33)) with hc10 | hc10
    ·
      rw [hc10]
      refine ops_rule (C := []) [] [] 5 [] 0 (fun φ11 => [(23, .bool true), (22, undef), (21, undef), (20, undef), (19, undef)]) (fun φ11 => []) (fun φ11 => []) s trivial (fun φ11 => by kernel_rfl) ?_
      intro φ11 w11 s
      refine ops_done (by kernel_rfl) ?_
      refine cond_true_rule (b := true) (by kernel_rfl) rfl ?_
      refine wp_seq ?_
      refine region_rule ?_
      refine ops_rule (C := []) [] [] 1 [] 0 (fun φ12 => [(2, .bool false)]) (fun φ12 => []) (fun φ12 => []) s trivial (fun φ12 => by kernel_rfl) ?_
      intro φ12 w12 s
      refine ops_done (by kernel_rfl) ?_
      refine wp_ret ?_
      refine ret_rule (C := []) [] [] (.bool false) [] [] s trivial (by kernel_rfl) ?_
      exact ⟨_, _, _, rfl, s, (congrArg Value.bool (mail_badA (pa_no (of_decide_eq_true hc7) (okA_no (by have hq0 := of_decide_eq_true hc7; have hq1 := of_decide_eq_true hc10; omega)) hi5_1)).symm)⟩
    ·
      rw [hc10]
      refine ops_rule (C := []) [] [] 2 [] 0 (fun φ13 => [(20, .int .i64 ((i5 : Nat) : Int)), (19, .string ⟨(l).toArray⟩)]) (fun φ13 => []) (fun φ13 => []) s trivial (fun φ13 => by kernel_rfl) ?_
      intro φ13 w13 s
      refine sem_rule (Instr.index 9 (.string ⟨(l).toArray⟩) (.int .i64 ((i5 : Nat) : Int))) (some 21) (.int .u8 (((l.getD i5 0).toNat : Nat) : Int)) (by kernel_rfl) (run_idxK (s := l) (i := i5) (by have hz0 := hi5_4; have hz1 := hi5_5; have hz2 := hi5_6; have hL9 := List.length_drop (i := a5 + 1) (l := l);  have hq0 := of_decide_eq_true hc7; have hq1 := of_decide_eq_false hc10; (try simp only [List.length_drop, List.length_take, List.length_append, List.length_cons, List.length_nil]); omega)) ?_
      refine ops_rule (C := []) [] [] 2 [] 0 (fun φ14 => [(23, .bool (decide ((((l.getD i5 0).toNat : Nat) : Int) > ((126 : Nat) : Int)))), (22, .bool (decide ((((l.getD i5 0).toNat : Nat) : Int) > ((126 : Nat) : Int))))]) (fun φ14 => []) (fun φ14 => []) s trivial (fun φ14 => by kernel_rfl) ?_
      intro φ14 w14 s
      rw [nat_gtr (a := ((l.getD i5 0).toNat)) (b := 126)]
      refine ops_done (by kernel_rfl) ?_
      rcases Bool.eq_false_or_eq_true (decide (126 < ((l.getD i5 0).toNat))) with hc15 | hc15
      ·
        rw [hc15]
        refine cond_true_rule (b := true) (by kernel_rfl) rfl ?_
        refine wp_seq ?_
        refine region_rule ?_
        refine ops_rule (C := []) [] [] 1 [] 0 (fun φ16 => [(2, .bool false)]) (fun φ16 => []) (fun φ16 => []) s trivial (fun φ16 => by kernel_rfl) ?_
        intro φ16 w16 s
        refine ops_done (by kernel_rfl) ?_
        refine wp_ret ?_
        refine ret_rule (C := []) [] [] (.bool false) [] [] s trivial (by kernel_rfl) ?_
        exact ⟨_, _, _, rfl, s, (congrArg Value.bool (mail_badA (pa_no (of_decide_eq_true hc7) (okA_no (by have hq0 := of_decide_eq_true hc7; have hq1 := of_decide_eq_false hc10; have hq2 := of_decide_eq_true hc15; omega)) hi5_1)).symm)⟩
      ·
        rw [hc15]
        refine cond_false_rule (b := false) (by kernel_rfl) rfl ?_
        refine wp_skip ?_
        refine wp_seq ?_
        refine region_rule ?_
        refine ops_rule (C := []) [] [] 2 [] 0 (fun φ17 => [(25, .int .i64 ((i5 : Nat) : Int)), (24, .string ⟨(l).toArray⟩)]) (fun φ17 => []) (fun φ17 => []) s trivial (fun φ17 => by kernel_rfl) ?_
        intro φ17 w17 s
        refine sem_rule (Instr.index 9 (.string ⟨(l).toArray⟩) (.int .i64 ((i5 : Nat) : Int))) (some 26) (.int .u8 (((l.getD i5 0).toNat : Nat) : Int)) (by kernel_rfl) (run_idxK (s := l) (i := i5) (by have hz0 := hi5_4; have hz1 := hi5_5; have hz2 := hi5_6; have hL9 := List.length_drop (i := a5 + 1) (l := l);  have hq0 := of_decide_eq_true hc7; have hq1 := of_decide_eq_false hc10; have hq2 := of_decide_eq_false hc15; (try simp only [List.length_drop, List.length_take, List.length_append, List.length_cons, List.length_nil]); omega)) ?_
        refine ops_rule (C := []) [] [] 1 [] 0 (fun φ18 => [(27, .bool ((((l.getD i5 0).toNat : Nat) : Int) == ((64 : Nat) : Int)))]) (fun φ18 => []) (fun φ18 => []) s trivial (fun φ18 => by kernel_rfl) ?_
        intro φ18 w18 s
        rw [nat_eql (a := ((l.getD i5 0).toNat)) (b := 64)]
        refine ops_done (by kernel_rfl) ?_
        rcases Bool.eq_false_or_eq_true (decide (((l.getD i5 0).toNat) = 64)) with hc19 | hc19
        ·
          rw [hc19]
          refine cond_true_rule (b := true) (by kernel_rfl) rfl ?_
          refine wp_seq ?_
          refine region_rule ?_
          refine ops_rule (C := []) [] [] 2 [] 0 (fun φ20 => [(3, .int .i64 ((i5 : Nat) : Int)), (28, .int .i64 ((i5 : Nat) : Int))]) (fun φ20 => []) (fun φ20 => []) s trivial (fun φ20 => by kernel_rfl) ?_
          intro φ20 w20 s
          refine ops_done (by kernel_rfl) ?_
          refine region_rule ?_
          refine ops_rule (C := []) [] [] 3 [] 0 (fun φ21 => [(4, .int .i64 (IntKind.wrap .i64 (((c5 : Nat) : Int) + ((1 : Nat) : Int)))), (30, .int .i64 (IntKind.wrap .i64 (((c5 : Nat) : Int) + ((1 : Nat) : Int)))), (29, .int .i64 ((c5 : Nat) : Int))]) (fun φ21 => []) (fun φ21 => []) s trivial (fun φ21 => by kernel_rfl) ?_
          intro φ21 w21 s
          rw [nat_addI (a := c5) (b := 1) (by have hz0 := hi5_4; have hz1 := hi5_5; have hz2 := hi5_6; have hL9 := List.length_drop (i := a5 + 1) (l := l);  have hq0 := of_decide_eq_true hc7; have hq1 := of_decide_eq_false hc10; have hq2 := of_decide_eq_false hc15; have hq3 := of_decide_eq_true hc19; omega)]
          refine ops_done (by kernel_rfl) ?_
          refine region_rule ?_
          refine ops_rule (C := []) [] [] 3 [] 0 (fun φ22 => [(5, .int .i64 (IntKind.wrap .i64 (((i5 : Nat) : Int) + ((1 : Nat) : Int)))), (13, .int .i64 (IntKind.wrap .i64 (((i5 : Nat) : Int) + ((1 : Nat) : Int)))), (12, .int .i64 ((i5 : Nat) : Int))]) (fun φ22 => []) (fun φ22 => []) s trivial (fun φ22 => by kernel_rfl) ?_
          intro φ22 w22 s
          rw [nat_addI (a := i5) (b := 1) (by have hz0 := hi5_4; have hz1 := hi5_5; have hz2 := hi5_6; have hL9 := List.length_drop (i := a5 + 1) (l := l);  have hq0 := of_decide_eq_true hc7; have hq1 := of_decide_eq_false hc10; have hq2 := of_decide_eq_false hc15; have hq3 := of_decide_eq_true hc19; omega)]
          refine ops_done (by kernel_rfl) ?_
          have hq9 := of_decide_eq_true hc7
          have hb9 := byte_lt (l.getD i5 0)
          exact ⟨⟨m5 - 1, (i5 + 1, i5, c5 + 1), _, _, _, by omega, rfl, s, List.Sublist.slnil, by kernel_rfl, hle4, by show l.length ≤ i5 + 1 + (m5 - 1); omega, pa_go hq9 (okA_yes (by have hq0 := of_decide_eq_true hc7; have hq1 := of_decide_eq_false hc10; have hq2 := of_decide_eq_false hc15; have hq3 := of_decide_eq_true hc19; omega)) hi5_1, cnt_yes hq9 (by have hq0 := of_decide_eq_true hc7; have hq1 := of_decide_eq_false hc10; have hq2 := of_decide_eq_false hc15; have hq3 := of_decide_eq_true hc19; omega) hi5_2, fun z9 => ⟨ix_first hq9 (by have hq0 := of_decide_eq_true hc7; have hq1 := of_decide_eq_false hc10; have hq2 := of_decide_eq_false hc15; have hq3 := of_decide_eq_true hc19; omega) hi5_2 z9, by show i5 < i5 + 1; omega⟩, by have h8 := hi5_4; show c5 + 1 ≤ i5 + 1; omega, by have h8 := hi5_5; show i5 ≤ i5 + 1; omega, by show i5 + 1 ≤ l.length; omega⟩⟩
        ·
          rw [hc19]
          refine cond_false_rule (b := false) (by kernel_rfl) rfl ?_
          refine wp_skip ?_
          refine region_rule ?_
          refine ops_rule (C := []) [] [] 3 [] 0 (fun φ23 => [(5, .int .i64 (IntKind.wrap .i64 (((i5 : Nat) : Int) + ((1 : Nat) : Int)))), (13, .int .i64 (IntKind.wrap .i64 (((i5 : Nat) : Int) + ((1 : Nat) : Int)))), (12, .int .i64 ((i5 : Nat) : Int))]) (fun φ23 => []) (fun φ23 => []) s trivial (fun φ23 => by kernel_rfl) ?_
          intro φ23 w23 s
          rw [nat_addI (a := i5) (b := 1) (by have hz0 := hi5_4; have hz1 := hi5_5; have hz2 := hi5_6; have hL9 := List.length_drop (i := a5 + 1) (l := l);  have hq0 := of_decide_eq_true hc7; have hq1 := of_decide_eq_false hc10; have hq2 := of_decide_eq_false hc15; have hq3 := of_decide_eq_false hc19; omega)]
          refine ops_done (by kernel_rfl) ?_
          have hq9 := of_decide_eq_true hc7
          have hb9 := byte_lt (l.getD i5 0)
          exact ⟨⟨m5 - 1, (i5 + 1, a5, c5), _, _, _, by omega, rfl, s, List.Sublist.slnil, by kernel_rfl, hle4, by show l.length ≤ i5 + 1 + (m5 - 1); omega, pa_go hq9 (okA_yes (by have hq0 := of_decide_eq_true hc7; have hq1 := of_decide_eq_false hc10; have hq2 := of_decide_eq_false hc15; have hq3 := of_decide_eq_false hc19; omega)) hi5_1, cnt_no hq9 (by have hq0 := of_decide_eq_true hc7; have hq1 := of_decide_eq_false hc10; have hq2 := of_decide_eq_false hc15; have hq3 := of_decide_eq_false hc19; omega) hi5_2, fun z9 => ⟨(hi5_3 z9).1, by have h8 := (hi5_3 z9).2; show a5 < i5 + 1; omega⟩, by have h8 := hi5_4; show c5 ≤ i5 + 1; omega, by have h8 := hi5_5; show a5 ≤ i5 + 1; omega, by show i5 + 1 ≤ l.length; omega⟩⟩
  ·
    rw [hc7]
    refine cond_false_rule (b := false) (by kernel_rfl) rfl ?_
    refine wp_exit ?_
    refine wp_seq ?_
    refine wp_seq ?_
    refine region_rule ?_
    refine ops_rule (C := []) [] [] 3 [] 0 (fun φ24 => [(33, .bool (((c5 : Nat) : Int) != ((1 : Nat) : Int))), (32, .bool (((c5 : Nat) : Int) != ((1 : Nat) : Int))), (31, .int .i64 ((c5 : Nat) : Int))]) (fun φ24 => []) (fun φ24 => []) s trivial (fun φ24 => by kernel_rfl) ?_
    intro φ24 w24 s
    rw [nat_neq (a := c5) (b := 1)]
    rcases Bool.eq_false_or_eq_true (decide (c5 ≠ 1)) with hc25 | hc25
    ·
      rw [hc25]
      refine ops_rule (C := []) [] [] 3 [] 0 (fun φ26 => [(36, .bool true), (35, undef), (34, undef)]) (fun φ26 => []) (fun φ26 => []) s trivial (fun φ26 => by kernel_rfl) ?_
      intro φ26 w26 s
      refine ops_done (by kernel_rfl) ?_
      refine cond_true_rule (b := true) (by kernel_rfl) rfl ?_
      refine wp_seq ?_
      refine region_rule ?_
      refine ops_rule (C := []) [] [] 1 [] 0 (fun φ27 => [(2, .bool false)]) (fun φ27 => []) (fun φ27 => []) s trivial (fun φ27 => by kernel_rfl) ?_
      intro φ27 w27 s
      refine ops_done (by kernel_rfl) ?_
      refine wp_ret ?_
      refine ret_rule (C := []) [] [] (.bool false) [] [] s trivial (by kernel_rfl) ?_
      exact ⟨_, _, _, rfl, s, (congrArg Value.bool (by have hz1 := hi5_5; have hz2 := hi5_6; have hL9 := List.length_drop (i := a5 + 1) (l := l); have hn9 := of_decide_eq_false hc7; have ha9 := pa_all hn9 hi5_1; have hc9 : l.count 64 = c5 := (by have h9 := hi5_2; rwa [List.take_of_length_le (by omega)] at h9); have hq0 := of_decide_eq_false hc7; have hq1 := of_decide_eq_true hc25; exact (m_early hi5_3 ha9 hc9 (by omega)).symm))⟩
    ·
      rw [hc25]
      refine ops_rule (C := []) [] [] 3 [] 0 (fun φ28 => [(36, .bool (((a5 : Nat) : Int) == ((0 : Nat) : Int))), (35, .bool (((a5 : Nat) : Int) == ((0 : Nat) : Int))), (34, .int .i64 ((a5 : Nat) : Int))]) (fun φ28 => []) (fun φ28 => []) s trivial (fun φ28 => by kernel_rfl) ?_
      intro φ28 w28 s
      rw [nat_eql (a := a5) (b := 0)]
      refine ops_done (by kernel_rfl) ?_
      rcases Bool.eq_false_or_eq_true (decide (a5 = 0)) with hc29 | hc29
      ·
        rw [hc29]
        refine cond_true_rule (b := true) (by kernel_rfl) rfl ?_
        refine wp_seq ?_
        refine region_rule ?_
        refine ops_rule (C := []) [] [] 1 [] 0 (fun φ30 => [(2, .bool false)]) (fun φ30 => []) (fun φ30 => []) s trivial (fun φ30 => by kernel_rfl) ?_
        intro φ30 w30 s
        refine ops_done (by kernel_rfl) ?_
        refine wp_ret ?_
        refine ret_rule (C := []) [] [] (.bool false) [] [] s trivial (by kernel_rfl) ?_
        exact ⟨_, _, _, rfl, s, (congrArg Value.bool (by have hz1 := hi5_5; have hz2 := hi5_6; have hL9 := List.length_drop (i := a5 + 1) (l := l); have hn9 := of_decide_eq_false hc7; have ha9 := pa_all hn9 hi5_1; have hc9 : l.count 64 = c5 := (by have h9 := hi5_2; rwa [List.take_of_length_le (by omega)] at h9); have hq0 := of_decide_eq_false hc7; have hq1 := of_decide_eq_false hc25; have hq2 := of_decide_eq_true hc29; exact (m_early hi5_3 ha9 hc9 (by omega)).symm))⟩
      ·
        rw [hc29]
        refine cond_false_rule (b := false) (by kernel_rfl) rfl ?_
        refine wp_skip ?_
        refine wp_seq ?_
        refine region_rule ?_
        refine ops_rule (C := []) [] [] 3 [] 0 (fun φ31 => [(39, .int .i64 (IntKind.wrap .i64 (((a5 : Nat) : Int) + ((1 : Nat) : Int)))), (38, .int .i64 ((a5 : Nat) : Int)), (37, .string ⟨(l).toArray⟩)]) (fun φ31 => []) (fun φ31 => []) s trivial (fun φ31 => by kernel_rfl) ?_
        intro φ31 w31 s
        rw [nat_addI (a := a5) (b := 1) (by have hz0 := hi5_4; have hz1 := hi5_5; have hz2 := hi5_6; have hL9 := List.length_drop (i := a5 + 1) (l := l);  have hq0 := of_decide_eq_false hc7; have hq1 := of_decide_eq_false hc25; have hq2 := of_decide_eq_false hc29; omega)]
        refine sem_rule (Instr.sliceAt 9 (.string ⟨(l).toArray⟩) (some (.int .i64 ((a5 + 1 : Nat) : Int))) none none) (some 40) (.string ⟨((l.drop (a5 + 1))).toArray⟩) (by kernel_rfl) (run_dropStr (s := l) (lo := a5 + 1) under9 (by have hz0 := hi5_4; have hz1 := hi5_5; have hz2 := hi5_6; have hL9 := List.length_drop (i := a5 + 1) (l := l);  have hq0 := of_decide_eq_false hc7; have hq1 := of_decide_eq_false hc25; have hq2 := of_decide_eq_false hc29; (try simp only [List.length_drop, List.length_take, List.length_append, List.length_cons, List.length_nil]); omega)) ?_
        refine ops_rule (C := []) [] [] 1 [] 0 (fun φ32 => [(6, .string ⟨((l.drop (a5 + 1))).toArray⟩)]) (fun φ32 => []) (fun φ32 => []) s trivial (fun φ32 => by kernel_rfl) ?_
        intro φ32 w32 s
        refine ops_done (by kernel_rfl) ?_
        refine wp_seq ?_
        refine wp_seq ?_
        refine region_rule ?_
        refine ops_rule (C := []) [] [] 4 [] 0 (fun φ33 => [(44, .bool ((((l.drop (a5 + 1)).length : Nat) : Int) == ((0 : Nat) : Int))), (43, .bool ((((l.drop (a5 + 1)).length : Nat) : Int) == ((0 : Nat) : Int))), (42, .int .i64 (((l.drop (a5 + 1)).length : Nat) : Int)), (41, .string ⟨((l.drop (a5 + 1))).toArray⟩)]) (fun φ33 => []) (fun φ33 => []) s trivial (fun φ33 => by kernel_rfl) ?_
        intro φ33 w33 s
        rw [nat_eql (a := ((l.drop (a5 + 1)).length)) (b := 0)]
        rcases Bool.eq_false_or_eq_true (decide (((l.drop (a5 + 1)).length) = 0)) with hc34 | hc34
        ·
          rw [hc34]
          refine ops_rule (C := []) [] [] 12 [] 0 (fun φ35 => [(56, .bool true), (55, undef), (54, undef), (53, undef), (52, undef), (51, undef), (50, undef), (49, .bool true), (48, .bool true), (47, undef), (46, undef), (45, undef)]) (fun φ35 => []) (fun φ35 => []) s trivial (fun φ35 => by kernel_rfl) ?_
          intro φ35 w35 s
          refine ops_done (by kernel_rfl) ?_
          refine cond_true_rule (b := true) (by kernel_rfl) rfl ?_
          refine wp_seq ?_
          refine region_rule ?_
          refine ops_rule (C := []) [] [] 1 [] 0 (fun φ36 => [(2, .bool false)]) (fun φ36 => []) (fun φ36 => []) s trivial (fun φ36 => by kernel_rfl) ?_
          intro φ36 w36 s
          refine ops_done (by kernel_rfl) ?_
          refine wp_ret ?_
          refine ret_rule (C := []) [] [] (.bool false) [] [] s trivial (by kernel_rfl) ?_
          exact ⟨_, _, _, rfl, s, (congrArg Value.bool (by have hz1 := hi5_5; have hz2 := hi5_6; have hL9 := List.length_drop (i := a5 + 1) (l := l); have hn9 := of_decide_eq_false hc7; have ha9 := pa_all hn9 hi5_1; have hc9 : l.count 64 = c5 := (by have h9 := hi5_2; rwa [List.take_of_length_le (by omega)] at h9); have hq0 := of_decide_eq_false hc7; have hq1 := of_decide_eq_false hc25; have hq2 := of_decide_eq_false hc29; have hq3 := of_decide_eq_true hc34; exact (m_early hi5_3 ha9 hc9 (by omega)).symm))⟩
        ·
          rw [hc34]
          refine ops_rule (C := []) [] [] 1 [] 0 (fun φ37 => [(45, .string ⟨((l.drop (a5 + 1))).toArray⟩)]) (fun φ37 => []) (fun φ37 => []) s trivial (fun φ37 => by kernel_rfl) ?_
          intro φ37 w37 s
          refine sem_rule (Instr.index 9 (.string ⟨((l.drop (a5 + 1))).toArray⟩) (.int .i64 ((0 : Nat) : Int))) (some 46) (.int .u8 ((((l.drop (a5 + 1)).getD 0 0).toNat : Nat) : Int)) (by kernel_rfl) (run_idxK (s := (l.drop (a5 + 1))) (i := 0) (by have hz0 := hi5_4; have hz1 := hi5_5; have hz2 := hi5_6; have hL9 := List.length_drop (i := a5 + 1) (l := l);  have hq0 := of_decide_eq_false hc7; have hq1 := of_decide_eq_false hc25; have hq2 := of_decide_eq_false hc29; have hq3 := of_decide_eq_false hc34; (try simp only [List.length_drop, List.length_take, List.length_append, List.length_cons, List.length_nil]); omega)) ?_
          refine ops_rule (C := []) [] [] 3 [] 0 (fun φ38 => [(49, .bool (((((l.drop (a5 + 1)).getD 0 0).toNat : Nat) : Int) == ((46 : Nat) : Int))), (48, .bool (((((l.drop (a5 + 1)).getD 0 0).toNat : Nat) : Int) == ((46 : Nat) : Int))), (47, .bool (((((l.drop (a5 + 1)).getD 0 0).toNat : Nat) : Int) == ((46 : Nat) : Int)))]) (fun φ38 => []) (fun φ38 => []) s trivial (fun φ38 => by kernel_rfl) ?_
          intro φ38 w38 s
          rw [nat_eql (a := (((l.drop (a5 + 1)).getD 0 0).toNat)) (b := 46)]
          rcases Bool.eq_false_or_eq_true (decide ((((l.drop (a5 + 1)).getD 0 0).toNat) = 46)) with hc39 | hc39
          ·
            rw [hc39]
            refine ops_rule (C := []) [] [] 7 [] 0 (fun φ40 => [(56, .bool true), (55, undef), (54, undef), (53, undef), (52, undef), (51, undef), (50, undef)]) (fun φ40 => []) (fun φ40 => []) s trivial (fun φ40 => by kernel_rfl) ?_
            intro φ40 w40 s
            refine ops_done (by kernel_rfl) ?_
            refine cond_true_rule (b := true) (by kernel_rfl) rfl ?_
            refine wp_seq ?_
            refine region_rule ?_
            refine ops_rule (C := []) [] [] 1 [] 0 (fun φ41 => [(2, .bool false)]) (fun φ41 => []) (fun φ41 => []) s trivial (fun φ41 => by kernel_rfl) ?_
            intro φ41 w41 s
            refine ops_done (by kernel_rfl) ?_
            refine wp_ret ?_
            refine ret_rule (C := []) [] [] (.bool false) [] [] s trivial (by kernel_rfl) ?_
            exact ⟨_, _, _, rfl, s, (congrArg Value.bool (by have hz1 := hi5_5; have hz2 := hi5_6; have hL9 := List.length_drop (i := a5 + 1) (l := l); have hn9 := of_decide_eq_false hc7; have ha9 := pa_all hn9 hi5_1; have hc9 : l.count 64 = c5 := (by have h9 := hi5_2; rwa [List.take_of_length_le (by omega)] at h9); have hq0 := of_decide_eq_false hc7; have hq1 := of_decide_eq_false hc25; have hq2 := of_decide_eq_false hc29; have hq3 := of_decide_eq_false hc34; have hq4 := of_decide_eq_true hc39; exact (m_early hi5_3 ha9 hc9 (by omega)).symm))⟩
          ·
            rw [hc39]
            refine ops_rule (C := []) [] [] 4 [] 0 (fun φ42 => [(53, .int .i64 (IntKind.wrap .i64 ((((l.drop (a5 + 1)).length : Nat) : Int) - ((1 : Nat) : Int)))), (52, .int .i64 (((l.drop (a5 + 1)).length : Nat) : Int)), (51, .string ⟨((l.drop (a5 + 1))).toArray⟩), (50, .string ⟨((l.drop (a5 + 1))).toArray⟩)]) (fun φ42 => []) (fun φ42 => []) s trivial (fun φ42 => by kernel_rfl) ?_
            intro φ42 w42 s
            rw [nat_subI (a := ((l.drop (a5 + 1)).length)) (b := 1) (by have hz0 := hi5_4; have hz1 := hi5_5; have hz2 := hi5_6; have hL9 := List.length_drop (i := a5 + 1) (l := l);  have hq0 := of_decide_eq_false hc7; have hq1 := of_decide_eq_false hc25; have hq2 := of_decide_eq_false hc29; have hq3 := of_decide_eq_false hc34; have hq4 := of_decide_eq_false hc39; (try simp only [List.length_drop, List.length_take, List.length_append, List.length_cons, List.length_nil]); omega) (by have hz0 := hi5_4; have hz1 := hi5_5; have hz2 := hi5_6; have hL9 := List.length_drop (i := a5 + 1) (l := l);  have hq0 := of_decide_eq_false hc7; have hq1 := of_decide_eq_false hc25; have hq2 := of_decide_eq_false hc29; have hq3 := of_decide_eq_false hc34; have hq4 := of_decide_eq_false hc39; (try simp only [List.length_drop, List.length_take, List.length_append, List.length_cons, List.length_nil]); omega)]
            refine sem_rule (Instr.index 9 (.string ⟨((l.drop (a5 + 1))).toArray⟩) (.int .i64 ((((l.drop (a5 + 1)).length) - 1 : Nat) : Int))) (some 54) (.int .u8 ((((l.drop (a5 + 1)).getD (((l.drop (a5 + 1)).length) - 1) 0).toNat : Nat) : Int)) (by kernel_rfl) (run_idxK (s := (l.drop (a5 + 1))) (i := ((l.drop (a5 + 1)).length) - 1) (by have hz0 := hi5_4; have hz1 := hi5_5; have hz2 := hi5_6; have hL9 := List.length_drop (i := a5 + 1) (l := l);  have hq0 := of_decide_eq_false hc7; have hq1 := of_decide_eq_false hc25; have hq2 := of_decide_eq_false hc29; have hq3 := of_decide_eq_false hc34; have hq4 := of_decide_eq_false hc39; (try simp only [List.length_drop, List.length_take, List.length_append, List.length_cons, List.length_nil]); omega)) ?_
            refine ops_rule (C := []) [] [] 2 [] 0 (fun φ43 => [(56, .bool (((((l.drop (a5 + 1)).getD (((l.drop (a5 + 1)).length) - 1) 0).toNat : Nat) : Int) == ((46 : Nat) : Int))), (55, .bool (((((l.drop (a5 + 1)).getD (((l.drop (a5 + 1)).length) - 1) 0).toNat : Nat) : Int) == ((46 : Nat) : Int)))]) (fun φ43 => []) (fun φ43 => []) s trivial (fun φ43 => by kernel_rfl) ?_
            intro φ43 w43 s
            rw [nat_eql (a := (((l.drop (a5 + 1)).getD (((l.drop (a5 + 1)).length) - 1) 0).toNat)) (b := 46)]
            refine ops_done (by kernel_rfl) ?_
            rcases Bool.eq_false_or_eq_true (decide ((((l.drop (a5 + 1)).getD (((l.drop (a5 + 1)).length) - 1) 0).toNat) = 46)) with hc44 | hc44
            ·
              rw [hc44]
              refine cond_true_rule (b := true) (by kernel_rfl) rfl ?_
              refine wp_seq ?_
              refine region_rule ?_
              refine ops_rule (C := []) [] [] 1 [] 0 (fun φ45 => [(2, .bool false)]) (fun φ45 => []) (fun φ45 => []) s trivial (fun φ45 => by kernel_rfl) ?_
              intro φ45 w45 s
              refine ops_done (by kernel_rfl) ?_
              refine wp_ret ?_
              refine ret_rule (C := []) [] [] (.bool false) [] [] s trivial (by kernel_rfl) ?_
              exact ⟨_, _, _, rfl, s, (congrArg Value.bool (by have hz1 := hi5_5; have hz2 := hi5_6; have hL9 := List.length_drop (i := a5 + 1) (l := l); have hn9 := of_decide_eq_false hc7; have ha9 := pa_all hn9 hi5_1; have hc9 : l.count 64 = c5 := (by have h9 := hi5_2; rwa [List.take_of_length_le (by omega)] at h9); have hq0 := of_decide_eq_false hc7; have hq1 := of_decide_eq_false hc25; have hq2 := of_decide_eq_false hc29; have hq3 := of_decide_eq_false hc34; have hq4 := of_decide_eq_false hc39; have hq5 := of_decide_eq_true hc44; exact (m_early hi5_3 ha9 hc9 (by omega)).symm))⟩
            ·
              rw [hc44]
              refine cond_false_rule (b := false) (by kernel_rfl) rfl ?_
              refine wp_skip ?_
              refine wp_seq ?_
              refine wp_seq ?_
              refine region_rule ?_
              refine ops_rule (C := []) [] [] 1 [] 0 (fun φ46 => [(7, .int .i64 0)]) (fun φ46 => []) (fun φ46 => []) s trivial (fun φ46 => by kernel_rfl) ?_
              intro φ46 w46 s
              refine ops_done (by kernel_rfl) ?_
              refine wp_block ?_
              have hle47 := IM.Le.refl I5
              refine loop_rule (fun (x : Nat) => [(0, .string ⟨(l).toArray⟩), (2, .bool false), (6, .string ⟨((l.drop (a5 + 1))).toArray⟩), (7, .int .i64 ((x : Nat) : Int))]) (fun (x : Nat) => []) (fun m (x : Nat) J => IM.Le I5 J ∧ (l.drop (a5 + 1)).length ≤ x + m ∧ (46 : UInt8) ∉ (l.drop (a5 + 1)).take x) ((l.drop (a5 + 1)).length) 0 s (by kernel_rfl) List.Sublist.slnil ⟨IM.Le.refl _, by omega, nil_take _⟩ ?_
              rintro m48 j48 I48 w48 ev48 s ⟨le48, hi48_0, hi48_1⟩
              try dsimp only at s hi48_0 hi48_1 ⊢
              replace hle4 := leMono le48 hle4
              replace hle47 := leMono le48 hle47
              refine wp_seq ?_
              refine wp_seq ?_
              refine region_rule ?_
              refine ops_rule (C := []) [] [] 4 [] 0 (fun φ49 => [(60, .bool (decide (((j48 : Nat) : Int) < (((l.drop (a5 + 1)).length : Nat) : Int)))), (59, .int .i64 (((l.drop (a5 + 1)).length : Nat) : Int)), (58, .string ⟨((l.drop (a5 + 1))).toArray⟩), (57, .int .i64 ((j48 : Nat) : Int))]) (fun φ49 => []) (fun φ49 => []) s trivial (fun φ49 => by kernel_rfl) ?_
              intro φ49 w49 s
              rw [nat_lss (a := j48) (b := ((l.drop (a5 + 1)).length))]
              refine ops_done (by kernel_rfl) ?_
              rcases Bool.eq_false_or_eq_true (decide (j48 < ((l.drop (a5 + 1)).length))) with hc50 | hc50
              ·
                rw [hc50]
                refine cond_true_rule (b := true) (by kernel_rfl) rfl ?_
                refine wp_skip ?_
                refine wp_seq ?_
                refine wp_block ?_
                refine wp_seq ?_
                refine region_rule ?_
                refine ops_rule (C := []) [] [] 2 [] 0 (fun φ51 => [(64, .int .i64 ((j48 : Nat) : Int)), (63, .string ⟨((l.drop (a5 + 1))).toArray⟩)]) (fun φ51 => []) (fun φ51 => []) s trivial (fun φ51 => by kernel_rfl) ?_
                intro φ51 w51 s
                refine sem_rule (Instr.index 9 (.string ⟨((l.drop (a5 + 1))).toArray⟩) (.int .i64 ((j48 : Nat) : Int))) (some 65) (.int .u8 ((((l.drop (a5 + 1)).getD j48 0).toNat : Nat) : Int)) (by kernel_rfl) (run_idxK (s := (l.drop (a5 + 1))) (i := j48) (by have hz0 := hi5_4; have hz1 := hi5_5; have hz2 := hi5_6; have hL9 := List.length_drop (i := a5 + 1) (l := l);  have hq0 := of_decide_eq_false hc7; have hq1 := of_decide_eq_false hc25; have hq2 := of_decide_eq_false hc29; have hq3 := of_decide_eq_false hc34; have hq4 := of_decide_eq_false hc39; have hq5 := of_decide_eq_false hc44; have hq6 := of_decide_eq_true hc50; (try simp only [List.length_drop, List.length_take, List.length_append, List.length_cons, List.length_nil]); omega)) ?_
                refine ops_rule (C := []) [] [] 1 [] 0 (fun φ52 => [(66, .bool (((((l.drop (a5 + 1)).getD j48 0).toNat : Nat) : Int) == ((46 : Nat) : Int)))]) (fun φ52 => []) (fun φ52 => []) s trivial (fun φ52 => by kernel_rfl) ?_
                intro φ52 w52 s
                rw [nat_eql (a := (((l.drop (a5 + 1)).getD j48 0).toNat)) (b := 46)]
                refine ops_done (by kernel_rfl) ?_
                rcases Bool.eq_false_or_eq_true (decide ((((l.drop (a5 + 1)).getD j48 0).toNat) = 46)) with hc53 | hc53
                ·
                  rw [hc53]
                  refine cond_true_rule (b := true) (by kernel_rfl) rfl ?_
                  refine wp_seq ?_
                  refine region_rule ?_
                  refine ops_rule (C := []) [] [] 1 [] 0 (fun φ54 => [(2, .bool true)]) (fun φ54 => []) (fun φ54 => []) s trivial (fun φ54 => by kernel_rfl) ?_
                  intro φ54 w54 s
                  refine ops_done (by kernel_rfl) ?_
                  refine wp_ret ?_
                  refine ret_rule (C := []) [] [] (.bool true) [] [] s trivial (by kernel_rfl) ?_
                  exact ⟨_, _, _, rfl, s, (congrArg Value.bool (by have hz1 := hi5_5; have hz2 := hi5_6; have hL9 := List.length_drop (i := a5 + 1) (l := l); have hn9 := of_decide_eq_false hc7; have ha9 := pa_all hn9 hi5_1; have hc9 : l.count 64 = c5 := (by have h9 := hi5_2; rwa [List.take_of_length_le (by omega)] at h9); have hq0 := of_decide_eq_false hc7; have hq1 := of_decide_eq_false hc25; have hq2 := of_decide_eq_false hc29; have hq3 := of_decide_eq_false hc34; have hq4 := of_decide_eq_false hc39; have hq5 := of_decide_eq_false hc44; have hq6 := of_decide_eq_true hc50; have hq7 := of_decide_eq_true hc53; exact ((m_late hi5_3 ha9 hc9 (by omega) (by omega) (by omega) (by omega) (by omega)).trans (has_at (by omega) (by omega))).symm))⟩
                ·
                  rw [hc53]
                  refine cond_false_rule (b := false) (by kernel_rfl) rfl ?_
                  refine wp_skip ?_
                  refine region_rule ?_
                  refine ops_rule (C := []) [] [] 3 [] 0 (fun φ55 => [(7, .int .i64 (IntKind.wrap .i64 (((j48 : Nat) : Int) + ((1 : Nat) : Int)))), (62, .int .i64 (IntKind.wrap .i64 (((j48 : Nat) : Int) + ((1 : Nat) : Int)))), (61, .int .i64 ((j48 : Nat) : Int))]) (fun φ55 => []) (fun φ55 => []) s trivial (fun φ55 => by kernel_rfl) ?_
                  intro φ55 w55 s
                  rw [nat_addI (a := j48) (b := 1) (by have hz0 := hi5_4; have hz1 := hi5_5; have hz2 := hi5_6; have hL9 := List.length_drop (i := a5 + 1) (l := l);  have hq0 := of_decide_eq_false hc7; have hq1 := of_decide_eq_false hc25; have hq2 := of_decide_eq_false hc29; have hq3 := of_decide_eq_false hc34; have hq4 := of_decide_eq_false hc39; have hq5 := of_decide_eq_false hc44; have hq6 := of_decide_eq_true hc50; have hq7 := of_decide_eq_false hc53; omega)]
                  refine ops_done (by kernel_rfl) ?_
                  have hq9 : j48 < (l.drop (a5 + 1)).length := of_decide_eq_true hc50
                  exact ⟨⟨m48 - 1, j48 + 1, _, _, _, by have hq0 := of_decide_eq_false hc7; have hq1 := of_decide_eq_false hc25; have hq2 := of_decide_eq_false hc29; have hq3 := of_decide_eq_false hc34; have hq4 := of_decide_eq_false hc39; have hq5 := of_decide_eq_false hc44; have hq6 := of_decide_eq_true hc50; have hq7 := of_decide_eq_false hc53; have hL9 := List.length_drop (i := a5 + 1) (l := l); omega, rfl, s, List.Sublist.slnil, by kernel_rfl, hle47, by have hq0 := of_decide_eq_false hc7; have hq1 := of_decide_eq_false hc25; have hq2 := of_decide_eq_false hc29; have hq3 := of_decide_eq_false hc34; have hq4 := of_decide_eq_false hc39; have hq5 := of_decide_eq_false hc44; have hq6 := of_decide_eq_true hc50; have hq7 := of_decide_eq_false hc53; show (l.drop (a5 + 1)).length ≤ j48 + 1 + (m48 - 1); omega, not_next hq9 (by have hq0 := of_decide_eq_false hc7; have hq1 := of_decide_eq_false hc25; have hq2 := of_decide_eq_false hc29; have hq3 := of_decide_eq_false hc34; have hq4 := of_decide_eq_false hc39; have hq5 := of_decide_eq_false hc44; have hq6 := of_decide_eq_true hc50; have hq7 := of_decide_eq_false hc53; omega) hi48_1⟩⟩
              ·
                rw [hc50]
                refine cond_false_rule (b := false) (by kernel_rfl) rfl ?_
                refine wp_exit ?_
                refine wp_seq ?_
                refine region_rule ?_
                refine ops_rule (C := []) [] [] 1 [] 0 (fun φ56 => [(2, .bool false)]) (fun φ56 => []) (fun φ56 => []) s trivial (fun φ56 => by kernel_rfl) ?_
                intro φ56 w56 s
                refine ops_done (by kernel_rfl) ?_
                refine wp_ret ?_
                refine ret_rule (C := []) [] [] (.bool false) [] [] s trivial (by kernel_rfl) ?_
                exact ⟨_, _, _, rfl, s, (congrArg Value.bool (by have hz1 := hi5_5; have hz2 := hi5_6; have hL9 := List.length_drop (i := a5 + 1) (l := l); have hn9 := of_decide_eq_false hc7; have ha9 := pa_all hn9 hi5_1; have hc9 : l.count 64 = c5 := (by have h9 := hi5_2; rwa [List.take_of_length_le (by omega)] at h9); have hq0 := of_decide_eq_false hc7; have hq1 := of_decide_eq_false hc25; have hq2 := of_decide_eq_false hc29; have hq3 := of_decide_eq_false hc34; have hq4 := of_decide_eq_false hc39; have hq5 := of_decide_eq_false hc44; have hq6 := of_decide_eq_false hc50; exact ((m_late hi5_3 ha9 hc9 (by omega) (by omega) (by omega) (by omega) (by omega)).trans (has_no (not_all (by omega) hi48_1))).symm))⟩

end Go.Proofs.YtcpmjogeafhpnaaDoor.Tx
/- A field, right or not: the program's. -/
set_option linter.all false
set_option maxRecDepth 100000
namespace Go.Proofs.YtcpmjogeafhpnaaDoor.Tx
open Go.RowKit Go.Sep
attribute [local irreducible] Go.wpList Go.Code.wp

def nmL : List (List UInt8) := [[], [110, 97, 109, 101], [112, 104, 111, 110, 101], [109, 97, 105, 108], [97, 100, 100, 114, 101, 115, 115], [110, 111, 116, 101], [103, 114, 111, 117, 112]]
/-- a kind's name -/
def nmS (z : Int) : List UInt8 := if 0 ≤ z ∧ z < 7 then nmL.getD z.toNat [] else []
theorem nm_nil {z : Int} : nmS z = [] ↔ ¬ (1 ≤ z ∧ z ≤ 6) := by
  unfold nmS
  by_cases h : 0 ≤ z ∧ z < 7
  · rw [if_pos h]
    have : z = 0 ∨ z = 1 ∨ z = 2 ∨ z = 3 ∨ z = 4 ∨ z = 5 ∨ z = 6 := by omega
    rcases this with rfl | rfl | rfl | rfl | rfl | rfl | rfl <;> decide
  · rw [if_neg h]; exact ⟨fun _ => by omega, fun _ => rfl⟩
/-- the names of the kinds, as they are laid -/
def NmT (I : IM) : Prop := ∃ cs T fr, I 0 = some (.cells cs T fr) ∧ ∀ i, i < 7 → cs[i]? = some (.string ⟨(nmL.getD i []).toArray⟩)
theorem NmT.mono {I J : IM} (le : I.Le J) (h : NmT I) : NmT J := by
  obtain ⟨cs, T, fr, h1, h2⟩ := h
  exact ⟨cs, T, fr, le _ _ h1, h2⟩
theorem nm_ld {I : IM} {w : World} (hs : I.Sub w) (h : NmT I) (i : Nat) (hi : i < 7) : (Instr.loadAt 9 (.pointer (some ⟨0, i, none⟩))).run Tryd.prog w = .ok (.string ⟨(nmL.getD i []).toArray⟩) w := by
  obtain ⟨cs, T, fr, h1, h2⟩ := h
  have c1 := run_cell (a := ⟨0, i, none⟩) (hs _ _ h1) rfl rfl
  rw [h2 i hi] at c1
  have e : (Instr.loadAt 9 (.pointer (some ⟨0, i, none⟩))).run Tryd.prog w = (load ⟨0, i, none⟩).run Tryd.prog w := by kernel_rfl
  rw [e]; simp only [load, Sem.run, c1]

theorem semlem0 {w : World} : (Instr.indexAt 98 (.pointer (some ⟨0, 0, none⟩)) (.int .i64 0)).run Tryd.prog w = .ok (.pointer (some ⟨0, 0, none⟩)) w := by kernel_rfl
set_option maxHeartbeats 1000000 in
theorem kindName0_c {I : IM} (hN : NmT I) : Fun Tryd.prog 27 #[.int .i64 0] I (fun v J => v = .string ⟨([] : List UInt8).toArray⟩) := by
  refine enter_rule 12 [(0, .int .i64 0)] Tryd.func27 rfl (by kernel_rfl) ?_
  intro w s
  refine wp_seq ?_
  refine region_rule ?_
  refine ops_rule (C := []) [] [] 1 [] 0 (fun φ1 => [(2, .string ⟨#[]⟩)]) (fun φ1 => []) (fun φ1 => []) s trivial (fun φ1 => by kernel_rfl) ?_
  intro φ1 w1 s
  refine ops_done (by kernel_rfl) ?_
  refine wp_seq ?_
  refine wp_seq ?_
  refine region_rule ?_
  refine ops_rule (C := []) [] [] 6 [] 0 (fun φ2 => [(8, .bool false), (7, .bool false), (6, .int .i64 0), (5, .bool false), (4, .bool false), (3, .int .i64 0)]) (fun φ2 => []) (fun φ2 => []) s trivial (fun φ2 => by kernel_rfl) ?_
  intro φ2 w2 s
  refine ops_done (by kernel_rfl) ?_
  refine cond_false_rule (b := false) (by kernel_rfl) rfl ?_
  refine wp_skip ?_
  refine wp_seq ?_
  refine region_rule ?_
  refine ops_rule (C := []) [] [] 1 [] 0 (fun φ3 => [(9, .int .i64 0)]) (fun φ3 => []) (fun φ3 => []) s trivial (fun φ3 => by kernel_rfl) ?_
  intro φ3 w3 s
  refine sem_rule (Instr.indexAt 98 (.pointer (some ⟨0, 0, none⟩)) (.int .i64 0)) (some 10) (.pointer (some ⟨0, 0, none⟩)) (by kernel_rfl) (semlem0) ?_
  refine sem_rule (Instr.loadAt 9 (.pointer (some ⟨0, 0, none⟩))) (some 11) (.string ⟨#[]⟩) (by kernel_rfl) (nm_ld s.sub hN 0 (by decide)) ?_
  refine ops_rule (C := []) [] [] 1 [] 0 (fun φ4 => [(2, .string ⟨#[]⟩)]) (fun φ4 => []) (fun φ4 => []) s trivial (fun φ4 => by kernel_rfl) ?_
  intro φ4 w4 s
  refine ops_done (by kernel_rfl) ?_
  refine wp_ret ?_
  refine ret_rule (C := []) [] [] (.string ⟨#[]⟩) [] [] s trivial (by kernel_rfl) ?_
  exact ⟨_, _, _, rfl, s, rfl⟩

theorem semlem1 {w : World} : (Instr.indexAt 98 (.pointer (some ⟨0, 0, none⟩)) (.int .i64 1)).run Tryd.prog w = .ok (.pointer (some ⟨0, 1, none⟩)) w := by kernel_rfl
set_option maxHeartbeats 1000000 in
theorem kindName1_c {I : IM} (hN : NmT I) : Fun Tryd.prog 27 #[.int .i64 1] I (fun v J => v = .string ⟨([110, 97, 109, 101] : List UInt8).toArray⟩) := by
  refine enter_rule 12 [(0, .int .i64 1)] Tryd.func27 rfl (by kernel_rfl) ?_
  intro w s
  refine wp_seq ?_
  refine region_rule ?_
  refine ops_rule (C := []) [] [] 1 [] 0 (fun φ1 => [(2, .string ⟨#[]⟩)]) (fun φ1 => []) (fun φ1 => []) s trivial (fun φ1 => by kernel_rfl) ?_
  intro φ1 w1 s
  refine ops_done (by kernel_rfl) ?_
  refine wp_seq ?_
  refine wp_seq ?_
  refine region_rule ?_
  refine ops_rule (C := []) [] [] 6 [] 0 (fun φ2 => [(8, .bool false), (7, .bool false), (6, .int .i64 1), (5, .bool false), (4, .bool false), (3, .int .i64 1)]) (fun φ2 => []) (fun φ2 => []) s trivial (fun φ2 => by kernel_rfl) ?_
  intro φ2 w2 s
  refine ops_done (by kernel_rfl) ?_
  refine cond_false_rule (b := false) (by kernel_rfl) rfl ?_
  refine wp_skip ?_
  refine wp_seq ?_
  refine region_rule ?_
  refine ops_rule (C := []) [] [] 1 [] 0 (fun φ3 => [(9, .int .i64 1)]) (fun φ3 => []) (fun φ3 => []) s trivial (fun φ3 => by kernel_rfl) ?_
  intro φ3 w3 s
  refine sem_rule (Instr.indexAt 98 (.pointer (some ⟨0, 0, none⟩)) (.int .i64 1)) (some 10) (.pointer (some ⟨0, 1, none⟩)) (by kernel_rfl) (semlem1) ?_
  refine sem_rule (Instr.loadAt 9 (.pointer (some ⟨0, 1, none⟩))) (some 11) (.string ⟨#[110, 97, 109, 101]⟩) (by kernel_rfl) (nm_ld s.sub hN 1 (by decide)) ?_
  refine ops_rule (C := []) [] [] 1 [] 0 (fun φ4 => [(2, .string ⟨#[110, 97, 109, 101]⟩)]) (fun φ4 => []) (fun φ4 => []) s trivial (fun φ4 => by kernel_rfl) ?_
  intro φ4 w4 s
  refine ops_done (by kernel_rfl) ?_
  refine wp_ret ?_
  refine ret_rule (C := []) [] [] (.string ⟨#[110, 97, 109, 101]⟩) [] [] s trivial (by kernel_rfl) ?_
  exact ⟨_, _, _, rfl, s, rfl⟩

theorem semlem2 {w : World} : (Instr.indexAt 98 (.pointer (some ⟨0, 0, none⟩)) (.int .i64 2)).run Tryd.prog w = .ok (.pointer (some ⟨0, 2, none⟩)) w := by kernel_rfl
set_option maxHeartbeats 1000000 in
theorem kindName2_c {I : IM} (hN : NmT I) : Fun Tryd.prog 27 #[.int .i64 2] I (fun v J => v = .string ⟨([112, 104, 111, 110, 101] : List UInt8).toArray⟩) := by
  refine enter_rule 12 [(0, .int .i64 2)] Tryd.func27 rfl (by kernel_rfl) ?_
  intro w s
  refine wp_seq ?_
  refine region_rule ?_
  refine ops_rule (C := []) [] [] 1 [] 0 (fun φ1 => [(2, .string ⟨#[]⟩)]) (fun φ1 => []) (fun φ1 => []) s trivial (fun φ1 => by kernel_rfl) ?_
  intro φ1 w1 s
  refine ops_done (by kernel_rfl) ?_
  refine wp_seq ?_
  refine wp_seq ?_
  refine region_rule ?_
  refine ops_rule (C := []) [] [] 6 [] 0 (fun φ2 => [(8, .bool false), (7, .bool false), (6, .int .i64 2), (5, .bool false), (4, .bool false), (3, .int .i64 2)]) (fun φ2 => []) (fun φ2 => []) s trivial (fun φ2 => by kernel_rfl) ?_
  intro φ2 w2 s
  refine ops_done (by kernel_rfl) ?_
  refine cond_false_rule (b := false) (by kernel_rfl) rfl ?_
  refine wp_skip ?_
  refine wp_seq ?_
  refine region_rule ?_
  refine ops_rule (C := []) [] [] 1 [] 0 (fun φ3 => [(9, .int .i64 2)]) (fun φ3 => []) (fun φ3 => []) s trivial (fun φ3 => by kernel_rfl) ?_
  intro φ3 w3 s
  refine sem_rule (Instr.indexAt 98 (.pointer (some ⟨0, 0, none⟩)) (.int .i64 2)) (some 10) (.pointer (some ⟨0, 2, none⟩)) (by kernel_rfl) (semlem2) ?_
  refine sem_rule (Instr.loadAt 9 (.pointer (some ⟨0, 2, none⟩))) (some 11) (.string ⟨#[112, 104, 111, 110, 101]⟩) (by kernel_rfl) (nm_ld s.sub hN 2 (by decide)) ?_
  refine ops_rule (C := []) [] [] 1 [] 0 (fun φ4 => [(2, .string ⟨#[112, 104, 111, 110, 101]⟩)]) (fun φ4 => []) (fun φ4 => []) s trivial (fun φ4 => by kernel_rfl) ?_
  intro φ4 w4 s
  refine ops_done (by kernel_rfl) ?_
  refine wp_ret ?_
  refine ret_rule (C := []) [] [] (.string ⟨#[112, 104, 111, 110, 101]⟩) [] [] s trivial (by kernel_rfl) ?_
  exact ⟨_, _, _, rfl, s, rfl⟩

theorem semlem3 {w : World} : (Instr.indexAt 98 (.pointer (some ⟨0, 0, none⟩)) (.int .i64 3)).run Tryd.prog w = .ok (.pointer (some ⟨0, 3, none⟩)) w := by kernel_rfl
set_option maxHeartbeats 1000000 in
theorem kindName3_c {I : IM} (hN : NmT I) : Fun Tryd.prog 27 #[.int .i64 3] I (fun v J => v = .string ⟨([109, 97, 105, 108] : List UInt8).toArray⟩) := by
  refine enter_rule 12 [(0, .int .i64 3)] Tryd.func27 rfl (by kernel_rfl) ?_
  intro w s
  refine wp_seq ?_
  refine region_rule ?_
  refine ops_rule (C := []) [] [] 1 [] 0 (fun φ1 => [(2, .string ⟨#[]⟩)]) (fun φ1 => []) (fun φ1 => []) s trivial (fun φ1 => by kernel_rfl) ?_
  intro φ1 w1 s
  refine ops_done (by kernel_rfl) ?_
  refine wp_seq ?_
  refine wp_seq ?_
  refine region_rule ?_
  refine ops_rule (C := []) [] [] 6 [] 0 (fun φ2 => [(8, .bool false), (7, .bool false), (6, .int .i64 3), (5, .bool false), (4, .bool false), (3, .int .i64 3)]) (fun φ2 => []) (fun φ2 => []) s trivial (fun φ2 => by kernel_rfl) ?_
  intro φ2 w2 s
  refine ops_done (by kernel_rfl) ?_
  refine cond_false_rule (b := false) (by kernel_rfl) rfl ?_
  refine wp_skip ?_
  refine wp_seq ?_
  refine region_rule ?_
  refine ops_rule (C := []) [] [] 1 [] 0 (fun φ3 => [(9, .int .i64 3)]) (fun φ3 => []) (fun φ3 => []) s trivial (fun φ3 => by kernel_rfl) ?_
  intro φ3 w3 s
  refine sem_rule (Instr.indexAt 98 (.pointer (some ⟨0, 0, none⟩)) (.int .i64 3)) (some 10) (.pointer (some ⟨0, 3, none⟩)) (by kernel_rfl) (semlem3) ?_
  refine sem_rule (Instr.loadAt 9 (.pointer (some ⟨0, 3, none⟩))) (some 11) (.string ⟨#[109, 97, 105, 108]⟩) (by kernel_rfl) (nm_ld s.sub hN 3 (by decide)) ?_
  refine ops_rule (C := []) [] [] 1 [] 0 (fun φ4 => [(2, .string ⟨#[109, 97, 105, 108]⟩)]) (fun φ4 => []) (fun φ4 => []) s trivial (fun φ4 => by kernel_rfl) ?_
  intro φ4 w4 s
  refine ops_done (by kernel_rfl) ?_
  refine wp_ret ?_
  refine ret_rule (C := []) [] [] (.string ⟨#[109, 97, 105, 108]⟩) [] [] s trivial (by kernel_rfl) ?_
  exact ⟨_, _, _, rfl, s, rfl⟩

theorem semlem4 {w : World} : (Instr.indexAt 98 (.pointer (some ⟨0, 0, none⟩)) (.int .i64 4)).run Tryd.prog w = .ok (.pointer (some ⟨0, 4, none⟩)) w := by kernel_rfl
set_option maxHeartbeats 1000000 in
theorem kindName4_c {I : IM} (hN : NmT I) : Fun Tryd.prog 27 #[.int .i64 4] I (fun v J => v = .string ⟨([97, 100, 100, 114, 101, 115, 115] : List UInt8).toArray⟩) := by
  refine enter_rule 12 [(0, .int .i64 4)] Tryd.func27 rfl (by kernel_rfl) ?_
  intro w s
  refine wp_seq ?_
  refine region_rule ?_
  refine ops_rule (C := []) [] [] 1 [] 0 (fun φ1 => [(2, .string ⟨#[]⟩)]) (fun φ1 => []) (fun φ1 => []) s trivial (fun φ1 => by kernel_rfl) ?_
  intro φ1 w1 s
  refine ops_done (by kernel_rfl) ?_
  refine wp_seq ?_
  refine wp_seq ?_
  refine region_rule ?_
  refine ops_rule (C := []) [] [] 6 [] 0 (fun φ2 => [(8, .bool false), (7, .bool false), (6, .int .i64 4), (5, .bool false), (4, .bool false), (3, .int .i64 4)]) (fun φ2 => []) (fun φ2 => []) s trivial (fun φ2 => by kernel_rfl) ?_
  intro φ2 w2 s
  refine ops_done (by kernel_rfl) ?_
  refine cond_false_rule (b := false) (by kernel_rfl) rfl ?_
  refine wp_skip ?_
  refine wp_seq ?_
  refine region_rule ?_
  refine ops_rule (C := []) [] [] 1 [] 0 (fun φ3 => [(9, .int .i64 4)]) (fun φ3 => []) (fun φ3 => []) s trivial (fun φ3 => by kernel_rfl) ?_
  intro φ3 w3 s
  refine sem_rule (Instr.indexAt 98 (.pointer (some ⟨0, 0, none⟩)) (.int .i64 4)) (some 10) (.pointer (some ⟨0, 4, none⟩)) (by kernel_rfl) (semlem4) ?_
  refine sem_rule (Instr.loadAt 9 (.pointer (some ⟨0, 4, none⟩))) (some 11) (.string ⟨#[97, 100, 100, 114, 101, 115, 115]⟩) (by kernel_rfl) (nm_ld s.sub hN 4 (by decide)) ?_
  refine ops_rule (C := []) [] [] 1 [] 0 (fun φ4 => [(2, .string ⟨#[97, 100, 100, 114, 101, 115, 115]⟩)]) (fun φ4 => []) (fun φ4 => []) s trivial (fun φ4 => by kernel_rfl) ?_
  intro φ4 w4 s
  refine ops_done (by kernel_rfl) ?_
  refine wp_ret ?_
  refine ret_rule (C := []) [] [] (.string ⟨#[97, 100, 100, 114, 101, 115, 115]⟩) [] [] s trivial (by kernel_rfl) ?_
  exact ⟨_, _, _, rfl, s, rfl⟩

theorem semlem5 {w : World} : (Instr.indexAt 98 (.pointer (some ⟨0, 0, none⟩)) (.int .i64 5)).run Tryd.prog w = .ok (.pointer (some ⟨0, 5, none⟩)) w := by kernel_rfl
set_option maxHeartbeats 1000000 in
theorem kindName5_c {I : IM} (hN : NmT I) : Fun Tryd.prog 27 #[.int .i64 5] I (fun v J => v = .string ⟨([110, 111, 116, 101] : List UInt8).toArray⟩) := by
  refine enter_rule 12 [(0, .int .i64 5)] Tryd.func27 rfl (by kernel_rfl) ?_
  intro w s
  refine wp_seq ?_
  refine region_rule ?_
  refine ops_rule (C := []) [] [] 1 [] 0 (fun φ1 => [(2, .string ⟨#[]⟩)]) (fun φ1 => []) (fun φ1 => []) s trivial (fun φ1 => by kernel_rfl) ?_
  intro φ1 w1 s
  refine ops_done (by kernel_rfl) ?_
  refine wp_seq ?_
  refine wp_seq ?_
  refine region_rule ?_
  refine ops_rule (C := []) [] [] 6 [] 0 (fun φ2 => [(8, .bool false), (7, .bool false), (6, .int .i64 5), (5, .bool false), (4, .bool false), (3, .int .i64 5)]) (fun φ2 => []) (fun φ2 => []) s trivial (fun φ2 => by kernel_rfl) ?_
  intro φ2 w2 s
  refine ops_done (by kernel_rfl) ?_
  refine cond_false_rule (b := false) (by kernel_rfl) rfl ?_
  refine wp_skip ?_
  refine wp_seq ?_
  refine region_rule ?_
  refine ops_rule (C := []) [] [] 1 [] 0 (fun φ3 => [(9, .int .i64 5)]) (fun φ3 => []) (fun φ3 => []) s trivial (fun φ3 => by kernel_rfl) ?_
  intro φ3 w3 s
  refine sem_rule (Instr.indexAt 98 (.pointer (some ⟨0, 0, none⟩)) (.int .i64 5)) (some 10) (.pointer (some ⟨0, 5, none⟩)) (by kernel_rfl) (semlem5) ?_
  refine sem_rule (Instr.loadAt 9 (.pointer (some ⟨0, 5, none⟩))) (some 11) (.string ⟨#[110, 111, 116, 101]⟩) (by kernel_rfl) (nm_ld s.sub hN 5 (by decide)) ?_
  refine ops_rule (C := []) [] [] 1 [] 0 (fun φ4 => [(2, .string ⟨#[110, 111, 116, 101]⟩)]) (fun φ4 => []) (fun φ4 => []) s trivial (fun φ4 => by kernel_rfl) ?_
  intro φ4 w4 s
  refine ops_done (by kernel_rfl) ?_
  refine wp_ret ?_
  refine ret_rule (C := []) [] [] (.string ⟨#[110, 111, 116, 101]⟩) [] [] s trivial (by kernel_rfl) ?_
  exact ⟨_, _, _, rfl, s, rfl⟩

theorem semlem6 {w : World} : (Instr.indexAt 98 (.pointer (some ⟨0, 0, none⟩)) (.int .i64 6)).run Tryd.prog w = .ok (.pointer (some ⟨0, 6, none⟩)) w := by kernel_rfl
set_option maxHeartbeats 1000000 in
theorem kindName6_c {I : IM} (hN : NmT I) : Fun Tryd.prog 27 #[.int .i64 6] I (fun v J => v = .string ⟨([103, 114, 111, 117, 112] : List UInt8).toArray⟩) := by
  refine enter_rule 12 [(0, .int .i64 6)] Tryd.func27 rfl (by kernel_rfl) ?_
  intro w s
  refine wp_seq ?_
  refine region_rule ?_
  refine ops_rule (C := []) [] [] 1 [] 0 (fun φ1 => [(2, .string ⟨#[]⟩)]) (fun φ1 => []) (fun φ1 => []) s trivial (fun φ1 => by kernel_rfl) ?_
  intro φ1 w1 s
  refine ops_done (by kernel_rfl) ?_
  refine wp_seq ?_
  refine wp_seq ?_
  refine region_rule ?_
  refine ops_rule (C := []) [] [] 6 [] 0 (fun φ2 => [(8, .bool false), (7, .bool false), (6, .int .i64 6), (5, .bool false), (4, .bool false), (3, .int .i64 6)]) (fun φ2 => []) (fun φ2 => []) s trivial (fun φ2 => by kernel_rfl) ?_
  intro φ2 w2 s
  refine ops_done (by kernel_rfl) ?_
  refine cond_false_rule (b := false) (by kernel_rfl) rfl ?_
  refine wp_skip ?_
  refine wp_seq ?_
  refine region_rule ?_
  refine ops_rule (C := []) [] [] 1 [] 0 (fun φ3 => [(9, .int .i64 6)]) (fun φ3 => []) (fun φ3 => []) s trivial (fun φ3 => by kernel_rfl) ?_
  intro φ3 w3 s
  refine sem_rule (Instr.indexAt 98 (.pointer (some ⟨0, 0, none⟩)) (.int .i64 6)) (some 10) (.pointer (some ⟨0, 6, none⟩)) (by kernel_rfl) (semlem6) ?_
  refine sem_rule (Instr.loadAt 9 (.pointer (some ⟨0, 6, none⟩))) (some 11) (.string ⟨#[103, 114, 111, 117, 112]⟩) (by kernel_rfl) (nm_ld s.sub hN 6 (by decide)) ?_
  refine ops_rule (C := []) [] [] 1 [] 0 (fun φ4 => [(2, .string ⟨#[103, 114, 111, 117, 112]⟩)]) (fun φ4 => []) (fun φ4 => []) s trivial (fun φ4 => by kernel_rfl) ?_
  intro φ4 w4 s
  refine ops_done (by kernel_rfl) ?_
  refine wp_ret ?_
  refine ret_rule (C := []) [] [] (.string ⟨#[103, 114, 111, 117, 112]⟩) [] [] s trivial (by kernel_rfl) ?_
  exact ⟨_, _, _, rfl, s, rfl⟩

set_option maxHeartbeats 1000000 in
theorem kindNameX_c {I : IM} (hN : NmT I) {z : Int} (hz : ¬ (0 ≤ z ∧ z < 7)) : Fun Tryd.prog 27 #[.int .i64 z] I (fun v J => v = .string ⟨([] : List UInt8).toArray⟩) := by
  refine enter_rule 12 [(0, .int .i64 z)] Tryd.func27 rfl (by kernel_rfl) ?_
  intro w s
  refine wp_seq ?_
  refine region_rule ?_
  refine ops_rule (C := []) [] [] 1 [] 0 (fun φ1 => [(2, .string ⟨#[]⟩)]) (fun φ1 => []) (fun φ1 => []) s trivial (fun φ1 => by kernel_rfl) ?_
  intro φ1 w1 s
  refine ops_done (by kernel_rfl) ?_
  refine wp_seq ?_
  refine wp_seq ?_
  refine region_rule ?_
  refine ops_rule (C := []) [] [] 3 [] 0 (fun φ2 => [(5, .bool (decide (z < ((0 : Nat) : Int)))), (4, .bool (decide (z < ((0 : Nat) : Int)))), (3, .int .i64 z)]) (fun φ2 => []) (fun φ2 => []) s trivial (fun φ2 => by kernel_rfl) ?_
  intro φ2 w2 s
  rcases Bool.eq_false_or_eq_true (decide (z < ((0 : Nat) : Int))) with hc3 | hc3
  ·
    rw [hc3]
    refine ops_rule (C := []) [] [] 3 [] 0 (fun φ4 => [(8, .bool true), (7, undef), (6, undef)]) (fun φ4 => []) (fun φ4 => []) s trivial (fun φ4 => by kernel_rfl) ?_
    intro φ4 w4 s
    refine ops_done (by kernel_rfl) ?_
    refine cond_true_rule (b := true) (by kernel_rfl) rfl ?_
    refine wp_seq ?_
    refine region_rule ?_
    refine ops_rule (C := []) [] [] 1 [] 0 (fun φ5 => [(2, .string ⟨#[]⟩)]) (fun φ5 => []) (fun φ5 => []) s trivial (fun φ5 => by kernel_rfl) ?_
    intro φ5 w5 s
    refine ops_done (by kernel_rfl) ?_
    refine wp_ret ?_
    refine ret_rule (C := []) [] [] (.string ⟨#[]⟩) [] [] s trivial (by kernel_rfl) ?_
    exact ⟨_, _, _, rfl, s, rfl⟩
  ·
    rw [hc3]
    refine ops_rule (C := []) [] [] 3 [] 0 (fun φ6 => [(8, .bool (decide (z ≥ ((7 : Nat) : Int)))), (7, .bool (decide (z ≥ ((7 : Nat) : Int)))), (6, .int .i64 z)]) (fun φ6 => []) (fun φ6 => []) s trivial (fun φ6 => by kernel_rfl) ?_
    intro φ6 w6 s
    refine ops_done (by kernel_rfl) ?_
    rcases Bool.eq_false_or_eq_true (decide (z ≥ ((7 : Nat) : Int))) with hc7 | hc7
    ·
      rw [hc7]
      refine cond_true_rule (b := true) (by kernel_rfl) rfl ?_
      refine wp_seq ?_
      refine region_rule ?_
      refine ops_rule (C := []) [] [] 1 [] 0 (fun φ8 => [(2, .string ⟨#[]⟩)]) (fun φ8 => []) (fun φ8 => []) s trivial (fun φ8 => by kernel_rfl) ?_
      intro φ8 w8 s
      refine ops_done (by kernel_rfl) ?_
      refine wp_ret ?_
      refine ret_rule (C := []) [] [] (.string ⟨#[]⟩) [] [] s trivial (by kernel_rfl) ?_
      exact ⟨_, _, _, rfl, s, rfl⟩
    ·
      exact absurd (of_decide_eq_false hc7) (by have hq0 := of_decide_eq_false hc3; omega)

theorem kindName_c {I : IM} (hN : NmT I) {z : Int} : Fun Tryd.prog 27 #[.int .i64 z] I (fun v J => v = .string ⟨(nmS z).toArray⟩) := by
  by_cases h : 0 ≤ z ∧ z < 7
  · have : z = 0 ∨ z = 1 ∨ z = 2 ∨ z = 3 ∨ z = 4 ∨ z = 5 ∨ z = 6 := by omega
    rcases this with rfl | rfl | rfl | rfl | rfl | rfl | rfl
    · exact kindName0_c hN
    · exact kindName1_c hN
    · exact kindName2_c hN
    · exact kindName3_c hN
    · exact kindName4_c hN
    · exact kindName5_c hN
    · exact kindName6_c hN
  · have e : nmS z = [] := by unfold nmS; rw [if_neg h]
    rw [e]; exact kindNameX_c hN h
def fitsB (z : Int) (v : List UInt8) : Bool := !(decide (v = [])) && decide (v = fldS v) && (!(decide (z = 2)) || phone v) && (!(decide (z = 3)) || mail v)
/-- what is wrong with a field -/
def rtE (z : Int) (a v : List UInt8) : Nat := if ¬ (1 ≤ z ∧ z ≤ 6) then 1 else if ckE a 12 ≠ 0 then ckE a 12 else if ckE v 40 ≠ 0 then ckE v 40 else if fitsB z v = true then 0 else 7
theorem rt1 {z : Int} {a v : List UInt8} (h : ¬ (1 ≤ z ∧ z ≤ 6)) : rtE z a v = 1 := if_pos h
theorem rt2 {z : Int} {a v : List UInt8} (h : 1 ≤ z ∧ z ≤ 6) (h2 : ckE a 12 ≠ 0) : rtE z a v = ckE a 12 := by unfold rtE; rw [if_neg (fun q => q h), if_pos h2]
theorem rt3 {z : Int} {a v : List UInt8} (h : 1 ≤ z ∧ z ≤ 6) (h2 : ckE a 12 = 0) (h3 : ckE v 40 ≠ 0) : rtE z a v = ckE v 40 := by unfold rtE; rw [if_neg (fun q => q h), if_neg (fun q => q h2), if_pos h3]
theorem rt4 {z : Int} {a v : List UInt8} (h : 1 ≤ z ∧ z ≤ 6) (h2 : ckE a 12 = 0) (h3 : ckE v 40 = 0) (h4 : fitsB z v = false) : rtE z a v = 7 := by unfold rtE; rw [if_neg (fun q => q h), if_neg (fun q => q h2), if_neg (fun q => q h3), if_neg (by rw [h4]; decide)]
theorem rt5 {z : Int} {a v : List UInt8} (h : 1 ≤ z ∧ z ≤ 6) (h2 : ckE a 12 = 0) (h3 : ckE v 40 = 0) (h4 : fitsB z v = true) : rtE z a v = 0 := by unfold rtE; rw [if_neg (fun q => q h), if_neg (fun q => q h2), if_neg (fun q => q h3), if_pos h4]

set_option maxHeartbeats 2000000 in
theorem fitsG_c {I : IM} {z : Int} {A B : List UInt8} (hA : A.length ≤ 1000000) (hB : B.length ≤ 1000000) : Fun Tryd.prog 61 #[.agg #[.int .i64 z, .string ⟨(A).toArray⟩, .string ⟨(B).toArray⟩]] I (fun v J => v = .bool (fitsB z B)) := by
  refine enter_rule 29 [(0, .agg #[.int .i64 z, .string ⟨(A).toArray⟩, .string ⟨(B).toArray⟩])] Tryd.func61 rfl (by kernel_rfl) ?_
  intro w s
  refine wp_seq ?_
  refine region_rule ?_
  refine ops_rule (C := []) [] [] 2 [] 1 (fun φ1 => [(2, .bool false), (1, .pointer (some ⟨(φ1 0), 0, none⟩))]) (fun φ1 => [((φ1 0), .cells #[.int .i64 z, .string ⟨(A).toArray⟩, .string ⟨(B).toArray⟩] 39)]) (fun φ1 => []) s trivial (fun φ1 => by kernel_rfl) ?_
  intro φ1 w1 s
  refine ops_done (by kernel_rfl) ?_
  refine wp_seq ?_
  refine wp_block ?_
  refine wp_seq ?_
  rcases Bool.eq_false_or_eq_true (decide (B = ([] : List UInt8))) with hc2 | hc2
  ·
    refine draw_rule (C := []) ⟨(fun φ3 xs3 => [.look 0 [] [], .look 0 [.o 0] [(φ1 0)], .ran (binOp .eql 9 (.string ⟨(B).toArray⟩) (.string ⟨(([] : List UInt8)).toArray⟩)), .look 0 [] [], .skip, .skip, .skip, .skip, .skip, .skip, .look 0 [] [], .look 0 [] []]), (fun φ3 xs3 => [.pointer (some ⟨(φ1 0), 2, none⟩), .string ⟨(B).toArray⟩, .bool true, .bool true, undef, undef, undef, undef, undef, undef, .bool true, .bool true]), (fun φ3 xs3 => [[((φ1 0), .cells #[.int .i64 z, .string ⟨(A).toArray⟩, .string ⟨(B).toArray⟩] 39)]]), (fun φ3 xs3 => [[default, default, default, default, default, default, default, default, default, default, default, default]]), [], [1, 1, 6, 1, 0, 0, 0, 0, 0, 0, 1, 1]⟩ (fun j => ([MP.any, MP.any, MP.any, MP.any, MP.any, MP.any, MP.any, MP.any, MP.any, MP.any, MP.any, MP.any] : List MP).getD j MP.any) [] [] [2] (fun φ3 xs3 => []) (fun φ3 xs3 => [(4, .pointer (some ⟨(φ1 0), 2, none⟩)), (5, .string ⟨(B).toArray⟩), (6, .bool true), (7, .bool true), (8, undef), (9, undef), (10, undef), (11, undef), (12, undef), (13, undef), (14, .bool true), (3, .bool true)]) (fun φ3 xs3 => [((φ1 0), .cells #[.int .i64 z, .string ⟨(A).toArray⟩, .string ⟨(B).toArray⟩] 39)]) s trivial (by kernel_rfl) (by kernel_rfl) (fun _ _ => by kernel_rfl) (fun _ _ => by kernel_rfl) ⟨fun _ _ => by kernel_rfl, fun _ _ => by kernel_rfl, fun _ _ => by kernel_rfl, fun _ _ => by kernel_rfl⟩ (fun _ _ _ => by kernel_rfl) (fun _ _ => by kernel_rfl) (fun _ _ => by kernel_rfl) (fun _ _ => by kernel_rfl) (fun _ _ => by kernel_rfl) (fun _ _ => by kernel_rfl) trivial ⟨kcast (A := ∀ (φ3 : Nat → Nat) (xs3 : Xs) (J : IM) (w : World), I.Le J → J.Sub w → ((binOp .eql 9 (.string ⟨(B).toArray⟩) (.string ⟨(([] : List UInt8)).toArray⟩)) : Sem Value).run Tryd.prog w = .ok (.bool true) w) (by kernel_rfl) (fun φ3 xs3 J w hJ hS => ((run_eqS (x := B) (y := ([] : List UInt8)) : ((binOp .eql 9 (.string ⟨(B).toArray⟩) (.string ⟨(([] : List UInt8)).toArray⟩)) : Sem Value).run Tryd.prog w = .ok (.bool (decide (B = ([] : List UInt8)))) w).trans (congrArg (fun q => Result.ok (Value.bool q) w) hc2))), trivial⟩ (by kernel_rfl) trivial ?k3
    case k3 =>
      rintro φ3 xs3 I3 w3 le3 s 
      refine cond_true_rule (b := true) (by kernel_rfl) rfl ?_
      refine wp_seq ?_
      refine region_rule ?_
      refine ops_rule (C := []) [((φ1 0), .cells #[.int .i64 z, .string ⟨(A).toArray⟩, .string ⟨(B).toArray⟩] 39)] [] 1 [] 0 (fun φ4 => [(2, .bool false)]) (fun φ4 => [((φ1 0), .cells #[.int .i64 z, .string ⟨(A).toArray⟩, .string ⟨(B).toArray⟩] 39)]) (fun φ4 => []) s trivial (fun φ4 => by kernel_rfl) ?_
      intro φ4 w4 s
      refine ops_done (by kernel_rfl) ?_
      refine wp_ret ?_
      refine ret_rule (C := []) [((φ1 0), .cells #[.int .i64 z, .string ⟨(A).toArray⟩, .string ⟨(B).toArray⟩] 39)] [] (.bool false) [] [] s trivial (by kernel_rfl) ?_
      exact ⟨_, _, _, rfl, s, (congrArg Value.bool (by unfold fitsB; simp only [hc2, Bool.not_true, Bool.not_false, Bool.true_and, Bool.and_true, Bool.false_and, Bool.and_false, Bool.true_or, Bool.or_true, Bool.false_or, Bool.or_false]))⟩
  ·
    refine draw_rule (C := []) ⟨(fun φ5 xs5 => [.look 0 [] [], .look 0 [.o 0] [(φ1 0)], .ran (binOp .eql 9 (.string ⟨(B).toArray⟩) (.string ⟨(([] : List UInt8)).toArray⟩)), .look 0 [] [], .look 0 [] [], .look 0 [.o 0] [(φ1 0)], .look 0 [] [], .look 0 [.o 0] [(φ1 0)], .call 100 #[.string ⟨(B).toArray⟩], .ran (binOp .neq 9 (.string ⟨(B).toArray⟩) (.string ⟨(fldS B).toArray⟩)), .look 0 [] [], .look 0 [] []]), (fun φ5 xs5 => [.pointer (some ⟨(φ1 0), 2, none⟩), .string ⟨(B).toArray⟩, .bool false, .bool false, .pointer (some ⟨(φ1 0), 2, none⟩), .string ⟨(B).toArray⟩, .pointer (some ⟨(φ1 0), 2, none⟩), .string ⟨(B).toArray⟩, .string ⟨(fldS B).toArray⟩, .bool (!(decide (B = fldS B))), .bool (!(decide (B = fldS B))), .bool (!(decide (B = fldS B)))]), (fun φ5 xs5 => [[((φ1 0), .cells #[.int .i64 z, .string ⟨(A).toArray⟩, .string ⟨(B).toArray⟩] 39)]]), (fun φ5 xs5 => [[default, default, default, default, default, default, default, default, default, default, default, default]]), [], [1, 1, 6, 1, 1, 1, 1, 1, 3, 6, 1, 1]⟩ (fun j => ([MP.any, MP.any, MP.any, MP.any, MP.any, MP.any, MP.any, MP.any, MP.any, MP.any, MP.any, MP.any] : List MP).getD j MP.any) [8] [] [2, 9] (fun φ5 xs5 => []) (fun φ5 xs5 => [(4, .pointer (some ⟨(φ1 0), 2, none⟩)), (5, .string ⟨(B).toArray⟩), (6, .bool false), (7, .bool false), (8, .pointer (some ⟨(φ1 0), 2, none⟩)), (9, .string ⟨(B).toArray⟩), (10, .pointer (some ⟨(φ1 0), 2, none⟩)), (11, .string ⟨(B).toArray⟩), (12, .string ⟨(fldS B).toArray⟩), (13, .bool (!(decide (B = fldS B)))), (14, .bool (!(decide (B = fldS B)))), (3, .bool (!(decide (B = fldS B))))]) (fun φ5 xs5 => [((φ1 0), .cells #[.int .i64 z, .string ⟨(A).toArray⟩, .string ⟨(B).toArray⟩] 39)]) s trivial (by kernel_rfl) (by kernel_rfl) (fun _ _ => by kernel_rfl) (fun _ _ => by kernel_rfl) ⟨fun _ _ => by kernel_rfl, fun _ _ => by kernel_rfl, fun _ _ => by kernel_rfl, fun _ _ => by kernel_rfl⟩ (fun _ _ _ => by kernel_rfl) (fun _ _ => by kernel_rfl) (fun _ _ => by kernel_rfl) (fun _ _ => by kernel_rfl) (fun _ _ => by kernel_rfl) (fun _ _ => by kernel_rfl) trivial ⟨kcast (A := ∀ (φ5 : Nat → Nat) (xs5 : Xs) (J : IM) (w : World), I.Le J → J.Sub w → ((binOp .eql 9 (.string ⟨(B).toArray⟩) (.string ⟨(([] : List UInt8)).toArray⟩)) : Sem Value).run Tryd.prog w = .ok (.bool false) w) (by kernel_rfl) (fun φ5 xs5 J w hJ hS => ((run_eqS (x := B) (y := ([] : List UInt8)) : ((binOp .eql 9 (.string ⟨(B).toArray⟩) (.string ⟨(([] : List UInt8)).toArray⟩)) : Sem Value).run Tryd.prog w = .ok (.bool (decide (B = ([] : List UInt8)))) w).trans (congrArg (fun q => Result.ok (Value.bool q) w) hc2))), ⟨kcast (A := ∀ (φ5 : Nat → Nat) (xs5 : Xs) (J : IM) (w : World), I.Le J → J.Sub w → ((binOp .neq 9 (.string ⟨(B).toArray⟩) (.string ⟨(fldS B).toArray⟩)) : Sem Value).run Tryd.prog w = .ok (.bool (!(decide (B = fldS B)))) w) (by kernel_rfl) (fun φ5 xs5 J w hJ hS => run_neS (x := B) (y := fldS B)), trivial⟩⟩ (by kernel_rfl) ⟨?c5_8, trivial⟩ ?k5
    case c5_8 =>
      refine kcast (A := ∀ (φ5 : Nat → Nat) (xs5 : Xs) (J8_5 : IM), I.Le J8_5 → Fun Tryd.prog 100 #[.string ⟨(B).toArray⟩] J8_5 (fun v J' => ∃ x : UX, v = .string ⟨(fldS B).toArray⟩ ∧ (True))) (by kernel_rfl) ?_
      intro φ5 xs5 J8_5 leJ
      exact Fun.mono (fold_c (l := B) hB) (fun v J' _ h => ⟨UX.d, h, trivial⟩)
    case k5 =>
      rintro φ5 xs5 I5 w5 le5 s _
      rcases Bool.eq_false_or_eq_true (decide (B = fldS B)) with hc6 | hc6
      ·
        rw [hc6]
        refine cond_false_rule (b := false) (by kernel_rfl) rfl ?_
        refine wp_seq ?_
        refine region_rule ?_
        refine ops_rule (C := []) [((φ1 0), .cells #[.int .i64 z, .string ⟨(A).toArray⟩, .string ⟨(B).toArray⟩] 39)] [] 4 [.o 0] 0 (fun φ7 => [(15, .bool (z == ((2 : Nat) : Int))), (18, .bool (z == ((2 : Nat) : Int))), (17, .int .i64 z), (16, .pointer (some ⟨(φ1 0), 0, none⟩))]) (fun φ7 => [((φ1 0), .cells #[.int .i64 z, .string ⟨(A).toArray⟩, .string ⟨(B).toArray⟩] 39)]) (fun φ7 => [(φ1 0)]) s trivial (fun φ7 => by kernel_rfl) ?_
        intro φ7 w7 s
        refine ops_done (by kernel_rfl) ?_
        rcases Bool.eq_false_or_eq_true (z == ((2 : Nat) : Int)) with hc8 | hc8
        ·
          rw [hc8]
          refine cond_true_rule (b := true) (by kernel_rfl) rfl ?_
          refine wp_seq ?_
          refine region_rule ?_
          refine ops_rule (C := []) [((φ1 0), .cells #[.int .i64 z, .string ⟨(A).toArray⟩, .string ⟨(B).toArray⟩] 39)] [] 2 [.o 0] 0 (fun φ9 => [(20, .string ⟨(B).toArray⟩), (19, .pointer (some ⟨(φ1 0), 2, none⟩))]) (fun φ9 => [((φ1 0), .cells #[.int .i64 z, .string ⟨(A).toArray⟩, .string ⟨(B).toArray⟩] 39)]) (fun φ9 => [(φ1 0)]) s trivial (fun φ9 => by kernel_rfl) ?_
          intro φ9 w9 s
          refine call_rule (some 21) s (phone_c (l := B) hB) (by kernel_rfl) ?_
          intro v10 I10 w10 le10 h10 s
          obtain rfl := h10
          refine ops_rule (C := []) [((φ1 0), .cells #[.int .i64 z, .string ⟨(A).toArray⟩, .string ⟨(B).toArray⟩] 39)] [] 1 [] 0 (fun φ11 => [(2, .bool (phone B))]) (fun φ11 => [((φ1 0), .cells #[.int .i64 z, .string ⟨(A).toArray⟩, .string ⟨(B).toArray⟩] 39)]) (fun φ11 => []) s trivial (fun φ11 => by kernel_rfl) ?_
          intro φ11 w11 s
          refine ops_done (by kernel_rfl) ?_
          refine wp_ret ?_
          refine ret_rule (C := []) [((φ1 0), .cells #[.int .i64 z, .string ⟨(A).toArray⟩, .string ⟨(B).toArray⟩] 39)] [] (.bool (phone B)) [] [] s trivial (by kernel_rfl) ?_
          have dhc8 : decide (z = 2) = true := by have h9 := hc8; simpa using h9
          have e3hc8 : decide (z = 3) = false := decide_eq_false (by have h9 := of_decide_eq_true dhc8; omega)
          exact ⟨_, _, _, rfl, s, (congrArg Value.bool (by unfold fitsB; simp only [hc2, hc6, dhc8, e3hc8, Bool.not_true, Bool.not_false, Bool.true_and, Bool.and_true, Bool.false_and, Bool.and_false, Bool.true_or, Bool.or_true, Bool.false_or, Bool.or_false]))⟩
        ·
          rw [hc8]
          refine cond_false_rule (b := false) (by kernel_rfl) rfl ?_
          refine wp_seq ?_
          refine region_rule ?_
          refine ops_rule (C := []) [((φ1 0), .cells #[.int .i64 z, .string ⟨(A).toArray⟩, .string ⟨(B).toArray⟩] 39)] [] 4 [.o 0] 0 (fun φ12 => [(22, .bool (z == ((3 : Nat) : Int))), (25, .bool (z == ((3 : Nat) : Int))), (24, .int .i64 z), (23, .pointer (some ⟨(φ1 0), 0, none⟩))]) (fun φ12 => [((φ1 0), .cells #[.int .i64 z, .string ⟨(A).toArray⟩, .string ⟨(B).toArray⟩] 39)]) (fun φ12 => [(φ1 0)]) s trivial (fun φ12 => by kernel_rfl) ?_
          intro φ12 w12 s
          refine ops_done (by kernel_rfl) ?_
          rcases Bool.eq_false_or_eq_true (z == ((3 : Nat) : Int)) with hc13 | hc13
          ·
            rw [hc13]
            refine cond_true_rule (b := true) (by kernel_rfl) rfl ?_
            refine wp_seq ?_
            refine region_rule ?_
            refine ops_rule (C := []) [((φ1 0), .cells #[.int .i64 z, .string ⟨(A).toArray⟩, .string ⟨(B).toArray⟩] 39)] [] 2 [.o 0] 0 (fun φ14 => [(27, .string ⟨(B).toArray⟩), (26, .pointer (some ⟨(φ1 0), 2, none⟩))]) (fun φ14 => [((φ1 0), .cells #[.int .i64 z, .string ⟨(A).toArray⟩, .string ⟨(B).toArray⟩] 39)]) (fun φ14 => [(φ1 0)]) s trivial (fun φ14 => by kernel_rfl) ?_
            intro φ14 w14 s
            refine call_rule (some 28) s (mail_c (l := B) hB) (by kernel_rfl) ?_
            intro v15 I15 w15 le15 h15 s
            obtain rfl := h15
            refine ops_rule (C := []) [((φ1 0), .cells #[.int .i64 z, .string ⟨(A).toArray⟩, .string ⟨(B).toArray⟩] 39)] [] 1 [] 0 (fun φ16 => [(2, .bool (mail B))]) (fun φ16 => [((φ1 0), .cells #[.int .i64 z, .string ⟨(A).toArray⟩, .string ⟨(B).toArray⟩] 39)]) (fun φ16 => []) s trivial (fun φ16 => by kernel_rfl) ?_
            intro φ16 w16 s
            refine ops_done (by kernel_rfl) ?_
            refine wp_ret ?_
            refine ret_rule (C := []) [((φ1 0), .cells #[.int .i64 z, .string ⟨(A).toArray⟩, .string ⟨(B).toArray⟩] 39)] [] (.bool (mail B)) [] [] s trivial (by kernel_rfl) ?_
            have dhc8 : decide (z = 2) = false := by have h9 := hc8; simpa using h9
            have dhc13 : decide (z = 3) = true := by have h9 := hc13; simpa using h9
            exact ⟨_, _, _, rfl, s, (congrArg Value.bool (by unfold fitsB; simp only [hc2, hc6, dhc8, dhc13, Bool.not_true, Bool.not_false, Bool.true_and, Bool.and_true, Bool.false_and, Bool.and_false, Bool.true_or, Bool.or_true, Bool.false_or, Bool.or_false]))⟩
          ·
            rw [hc13]
            refine cond_false_rule (b := false) (by kernel_rfl) rfl ?_
            refine wp_skip ?_
            refine wp_seq ?_
            refine region_rule ?_
            refine ops_rule (C := []) [((φ1 0), .cells #[.int .i64 z, .string ⟨(A).toArray⟩, .string ⟨(B).toArray⟩] 39)] [] 1 [] 0 (fun φ17 => [(2, .bool true)]) (fun φ17 => [((φ1 0), .cells #[.int .i64 z, .string ⟨(A).toArray⟩, .string ⟨(B).toArray⟩] 39)]) (fun φ17 => []) s trivial (fun φ17 => by kernel_rfl) ?_
            intro φ17 w17 s
            refine ops_done (by kernel_rfl) ?_
            refine wp_ret ?_
            refine ret_rule (C := []) [((φ1 0), .cells #[.int .i64 z, .string ⟨(A).toArray⟩, .string ⟨(B).toArray⟩] 39)] [] (.bool true) [] [] s trivial (by kernel_rfl) ?_
            have dhc8 : decide (z = 2) = false := by have h9 := hc8; simpa using h9
            have dhc13 : decide (z = 3) = false := by have h9 := hc13; simpa using h9
            exact ⟨_, _, _, rfl, s, (congrArg Value.bool (by unfold fitsB; simp only [hc2, hc6, dhc8, dhc13, Bool.not_true, Bool.not_false, Bool.true_and, Bool.and_true, Bool.false_and, Bool.and_false, Bool.true_or, Bool.or_true, Bool.false_or, Bool.or_false]))⟩
      ·
        rw [hc6]
        refine cond_true_rule (b := true) (by kernel_rfl) rfl ?_
        refine wp_seq ?_
        refine region_rule ?_
        refine ops_rule (C := []) [((φ1 0), .cells #[.int .i64 z, .string ⟨(A).toArray⟩, .string ⟨(B).toArray⟩] 39)] [] 1 [] 0 (fun φ18 => [(2, .bool false)]) (fun φ18 => [((φ1 0), .cells #[.int .i64 z, .string ⟨(A).toArray⟩, .string ⟨(B).toArray⟩] 39)]) (fun φ18 => []) s trivial (fun φ18 => by kernel_rfl) ?_
        intro φ18 w18 s
        refine ops_done (by kernel_rfl) ?_
        refine wp_ret ?_
        refine ret_rule (C := []) [((φ1 0), .cells #[.int .i64 z, .string ⟨(A).toArray⟩, .string ⟨(B).toArray⟩] 39)] [] (.bool false) [] [] s trivial (by kernel_rfl) ?_
        exact ⟨_, _, _, rfl, s, (congrArg Value.bool (by unfold fitsB; simp only [hc2, hc6, Bool.not_true, Bool.not_false, Bool.true_and, Bool.and_true, Bool.false_and, Bool.and_false, Bool.true_or, Bool.or_true, Bool.false_or, Bool.or_false]))⟩

set_option maxHeartbeats 2000000 in
theorem rightG_c {I : IM} {z : Int} {A B : List UInt8} (hA : A.length ≤ 1000000) (hB : B.length ≤ 1000000) (hN : NmT I) (hT : U8 I) : Fun Tryd.prog 22 #[.agg #[.int .i64 z, .string ⟨(A).toArray⟩, .string ⟨(B).toArray⟩]] I (fun v J => v = .int .i64 ((rtE z A B : Nat) : Int)) := by
  refine enter_rule 24 [(0, .agg #[.int .i64 z, .string ⟨(A).toArray⟩, .string ⟨(B).toArray⟩])] Tryd.func22 rfl (by kernel_rfl) ?_
  intro w s
  refine wp_seq ?_
  refine region_rule ?_
  refine ops_rule (C := []) [] [] 2 [] 1 (fun φ1 => [(2, .int .i64 0), (1, .pointer (some ⟨(φ1 0), 0, none⟩))]) (fun φ1 => [((φ1 0), .cells #[.int .i64 z, .string ⟨(A).toArray⟩, .string ⟨(B).toArray⟩] 39)]) (fun φ1 => []) s trivial (fun φ1 => by kernel_rfl) ?_
  intro φ1 w1 s
  refine ops_done (by kernel_rfl) ?_
  refine wp_seq ?_
  refine wp_seq ?_
  refine region_rule ?_
  refine ops_rule (C := []) [((φ1 0), .cells #[.int .i64 z, .string ⟨(A).toArray⟩, .string ⟨(B).toArray⟩] 39)] [] 2 [.o 0] 0 (fun φ2 => [(6, .int .i64 z), (5, .pointer (some ⟨(φ1 0), 0, none⟩))]) (fun φ2 => [((φ1 0), .cells #[.int .i64 z, .string ⟨(A).toArray⟩, .string ⟨(B).toArray⟩] 39)]) (fun φ2 => [(φ1 0)]) s trivial (fun φ2 => by kernel_rfl) ?_
  intro φ2 w2 s
  refine call_rule (some 7) s (kindName_c hN (z := z)) (by kernel_rfl) ?_
  intro v3 I3 w3 le3 h3 s
  replace hN := NmT.mono le3 hN
  replace hT := U8.mono le3 hT
  obtain rfl := h3
  refine sem_rule (binOp .eql 9 (.string ⟨(nmS z).toArray⟩) (.string ⟨(([] : List UInt8)).toArray⟩)) (some 8) (.bool (decide (nmS z = ([] : List UInt8)))) (by kernel_rfl) (run_eqS (x := nmS z) (y := ([] : List UInt8))) ?_
  refine ops_done (by kernel_rfl) ?_
  rcases Bool.eq_false_or_eq_true (decide (nmS z = ([] : List UInt8))) with hc4 | hc4
  ·
    rw [hc4]
    refine cond_true_rule (b := true) (by kernel_rfl) rfl ?_
    refine wp_seq ?_
    refine region_rule ?_
    refine ops_rule (C := []) [((φ1 0), .cells #[.int .i64 z, .string ⟨(A).toArray⟩, .string ⟨(B).toArray⟩] 39)] [] 1 [] 0 (fun φ5 => [(2, .int .i64 1)]) (fun φ5 => [((φ1 0), .cells #[.int .i64 z, .string ⟨(A).toArray⟩, .string ⟨(B).toArray⟩] 39)]) (fun φ5 => []) s trivial (fun φ5 => by kernel_rfl) ?_
    intro φ5 w5 s
    refine ops_done (by kernel_rfl) ?_
    refine wp_ret ?_
    refine ret_rule (C := []) [((φ1 0), .cells #[.int .i64 z, .string ⟨(A).toArray⟩, .string ⟨(B).toArray⟩] 39)] [] (.int .i64 1) [] [] s trivial (by kernel_rfl) ?_
    exact ⟨_, _, _, rfl, s, (congrArg (fun q : Nat => Value.int .i64 (q : Int)) (rt1 (by have h9 := of_decide_eq_true hc4; rw [nm_nil] at h9; omega)).symm)⟩
  ·
    rw [hc4]
    refine cond_false_rule (b := false) (by kernel_rfl) rfl ?_
    refine wp_skip ?_
    refine wp_seq ?_
    refine wp_seq ?_
    refine region_rule ?_
    refine ops_rule (C := []) [((φ1 0), .cells #[.int .i64 z, .string ⟨(A).toArray⟩, .string ⟨(B).toArray⟩] 39)] [] 2 [.o 0] 0 (fun φ6 => [(10, .string ⟨(A).toArray⟩), (9, .pointer (some ⟨(φ1 0), 1, none⟩))]) (fun φ6 => [((φ1 0), .cells #[.int .i64 z, .string ⟨(A).toArray⟩, .string ⟨(B).toArray⟩] 39)]) (fun φ6 => [(φ1 0)]) s trivial (fun φ6 => by kernel_rfl) ?_
    intro φ6 w6 s
    refine call_rule (some 11) s (check_c (l := A) (mi := 12) hT hA) (by kernel_rfl) ?_
    intro v7 I7 w7 le7 h7 s
    replace hN := NmT.mono le7 hN
    replace hT := U8.mono le7 hT
    obtain rfl := h7
    refine ops_rule (C := []) [((φ1 0), .cells #[.int .i64 z, .string ⟨(A).toArray⟩, .string ⟨(B).toArray⟩] 39)] [] 1 [] 0 (fun φ8 => [(3, .int .i64 ((ckE A 12 : Nat) : Int))]) (fun φ8 => [((φ1 0), .cells #[.int .i64 z, .string ⟨(A).toArray⟩, .string ⟨(B).toArray⟩] 39)]) (fun φ8 => []) s trivial (fun φ8 => by kernel_rfl) ?_
    intro φ8 w8 s
    refine ops_done (by kernel_rfl) ?_
    refine wp_seq ?_
    refine region_rule ?_
    refine ops_rule (C := []) [((φ1 0), .cells #[.int .i64 z, .string ⟨(A).toArray⟩, .string ⟨(B).toArray⟩] 39)] [] 2 [] 0 (fun φ9 => [(13, .bool (((ckE A 12 : Nat) : Int) != ((0 : Nat) : Int))), (12, .int .i64 ((ckE A 12 : Nat) : Int))]) (fun φ9 => [((φ1 0), .cells #[.int .i64 z, .string ⟨(A).toArray⟩, .string ⟨(B).toArray⟩] 39)]) (fun φ9 => []) s trivial (fun φ9 => by kernel_rfl) ?_
    intro φ9 w9 s
    rw [nat_neq (a := (ckE A 12)) (b := 0)]
    refine ops_done (by kernel_rfl) ?_
    rcases Bool.eq_false_or_eq_true (decide ((ckE A 12) ≠ 0)) with hc10 | hc10
    ·
      rw [hc10]
      refine cond_true_rule (b := true) (by kernel_rfl) rfl ?_
      refine wp_seq ?_
      refine region_rule ?_
      refine ops_rule (C := []) [((φ1 0), .cells #[.int .i64 z, .string ⟨(A).toArray⟩, .string ⟨(B).toArray⟩] 39)] [] 2 [] 0 (fun φ11 => [(2, .int .i64 ((ckE A 12 : Nat) : Int)), (14, .int .i64 ((ckE A 12 : Nat) : Int))]) (fun φ11 => [((φ1 0), .cells #[.int .i64 z, .string ⟨(A).toArray⟩, .string ⟨(B).toArray⟩] 39)]) (fun φ11 => []) s trivial (fun φ11 => by kernel_rfl) ?_
      intro φ11 w11 s
      refine ops_done (by kernel_rfl) ?_
      refine wp_ret ?_
      refine ret_rule (C := []) [((φ1 0), .cells #[.int .i64 z, .string ⟨(A).toArray⟩, .string ⟨(B).toArray⟩] 39)] [] (.int .i64 ((ckE A 12 : Nat) : Int)) [] [] s trivial (by kernel_rfl) ?_
      exact ⟨_, _, _, rfl, s, (congrArg (fun q : Nat => Value.int .i64 (q : Int)) (rt2 (by have h9 := of_decide_eq_false hc4; rw [nm_nil] at h9; omega) (of_decide_eq_true hc10)).symm)⟩
    ·
      rw [hc10]
      refine cond_false_rule (b := false) (by kernel_rfl) rfl ?_
      refine wp_skip ?_
      refine wp_seq ?_
      refine wp_seq ?_
      refine region_rule ?_
      refine ops_rule (C := []) [((φ1 0), .cells #[.int .i64 z, .string ⟨(A).toArray⟩, .string ⟨(B).toArray⟩] 39)] [] 2 [.o 0] 0 (fun φ12 => [(16, .string ⟨(B).toArray⟩), (15, .pointer (some ⟨(φ1 0), 2, none⟩))]) (fun φ12 => [((φ1 0), .cells #[.int .i64 z, .string ⟨(A).toArray⟩, .string ⟨(B).toArray⟩] 39)]) (fun φ12 => [(φ1 0)]) s trivial (fun φ12 => by kernel_rfl) ?_
      intro φ12 w12 s
      refine call_rule (some 17) s (check_c (l := B) (mi := 40) hT hB) (by kernel_rfl) ?_
      intro v13 I13 w13 le13 h13 s
      replace hN := NmT.mono le13 hN
      replace hT := U8.mono le13 hT
      obtain rfl := h13
      refine ops_rule (C := []) [((φ1 0), .cells #[.int .i64 z, .string ⟨(A).toArray⟩, .string ⟨(B).toArray⟩] 39)] [] 1 [] 0 (fun φ14 => [(4, .int .i64 ((ckE B 40 : Nat) : Int))]) (fun φ14 => [((φ1 0), .cells #[.int .i64 z, .string ⟨(A).toArray⟩, .string ⟨(B).toArray⟩] 39)]) (fun φ14 => []) s trivial (fun φ14 => by kernel_rfl) ?_
      intro φ14 w14 s
      refine ops_done (by kernel_rfl) ?_
      refine wp_seq ?_
      refine region_rule ?_
      refine ops_rule (C := []) [((φ1 0), .cells #[.int .i64 z, .string ⟨(A).toArray⟩, .string ⟨(B).toArray⟩] 39)] [] 2 [] 0 (fun φ15 => [(19, .bool (((ckE B 40 : Nat) : Int) != ((0 : Nat) : Int))), (18, .int .i64 ((ckE B 40 : Nat) : Int))]) (fun φ15 => [((φ1 0), .cells #[.int .i64 z, .string ⟨(A).toArray⟩, .string ⟨(B).toArray⟩] 39)]) (fun φ15 => []) s trivial (fun φ15 => by kernel_rfl) ?_
      intro φ15 w15 s
      rw [nat_neq (a := (ckE B 40)) (b := 0)]
      refine ops_done (by kernel_rfl) ?_
      rcases Bool.eq_false_or_eq_true (decide ((ckE B 40) ≠ 0)) with hc16 | hc16
      ·
        rw [hc16]
        refine cond_true_rule (b := true) (by kernel_rfl) rfl ?_
        refine wp_seq ?_
        refine region_rule ?_
        refine ops_rule (C := []) [((φ1 0), .cells #[.int .i64 z, .string ⟨(A).toArray⟩, .string ⟨(B).toArray⟩] 39)] [] 2 [] 0 (fun φ17 => [(2, .int .i64 ((ckE B 40 : Nat) : Int)), (20, .int .i64 ((ckE B 40 : Nat) : Int))]) (fun φ17 => [((φ1 0), .cells #[.int .i64 z, .string ⟨(A).toArray⟩, .string ⟨(B).toArray⟩] 39)]) (fun φ17 => []) s trivial (fun φ17 => by kernel_rfl) ?_
        intro φ17 w17 s
        refine ops_done (by kernel_rfl) ?_
        refine wp_ret ?_
        refine ret_rule (C := []) [((φ1 0), .cells #[.int .i64 z, .string ⟨(A).toArray⟩, .string ⟨(B).toArray⟩] 39)] [] (.int .i64 ((ckE B 40 : Nat) : Int)) [] [] s trivial (by kernel_rfl) ?_
        exact ⟨_, _, _, rfl, s, (congrArg (fun q : Nat => Value.int .i64 (q : Int)) (rt3 (by have h9 := of_decide_eq_false hc4; rw [nm_nil] at h9; omega) (by have h9 := of_decide_eq_false hc10; omega) (of_decide_eq_true hc16)).symm)⟩
      ·
        rw [hc16]
        refine cond_false_rule (b := false) (by kernel_rfl) rfl ?_
        refine wp_skip ?_
        refine wp_seq ?_
        refine wp_seq ?_
        refine region_rule ?_
        refine ops_rule (C := []) [((φ1 0), .cells #[.int .i64 z, .string ⟨(A).toArray⟩, .string ⟨(B).toArray⟩] 39)] [] 1 [.o 0, .o 0, .o 0] 0 (fun φ18 => [(21, .agg #[.int .i64 z, .string ⟨(A).toArray⟩, .string ⟨(B).toArray⟩])]) (fun φ18 => [((φ1 0), .cells #[.int .i64 z, .string ⟨(A).toArray⟩, .string ⟨(B).toArray⟩] 39)]) (fun φ18 => [(φ1 0), (φ1 0), (φ1 0)]) s trivial (fun φ18 => by kernel_rfl) ?_
        intro φ18 w18 s
        refine call_rule (some 22) s (fitsG_c (z := z) (A := A) (B := B) hA hB) (by kernel_rfl) ?_
        intro v19 I19 w19 le19 h19 s
        replace hN := NmT.mono le19 hN
        replace hT := U8.mono le19 hT
        obtain rfl := h19
        refine ops_rule (C := []) [((φ1 0), .cells #[.int .i64 z, .string ⟨(A).toArray⟩, .string ⟨(B).toArray⟩] 39)] [] 1 [] 0 (fun φ20 => [(23, .bool (!(fitsB z B)))]) (fun φ20 => [((φ1 0), .cells #[.int .i64 z, .string ⟨(A).toArray⟩, .string ⟨(B).toArray⟩] 39)]) (fun φ20 => []) s trivial (fun φ20 => by kernel_rfl) ?_
        intro φ20 w20 s
        refine ops_done (by kernel_rfl) ?_
        rcases Bool.eq_false_or_eq_true (fitsB z B) with hc21 | hc21
        ·
          rw [hc21]
          refine cond_false_rule (b := false) (by kernel_rfl) rfl ?_
          refine wp_skip ?_
          refine wp_seq ?_
          refine region_rule ?_
          refine ops_rule (C := []) [((φ1 0), .cells #[.int .i64 z, .string ⟨(A).toArray⟩, .string ⟨(B).toArray⟩] 39)] [] 1 [] 0 (fun φ22 => [(2, .int .i64 0)]) (fun φ22 => [((φ1 0), .cells #[.int .i64 z, .string ⟨(A).toArray⟩, .string ⟨(B).toArray⟩] 39)]) (fun φ22 => []) s trivial (fun φ22 => by kernel_rfl) ?_
          intro φ22 w22 s
          refine ops_done (by kernel_rfl) ?_
          refine wp_ret ?_
          refine ret_rule (C := []) [((φ1 0), .cells #[.int .i64 z, .string ⟨(A).toArray⟩, .string ⟨(B).toArray⟩] 39)] [] (.int .i64 0) [] [] s trivial (by kernel_rfl) ?_
          exact ⟨_, _, _, rfl, s, (congrArg (fun q : Nat => Value.int .i64 (q : Int)) (rt5 (by have h9 := of_decide_eq_false hc4; rw [nm_nil] at h9; omega) (by have h9 := of_decide_eq_false hc10; omega) (by have h9 := of_decide_eq_false hc16; omega) hc21).symm)⟩
        ·
          rw [hc21]
          refine cond_true_rule (b := true) (by kernel_rfl) rfl ?_
          refine wp_seq ?_
          refine region_rule ?_
          refine ops_rule (C := []) [((φ1 0), .cells #[.int .i64 z, .string ⟨(A).toArray⟩, .string ⟨(B).toArray⟩] 39)] [] 1 [] 0 (fun φ23 => [(2, .int .i64 7)]) (fun φ23 => [((φ1 0), .cells #[.int .i64 z, .string ⟨(A).toArray⟩, .string ⟨(B).toArray⟩] 39)]) (fun φ23 => []) s trivial (fun φ23 => by kernel_rfl) ?_
          intro φ23 w23 s
          refine ops_done (by kernel_rfl) ?_
          refine wp_ret ?_
          refine ret_rule (C := []) [((φ1 0), .cells #[.int .i64 z, .string ⟨(A).toArray⟩, .string ⟨(B).toArray⟩] 39)] [] (.int .i64 7) [] [] s trivial (by kernel_rfl) ?_
          exact ⟨_, _, _, rfl, s, (congrArg (fun q : Nat => Value.int .i64 (q : Int)) (rt4 (by have h9 := of_decide_eq_false hc4; rw [nm_nil] at h9; omega) (by have h9 := of_decide_eq_false hc10; omega) (by have h9 := of_decide_eq_false hc16; omega) hc21).symm)⟩

end Go.Proofs.YtcpmjogeafhpnaaDoor.Tx
