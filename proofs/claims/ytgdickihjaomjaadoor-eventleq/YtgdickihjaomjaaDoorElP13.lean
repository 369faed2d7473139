/- The document's Make of events; made. -/
import Derived.Test.YtgdickihjaomjaaDoorElP12
set_option linter.all false
set_option maxRecDepth 100000
namespace Go.Proofs.YtgdickihjaomjaaDoor
open Go.RowKit Go.Sep

theorem nat_quo8 {a b : Nat} (h : a < 256) : IntKind.wrap .u8 (Int.tdiv (a : Int) (b : Int)) = ((a / b : Nat) : Int) := by
  have e : Int.tdiv (a : Int) (b : Int) = ((a / b : Nat) : Int) := rfl
  have : a / b ≤ a := Nat.div_le_self a b
  rw [e]
  generalize a / b = q at this
  exact wrapU8 (by omega) (by omega)

set_option maxHeartbeats 2000000 in
theorem makeE_step {I : IM} {m : Nat} {xs : List UInt8} {v : Value} (hv : BSl I xs v) (hm9 : m ≤ 100) (ih : ¬ m = 0 → ∀ {J : IM} {xs : List UInt8} {v : Value}, BSl J xs v → Fun Tryd.prog 68 #[v, .int .i64 ((m - 1 : Nat) : Int)] J (fun v J => ∃ k v' t l', v = .tuple #[.pointer (some ⟨k, 0, none⟩), v'] ∧ (t.nf ∧ t.depth ≤ m - 1 ∧ t.top ≤ 7 + 3 * (m - 1)) ∧ RE J t k ∧ BSl J l' v')) : Fun Tryd.prog 68 #[v, .int .i64 ((m : Nat) : Int)] I (fun v J => ∃ k v' t l', v = .tuple #[.pointer (some ⟨k, 0, none⟩), v'] ∧ (t.nf ∧ t.depth ≤ m ∧ t.top ≤ 7 + 3 * m) ∧ RE J t k ∧ BSl J l' v') := by
  cases xs with
  | nil =>
    obtain ⟨a, cap, rfl, hcap, -⟩ := hv
    simp only [List.length_nil]
    refine enter_rule 53 [(0, .slice a 0 cap), (1, .int .i64 ((m : Nat) : Int))] Tryd.func68 rfl (by kernel_rfl) ?_
    intro w s
    refine wp_seq ?_
    refine region_rule ?_
    refine ops_rule (C := []) [] [] 2 [] 0 (fun φ1 => [(5, .slice none 0 0), (4, .pointer none)]) (fun φ1 => []) (fun φ1 => []) s trivial (fun φ1 => by kernel_rfl) ?_
    intro φ1 w1 s
    refine ops_done (by kernel_rfl) ?_
    refine wp_seq ?_
    refine wp_seq ?_
    refine region_rule ?_
    refine ops_rule (C := []) [] [] 3 [] 0 (fun φ2 => [(11, .bool true), (10, .int .i64 0), (9, .slice a 0 cap)]) (fun φ2 => []) (fun φ2 => []) s trivial (fun φ2 => by kernel_rfl) ?_
    intro φ2 w2 s
    refine ops_done (by kernel_rfl) ?_
    refine cond_true_rule (b := true) (by kernel_rfl) rfl ?_
    refine wp_seq ?_
    refine region_rule ?_
    refine call_rule (some 12) s (rleaf_c (n := 0)) (by kernel_rfl) ?_
    intro v3 I3 w3 le3 h3 s
    obtain ⟨k3, rfl, h3_0⟩ := h3
    refine ops_rule (C := []) [] [] 2 [] 0 (fun φ4 => [(5, .slice none 0 0), (4, .pointer (some ⟨k3, 0, none⟩))]) (fun φ4 => []) (fun φ4 => []) s trivial (fun φ4 => by kernel_rfl) ?_
    intro φ4 w4 s
    refine ops_done (by kernel_rfl) ?_
    refine wp_ret ?_
    refine ret_rule (C := []) [] [] (.tuple #[.pointer (some ⟨k3, 0, none⟩), .slice none 0 0]) [] [] s trivial (by kernel_rfl) ?_
    exact ⟨_, _, _, rfl, s, ⟨_, _, E.leaf 0, [], rfl, ⟨trivial, Nat.zero_le _, Nat.zero_le _⟩, h3_0, bsl_nil _⟩⟩
  | cons x l =>
    obtain ⟨b, o, cap, cs, T9, fr, rfl, hcap, hcs, hx, hrest⟩ := bsl_cons hv
    clear hv
    have hx8 : x.toNat < 256 := x.toNat_lt
    refine enter_rule 53 [(0, .slice (some ⟨b, o, none⟩) (l.length + 1) cap), (1, .int .i64 ((m : Nat) : Int))] Tryd.func68 rfl (by kernel_rfl) ?_
    intro w s
    refine wp_seq ?_
    refine region_rule ?_
    refine ops_rule (C := []) [] [] 2 [] 0 (fun φ1 => [(5, .slice none 0 0), (4, .pointer none)]) (fun φ1 => []) (fun φ1 => []) s trivial (fun φ1 => by kernel_rfl) ?_
    intro φ1 w1 s
    refine ops_done (by kernel_rfl) ?_
    refine wp_seq ?_
    refine wp_seq ?_
    refine region_rule ?_
    refine ops_rule (C := []) [] [] 3 [] 0 (fun φ2 => [(11, .bool ((((l.length + 1) : Nat) : Int) == ((0 : Nat) : Int))), (10, .int .i64 (((l.length + 1) : Nat) : Int)), (9, .slice (some ⟨b, o, none⟩) (l.length + 1) cap)]) (fun φ2 => []) (fun φ2 => []) s trivial (fun φ2 => by kernel_rfl) ?_
    intro φ2 w2 s
    rw [nat_eql (a := (l.length + 1)) (b := 0)]
    refine ops_done (by kernel_rfl) ?_
    rcases Bool.eq_false_or_eq_true (decide ((l.length + 1) = 0)) with hc3 | hc3
    ·
      exact absurd (of_decide_eq_true hc3) (by omega)
    ·
      rw [hc3]
      refine cond_false_rule (b := false) (by kernel_rfl) rfl ?_
      refine wp_skip ?_
      refine wp_seq ?_
      refine region_rule ?_
      refine ops_rule (C := []) [] [] 1 [] 0 (fun φ4 => [(13, .slice (some ⟨b, o, none⟩) (l.length + 1) cap)]) (fun φ4 => []) (fun φ4 => []) s trivial (fun φ4 => by kernel_rfl) ?_
      intro φ4 w4 s
      refine sem_rule (Instr.indexAt 22 (.slice (some ⟨b, o, none⟩) (l.length + 1) cap) (.int .i64 0)) (some 14) (.pointer (some ⟨b, o, none⟩)) (by kernel_rfl) (run_first) ?_
      refine sem_rule (Instr.loadAt 5 (.pointer (some ⟨b, o, none⟩))) (some 15) (.int .u8 ((x.toNat : Nat) : Int)) (by kernel_rfl) (run_loadB (s.sub _ _ hcs) hx) ?_
      refine ops_rule (C := []) [] [] 1 [] 0 (fun φ5 => [(6, .int .u8 ((x.toNat : Nat) : Int))]) (fun φ5 => []) (fun φ5 => []) s trivial (fun φ5 => by kernel_rfl) ?_
      intro φ5 w5 s
      refine ops_done (by kernel_rfl) ?_
      refine wp_seq ?_
      refine region_rule ?_
      refine ops_rule (C := []) [] [] 1 [] 0 (fun φ6 => [(16, .slice (some ⟨b, o, none⟩) (l.length + 1) cap)]) (fun φ6 => []) (fun φ6 => []) s trivial (fun φ6 => by kernel_rfl) ?_
      intro φ6 w6 s
      refine sem_rule (Instr.sliceAt 22 (.slice (some ⟨b, o, none⟩) (l.length + 1) cap) (some (.int .i64 1)) none none) (some 17) (.slice (if cap = 1 then some ⟨b, o, none⟩ else some ⟨b, o + 1, none⟩) l.length (cap - 1)) (by kernel_rfl) (run_rest hcap) ?_
      refine ops_rule (C := []) [] [] 1 [] 0 (fun φ7 => [(0, .slice (if cap = 1 then some ⟨b, o, none⟩ else some ⟨b, o + 1, none⟩) l.length (cap - 1))]) (fun φ7 => []) (fun φ7 => []) s trivial (fun φ7 => by kernel_rfl) ?_
      intro φ7 w7 s
      refine ops_done (by kernel_rfl) ?_
      refine wp_seq ?_
      refine wp_seq ?_
      refine region_rule ?_
      refine ops_rule (C := []) [] [] 3 [] 0 (fun φ8 => [(20, .bool (((m : Nat) : Int) == ((0 : Nat) : Int))), (19, .bool (((m : Nat) : Int) == ((0 : Nat) : Int))), (18, .int .i64 ((m : Nat) : Int))]) (fun φ8 => []) (fun φ8 => []) s trivial (fun φ8 => by kernel_rfl) ?_
      intro φ8 w8 s
      rw [nat_eql (a := m) (b := 0)]
      rcases Bool.eq_false_or_eq_true (decide (m = 0)) with hc9 | hc9
      ·
        rw [hc9]
        refine ops_rule (C := []) [] [] 4 [] 0 (fun φ10 => [(24, .bool true), (23, undef), (22, undef), (21, undef)]) (fun φ10 => []) (fun φ10 => []) s trivial (fun φ10 => by kernel_rfl) ?_
        intro φ10 w10 s
        refine ops_done (by kernel_rfl) ?_
        refine cond_true_rule (b := true) (by kernel_rfl) rfl ?_
        refine wp_seq ?_
        refine region_rule ?_
        refine ops_rule (C := []) [] [] 4 [] 0 (fun φ11 => [(28, .int .u64 (IntKind.wrap .u64 (Int.tmod (IntKind.wrap .u8 (Int.tdiv ((x.toNat : Nat) : Int) ((4 : Nat) : Int))) ((8 : Nat) : Int)))), (27, .int .u8 (Int.tmod (IntKind.wrap .u8 (Int.tdiv ((x.toNat : Nat) : Int) ((4 : Nat) : Int))) ((8 : Nat) : Int))), (26, .int .u8 (IntKind.wrap .u8 (Int.tdiv ((x.toNat : Nat) : Int) ((4 : Nat) : Int)))), (25, .int .u8 ((x.toNat : Nat) : Int))]) (fun φ11 => []) (fun φ11 => []) s trivial (fun φ11 => by kernel_rfl) ?_
        intro φ11 w11 s
        rw [nat_quo8 (a := x.toNat) (b := 4) (by have hq0 := of_decide_eq_false hc3; have hq1 := of_decide_eq_true hc9; omega)]
        rw [nat_rem (a := (x.toNat / 4)) (b := 8)]
        rw [nat_wrapU (a := ((x.toNat / 4) % 8)) (by have hq0 := of_decide_eq_false hc3; have hq1 := of_decide_eq_true hc9; omega)]
        refine call_rule (some 29) s (rleaf_c (n := ((x.toNat / 4) % 8))) (by kernel_rfl) ?_
        intro v12 I12 w12 le12 h12 s
        replace hrest := BSl.mono le12 hrest
        replace hcs := le12 _ _ hcs
        obtain ⟨k12, rfl, h12_0⟩ := h12
        refine ops_rule (C := []) [] [] 3 [] 0 (fun φ13 => [(5, .slice (if cap = 1 then some ⟨b, o, none⟩ else some ⟨b, o + 1, none⟩) l.length (cap - 1)), (4, .pointer (some ⟨k12, 0, none⟩)), (30, .slice (if cap = 1 then some ⟨b, o, none⟩ else some ⟨b, o + 1, none⟩) l.length (cap - 1))]) (fun φ13 => []) (fun φ13 => []) s trivial (fun φ13 => by kernel_rfl) ?_
        intro φ13 w13 s
        refine ops_done (by kernel_rfl) ?_
        refine wp_ret ?_
        refine ret_rule (C := []) [] [] (.tuple #[.pointer (some ⟨k12, 0, none⟩), .slice (if cap = 1 then some ⟨b, o, none⟩ else some ⟨b, o + 1, none⟩) l.length (cap - 1)]) [] [] s trivial (by kernel_rfl) ?_
        exact ⟨_, _, _, rfl, s, ⟨_, _, (E.leaf ((x.toNat / 4) % 8)), _, rfl, ⟨trivial, Nat.zero_le _, show ((x.toNat / 4) % 8) ≤ 7 + 3 * m by omega⟩, h12_0, hrest⟩⟩
      ·
        rw [hc9]
        refine ops_rule (C := []) [] [] 4 [] 0 (fun φ14 => [(24, .bool (decide ((Int.tmod ((x.toNat : Nat) : Int) ((4 : Nat) : Int)) < ((2 : Nat) : Int)))), (23, .bool (decide ((Int.tmod ((x.toNat : Nat) : Int) ((4 : Nat) : Int)) < ((2 : Nat) : Int)))), (22, .int .u8 (Int.tmod ((x.toNat : Nat) : Int) ((4 : Nat) : Int))), (21, .int .u8 ((x.toNat : Nat) : Int))]) (fun φ14 => []) (fun φ14 => []) s trivial (fun φ14 => by kernel_rfl) ?_
        intro φ14 w14 s
        rw [nat_rem (a := x.toNat) (b := 4)]
        rw [nat_lss (a := (x.toNat % 4)) (b := 2)]
        refine ops_done (by kernel_rfl) ?_
        rcases Bool.eq_false_or_eq_true (decide ((x.toNat % 4) < 2)) with hc15 | hc15
        ·
          rw [hc15]
          refine cond_true_rule (b := true) (by kernel_rfl) rfl ?_
          refine wp_seq ?_
          refine region_rule ?_
          refine ops_rule (C := []) [] [] 4 [] 0 (fun φ16 => [(28, .int .u64 (IntKind.wrap .u64 (Int.tmod (IntKind.wrap .u8 (Int.tdiv ((x.toNat : Nat) : Int) ((4 : Nat) : Int))) ((8 : Nat) : Int)))), (27, .int .u8 (Int.tmod (IntKind.wrap .u8 (Int.tdiv ((x.toNat : Nat) : Int) ((4 : Nat) : Int))) ((8 : Nat) : Int))), (26, .int .u8 (IntKind.wrap .u8 (Int.tdiv ((x.toNat : Nat) : Int) ((4 : Nat) : Int)))), (25, .int .u8 ((x.toNat : Nat) : Int))]) (fun φ16 => []) (fun φ16 => []) s trivial (fun φ16 => by kernel_rfl) ?_
          intro φ16 w16 s
          rw [nat_quo8 (a := x.toNat) (b := 4) (by have hq0 := of_decide_eq_false hc3; have hq1 := of_decide_eq_false hc9; have hq2 := of_decide_eq_true hc15; omega)]
          rw [nat_rem (a := (x.toNat / 4)) (b := 8)]
          rw [nat_wrapU (a := ((x.toNat / 4) % 8)) (by have hq0 := of_decide_eq_false hc3; have hq1 := of_decide_eq_false hc9; have hq2 := of_decide_eq_true hc15; omega)]
          refine call_rule (some 29) s (rleaf_c (n := ((x.toNat / 4) % 8))) (by kernel_rfl) ?_
          intro v17 I17 w17 le17 h17 s
          replace hrest := BSl.mono le17 hrest
          replace hcs := le17 _ _ hcs
          obtain ⟨k17, rfl, h17_0⟩ := h17
          refine ops_rule (C := []) [] [] 3 [] 0 (fun φ18 => [(5, .slice (if cap = 1 then some ⟨b, o, none⟩ else some ⟨b, o + 1, none⟩) l.length (cap - 1)), (4, .pointer (some ⟨k17, 0, none⟩)), (30, .slice (if cap = 1 then some ⟨b, o, none⟩ else some ⟨b, o + 1, none⟩) l.length (cap - 1))]) (fun φ18 => []) (fun φ18 => []) s trivial (fun φ18 => by kernel_rfl) ?_
          intro φ18 w18 s
          refine ops_done (by kernel_rfl) ?_
          refine wp_ret ?_
          refine ret_rule (C := []) [] [] (.tuple #[.pointer (some ⟨k17, 0, none⟩), .slice (if cap = 1 then some ⟨b, o, none⟩ else some ⟨b, o + 1, none⟩) l.length (cap - 1)]) [] [] s trivial (by kernel_rfl) ?_
          exact ⟨_, _, _, rfl, s, ⟨_, _, (E.leaf ((x.toNat / 4) % 8)), _, rfl, ⟨trivial, Nat.zero_le _, show ((x.toNat / 4) % 8) ≤ 7 + 3 * m by omega⟩, h17_0, hrest⟩⟩
        ·
          rw [hc15]
          refine cond_false_rule (b := false) (by kernel_rfl) rfl ?_
          refine wp_skip ?_
          refine wp_seq ?_
          refine region_rule ?_
          refine ops_rule (C := []) [] [] 3 [] 0 (fun φ19 => [(34, .int .i64 (IntKind.wrap .i64 (((m : Nat) : Int) - ((1 : Nat) : Int)))), (33, .int .i64 ((m : Nat) : Int)), (32, .slice (if cap = 1 then some ⟨b, o, none⟩ else some ⟨b, o + 1, none⟩) l.length (cap - 1))]) (fun φ19 => []) (fun φ19 => []) s trivial (fun φ19 => by kernel_rfl) ?_
          intro φ19 w19 s
          rw [nat_subI (a := m) (b := 1) (by have hq0 := of_decide_eq_false hc3; have hq1 := of_decide_eq_false hc9; have hq2 := of_decide_eq_false hc15; omega) (by have hq0 := of_decide_eq_false hc3; have hq1 := of_decide_eq_false hc9; have hq2 := of_decide_eq_false hc15; omega)]
          refine call_rule (some 35) s (ih (of_decide_eq_false hc9) hrest) (by kernel_rfl) ?_
          intro v20 I20 w20 le20 h20 s
          replace hrest := BSl.mono le20 hrest
          replace hcs := le20 _ _ hcs
          obtain ⟨k20, v20, t20, l20, rfl, h20_0, h20_1, h20_2⟩ := h20
          refine ops_rule (C := []) [] [] 5 [] 0 (fun φ21 => [(0, v20), (7, .pointer (some ⟨k20, 0, none⟩)), (37, v20), (36, .pointer (some ⟨k20, 0, none⟩)), (31, .tuple #[.pointer (some ⟨k20, 0, none⟩), v20])]) (fun φ21 => []) (fun φ21 => []) s trivial (fun φ21 => by kernel_rfl) ?_
          intro φ21 w21 s
          refine ops_done (by kernel_rfl) ?_
          refine wp_seq ?_
          refine region_rule ?_
          refine ops_rule (C := []) [] [] 3 [] 0 (fun φ22 => [(41, .int .i64 (IntKind.wrap .i64 (((m : Nat) : Int) - ((1 : Nat) : Int)))), (40, .int .i64 ((m : Nat) : Int)), (39, v20)]) (fun φ22 => []) (fun φ22 => []) s trivial (fun φ22 => by kernel_rfl) ?_
          intro φ22 w22 s
          rw [nat_subI (a := m) (b := 1) (by have hq0 := of_decide_eq_false hc3; have hq1 := of_decide_eq_false hc9; have hq2 := of_decide_eq_false hc15; omega) (by have hq0 := of_decide_eq_false hc3; have hq1 := of_decide_eq_false hc9; have hq2 := of_decide_eq_false hc15; omega)]
          refine call_rule (some 42) s (ih (of_decide_eq_false hc9) h20_2) (by kernel_rfl) ?_
          intro v23 I23 w23 le23 h23 s
          replace hrest := BSl.mono le23 hrest
          replace h20_1 := RE.mono le23 h20_1
          replace h20_2 := BSl.mono le23 h20_2
          replace hcs := le23 _ _ hcs
          obtain ⟨k23, v23, t23, l23, rfl, h23_0, h23_1, h23_2⟩ := h23
          refine ops_rule (C := []) [] [] 5 [] 0 (fun φ24 => [(0, v23), (8, .pointer (some ⟨k23, 0, none⟩)), (44, v23), (43, .pointer (some ⟨k23, 0, none⟩)), (38, .tuple #[.pointer (some ⟨k23, 0, none⟩), v23])]) (fun φ24 => []) (fun φ24 => []) s trivial (fun φ24 => by kernel_rfl) ?_
          intro φ24 w24 s
          refine ops_done (by kernel_rfl) ?_
          refine wp_seq ?_
          refine region_rule ?_
          refine ops_rule (C := []) [] [] 6 [] 0 (fun φ25 => [(50, .pointer (some ⟨k23, 0, none⟩)), (49, .pointer (some ⟨k20, 0, none⟩)), (48, .int .u64 (IntKind.wrap .u64 (Int.tmod (IntKind.wrap .u8 (Int.tdiv ((x.toNat : Nat) : Int) ((4 : Nat) : Int))) ((4 : Nat) : Int)))), (47, .int .u8 (Int.tmod (IntKind.wrap .u8 (Int.tdiv ((x.toNat : Nat) : Int) ((4 : Nat) : Int))) ((4 : Nat) : Int))), (46, .int .u8 (IntKind.wrap .u8 (Int.tdiv ((x.toNat : Nat) : Int) ((4 : Nat) : Int)))), (45, .int .u8 ((x.toNat : Nat) : Int))]) (fun φ25 => []) (fun φ25 => []) s trivial (fun φ25 => by kernel_rfl) ?_
          intro φ25 w25 s
          rw [nat_quo8 (a := x.toNat) (b := 4) (by have hq0 := of_decide_eq_false hc3; have hq1 := of_decide_eq_false hc9; have hq2 := of_decide_eq_false hc15; omega)]
          rw [nat_rem (a := (x.toNat / 4)) (b := 4)]
          rw [nat_wrapU (a := ((x.toNat / 4) % 4)) (by have hq0 := of_decide_eq_false hc3; have hq1 := of_decide_eq_false hc9; have hq2 := of_decide_eq_false hc15; omega)]
          refine call_rule (some 51) s (rnode_c (n := ((x.toNat / 4) % 4)) h20_1 h23_1 h20_0.1 h23_0.1 (by have h8 := h20_0.2.2; have h9 := h23_0.2.2; omega)) (by kernel_rfl) ?_
          intro v26 I26 w26 le26 h26 s
          replace hrest := BSl.mono le26 hrest
          replace h20_1 := RE.mono le26 h20_1
          replace h20_2 := BSl.mono le26 h20_2
          replace h23_1 := RE.mono le26 h23_1
          replace h23_2 := BSl.mono le26 h23_2
          replace hcs := le26 _ _ hcs
          obtain ⟨k26, rfl, h26_0⟩ := h26
          refine ops_rule (C := []) [] [] 3 [] 0 (fun φ27 => [(5, v23), (4, .pointer (some ⟨k26, 0, none⟩)), (52, v23)]) (fun φ27 => []) (fun φ27 => []) s trivial (fun φ27 => by kernel_rfl) ?_
          intro φ27 w27 s
          refine ops_done (by kernel_rfl) ?_
          refine wp_ret ?_
          refine ret_rule (C := []) [] [] (.tuple #[.pointer (some ⟨k26, 0, none⟩), v23]) [] [] s trivial (by kernel_rfl) ?_
          exact ⟨_, _, _, rfl, s, ⟨_, _, (E.mk ((x.toNat / 4) % 4) t20 t23), _, rfl, ⟨E.nf_mk h20_0.1 h23_0.1, by have hm := of_decide_eq_false hc9; have h1 := E.mk_depth ((x.toNat / 4) % 4) t20 t23; have h2 := h20_0.2.1; have h3 := h23_0.2.1; omega, by have hm := of_decide_eq_false hc9; have h1 := E.mk_top ((x.toNat / 4) % 4) t20 t23; have h2 := h20_0.2.2; have h3 := h23_0.2.2; omega⟩, h26_0, h23_2⟩⟩

theorem makeE_c : ∀ (m : Nat) {I : IM} {xs : List UInt8} {v : Value}, m ≤ 100 → BSl I xs v → Fun Tryd.prog 68 #[v, .int .i64 ((m : Nat) : Int)] I (fun v J => ∃ k v' t l', v = .tuple #[.pointer (some ⟨k, 0, none⟩), v'] ∧ (t.nf ∧ t.depth ≤ m ∧ t.top ≤ 7 + 3 * m) ∧ RE J t k ∧ BSl J l' v')
  | 0, _, _, _, h, hv => makeE_step hv h (fun h => absurd rfl h)
  | m + 1, _, _, _, h, hv => makeE_step hv h (fun _ {J} {xs} {v} k => makeE_c m (by omega) k)

end Go.Proofs.YtgdickihjaomjaaDoor
