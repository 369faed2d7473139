/- The document's Make of events; made. -/
import Derived.Test.YtgmigcmhnmmdkaaCoM17
import Derived.Test.YtgmigcmhnmmdkaaCoM13
import Derived.Test.YtgmigcmhnmmdkaaCoM16
import Derived.Test.YtgmigcmhnmmdkaaCoS13
import Derived.Test.YtgmigcmhnmmdkaaCoS11
import Derived.OrdersHeld
import Derived.Scope
set_option linter.all false
set_option maxRecDepth 100000
namespace Go.Proofs.Ytgmigcmhnmmdkaa.Ev
open Go.RowKit Go.Sep

theorem nat_quo8 {a b : Nat} (h : a < 256) : IntKind.wrap .u8 (Int.tdiv (a : Int) (b : Int)) = ((a / b : Nat) : Int) := by
  have e : Int.tdiv (a : Int) (b : Int) = ((a / b : Nat) : Int) := rfl
  have : a / b ≤ a := Nat.div_le_self a b
  rw [e]
  generalize a / b = q at this
  exact wrapU8 (by omega) (by omega)

set_option maxHeartbeats 2000000 in
theorem makeE_step {I : IM} {m : Nat} {xs : List UInt8} {v : Value} (hv : BSl I xs v) (hm9 : m ≤ 100) (ih : ¬ m = 0 → ∀ {J : IM} {xs : List UInt8} {v : Value}, BSl J xs v → Fun Try.prog 34 #[v, .int .i64 ((m - 1 : Nat) : Int)] J (fun v J => ∃ k v' t l', v = .tuple #[.pointer (some ⟨k, 0, none⟩), v'] ∧ (t.nf ∧ t.depth ≤ m - 1 ∧ t.top ≤ 7 + 3 * (m - 1)) ∧ RE J t k ∧ BSl J l' v')) : Fun Try.prog 34 #[v, .int .i64 ((m : Nat) : Int)] I (fun v J => ∃ k v' t l', v = .tuple #[.pointer (some ⟨k, 0, none⟩), v'] ∧ (t.nf ∧ t.depth ≤ m ∧ t.top ≤ 7 + 3 * m) ∧ RE J t k ∧ BSl J l' v') := by
  cases xs with
  | nil =>
    obtain ⟨a, cap, rfl, hcap, -⟩ := hv
    simp only [List.length_nil]
    refine enter_rule 53 [(0, .slice a 0 cap), (1, .int .i64 ((m : Nat) : Int))] Try.func34 rfl (by kernel_rfl) ?_
    intro w s
    refine wp_seq ?_
    refine region_rule ?_
    refine ops_rule (C := []) [] [] 2 [] 0 (fun φ1 => [(5, .slice none 0 0), (4, .pointer none)]) (fun φ1 => []) (fun φ1 => []) s trivial (fun φ1 => by kernel_rfl) ?_
    intro φ1 w1 s
    refine ops_done (by kernel_rfl) ?_
    refine wp_seq ?_
    refine wp_seq ?_
    refine region_rule ?_
    refine ops_rule (C := []) [] [] 3 [] 0 (fun φ2 => [(11, .bool true), (10, .int .i64 0), (9, .slice a 0 cap)]) (fun φ2 => []) (fun φ2 => []) s trivial (fun φ2 => by kernel_rfl) ?_
    intro φ2 w2 s
    refine ops_done (by kernel_rfl) ?_
    refine cond_true_rule (b := true) (by kernel_rfl) rfl ?_
    refine wp_seq ?_
    refine region_rule ?_
    refine call_rule (some 12) s (rleaf_c (n := 0)) (by kernel_rfl) ?_
    intro v3 I3 w3 le3 h3 s
    obtain ⟨k3, rfl, h3_0⟩ := h3
    refine ops_rule (C := []) [] [] 2 [] 0 (fun φ4 => [(5, .slice none 0 0), (4, .pointer (some ⟨k3, 0, none⟩))]) (fun φ4 => []) (fun φ4 => []) s trivial (fun φ4 => by kernel_rfl) ?_
    intro φ4 w4 s
    refine ops_done (by kernel_rfl) ?_
    refine wp_ret ?_
    refine ret_rule (C := []) [] [] (.tuple #[.pointer (some ⟨k3, 0, none⟩), .slice none 0 0]) [] [] s trivial (by kernel_rfl) ?_
    exact ⟨_, _, _, rfl, s, ⟨_, _, E.leaf 0, [], rfl, ⟨trivial, Nat.zero_le _, Nat.zero_le _⟩, h3_0, bsl_nil _⟩⟩
  | cons x l =>
    obtain ⟨b, o, cap, cs, T9, fr, rfl, hcap, hcs, hx, hrest⟩ := bsl_cons hv
    clear hv
    have hx8 : x.toNat < 256 := x.toNat_lt
    refine enter_rule 53 [(0, .slice (some ⟨b, o, none⟩) (l.length + 1) cap), (1, .int .i64 ((m : Nat) : Int))] Try.func34 rfl (by kernel_rfl) ?_
    intro w s
    refine wp_seq ?_
    refine region_rule ?_
    refine ops_rule (C := []) [] [] 2 [] 0 (fun φ1 => [(5, .slice none 0 0), (4, .pointer none)]) (fun φ1 => []) (fun φ1 => []) s trivial (fun φ1 => by kernel_rfl) ?_
    intro φ1 w1 s
    refine ops_done (by kernel_rfl) ?_
    refine wp_seq ?_
    refine wp_seq ?_
    refine region_rule ?_
    refine ops_rule (C := []) [] [] 3 [] 0 (fun φ2 => [(11, .bool ((((l.length + 1) : Nat) : Int) == ((0 : Nat) : Int))), (10, .int .i64 (((l.length + 1) : Nat) : Int)), (9, .slice (some ⟨b, o, none⟩) (l.length + 1) cap)]) (fun φ2 => []) (fun φ2 => []) s trivial (fun φ2 => by kernel_rfl) ?_
    intro φ2 w2 s
    rw [nat_eql (a := (l.length + 1)) (b := 0)]
    refine ops_done (by kernel_rfl) ?_
    rcases Bool.eq_false_or_eq_true (decide ((l.length + 1) = 0)) with hc3 | hc3
    ·
      exact absurd (of_decide_eq_true hc3) (by omega)
    ·
      rw [hc3]
      refine cond_false_rule (b := false) (by kernel_rfl) rfl ?_
      refine wp_skip ?_
      refine wp_seq ?_
      refine region_rule ?_
      refine ops_rule (C := []) [] [] 1 [] 0 (fun φ4 => [(13, .slice (some ⟨b, o, none⟩) (l.length + 1) cap)]) (fun φ4 => []) (fun φ4 => []) s trivial (fun φ4 => by kernel_rfl) ?_
      intro φ4 w4 s
      refine sem_rule (Instr.indexAt 22 (.slice (some ⟨b, o, none⟩) (l.length + 1) cap) (.int .i64 0)) (some 14) (.pointer (some ⟨b, o, none⟩)) (by kernel_rfl) (run_first) ?_
      refine sem_rule (Instr.loadAt 5 (.pointer (some ⟨b, o, none⟩))) (some 15) (.int .u8 ((x.toNat : Nat) : Int)) (by kernel_rfl) (run_loadB (s.sub _ _ hcs) hx) ?_
      refine ops_rule (C := []) [] [] 1 [] 0 (fun φ5 => [(6, .int .u8 ((x.toNat : Nat) : Int))]) (fun φ5 => []) (fun φ5 => []) s trivial (fun φ5 => by kernel_rfl) ?_
      intro φ5 w5 s
      refine ops_done (by kernel_rfl) ?_
      refine wp_seq ?_
      refine region_rule ?_
      refine ops_rule (C := []) [] [] 1 [] 0 (fun φ6 => [(16, .slice (some ⟨b, o, none⟩) (l.length + 1) cap)]) (fun φ6 => []) (fun φ6 => []) s trivial (fun φ6 => by kernel_rfl) ?_
      intro φ6 w6 s
      refine sem_rule (Instr.sliceAt 22 (.slice (some ⟨b, o, none⟩) (l.length + 1) cap) (some (.int .i64 1)) none none) (some 17) (.slice (if cap = 1 then some ⟨b, o, none⟩ else some ⟨b, o + 1, none⟩) l.length (cap - 1)) (by kernel_rfl) (run_rest hcap) ?_
      refine ops_rule (C := []) [] [] 1 [] 0 (fun φ7 => [(0, .slice (if cap = 1 then some ⟨b, o, none⟩ else some ⟨b, o + 1, none⟩) l.length (cap - 1))]) (fun φ7 => []) (fun φ7 => []) s trivial (fun φ7 => by kernel_rfl) ?_
      intro φ7 w7 s
      refine ops_done (by kernel_rfl) ?_
      refine wp_seq ?_
      refine wp_seq ?_
      refine region_rule ?_
      refine ops_rule (C := []) [] [] 3 [] 0 (fun φ8 => [(20, .bool (((m : Nat) : Int) == ((0 : Nat) : Int))), (19, .bool (((m : Nat) : Int) == ((0 : Nat) : Int))), (18, .int .i64 ((m : Nat) : Int))]) (fun φ8 => []) (fun φ8 => []) s trivial (fun φ8 => by kernel_rfl) ?_
      intro φ8 w8 s
      rw [nat_eql (a := m) (b := 0)]
      rcases Bool.eq_false_or_eq_true (decide (m = 0)) with hc9 | hc9
      ·
        rw [hc9]
        refine ops_rule (C := []) [] [] 4 [] 0 (fun φ10 => [(24, .bool true), (23, undef), (22, undef), (21, undef)]) (fun φ10 => []) (fun φ10 => []) s trivial (fun φ10 => by kernel_rfl) ?_
        intro φ10 w10 s
        refine ops_done (by kernel_rfl) ?_
        refine cond_true_rule (b := true) (by kernel_rfl) rfl ?_
        refine wp_seq ?_
        refine region_rule ?_
        refine ops_rule (C := []) [] [] 4 [] 0 (fun φ11 => [(28, .int .u64 (IntKind.wrap .u64 (Int.tmod (IntKind.wrap .u8 (Int.tdiv ((x.toNat : Nat) : Int) ((4 : Nat) : Int))) ((8 : Nat) : Int)))), (27, .int .u8 (Int.tmod (IntKind.wrap .u8 (Int.tdiv ((x.toNat : Nat) : Int) ((4 : Nat) : Int))) ((8 : Nat) : Int))), (26, .int .u8 (IntKind.wrap .u8 (Int.tdiv ((x.toNat : Nat) : Int) ((4 : Nat) : Int)))), (25, .int .u8 ((x.toNat : Nat) : Int))]) (fun φ11 => []) (fun φ11 => []) s trivial (fun φ11 => by kernel_rfl) ?_
        intro φ11 w11 s
        rw [nat_quo8 (a := x.toNat) (b := 4) (by have hq0 := of_decide_eq_false hc3; have hq1 := of_decide_eq_true hc9; omega)]
        rw [nat_rem (a := (x.toNat / 4)) (b := 8)]
        rw [nat_wrapU (a := ((x.toNat / 4) % 8)) (by have hq0 := of_decide_eq_false hc3; have hq1 := of_decide_eq_true hc9; omega)]
        refine call_rule (some 29) s (rleaf_c (n := ((x.toNat / 4) % 8))) (by kernel_rfl) ?_
        intro v12 I12 w12 le12 h12 s
        replace hrest := BSl.mono le12 hrest
        replace hcs := le12 _ _ hcs
        obtain ⟨k12, rfl, h12_0⟩ := h12
        refine ops_rule (C := []) [] [] 3 [] 0 (fun φ13 => [(5, .slice (if cap = 1 then some ⟨b, o, none⟩ else some ⟨b, o + 1, none⟩) l.length (cap - 1)), (4, .pointer (some ⟨k12, 0, none⟩)), (30, .slice (if cap = 1 then some ⟨b, o, none⟩ else some ⟨b, o + 1, none⟩) l.length (cap - 1))]) (fun φ13 => []) (fun φ13 => []) s trivial (fun φ13 => by kernel_rfl) ?_
        intro φ13 w13 s
        refine ops_done (by kernel_rfl) ?_
        refine wp_ret ?_
        refine ret_rule (C := []) [] [] (.tuple #[.pointer (some ⟨k12, 0, none⟩), .slice (if cap = 1 then some ⟨b, o, none⟩ else some ⟨b, o + 1, none⟩) l.length (cap - 1)]) [] [] s trivial (by kernel_rfl) ?_
        exact ⟨_, _, _, rfl, s, ⟨_, _, (E.leaf ((x.toNat / 4) % 8)), _, rfl, ⟨trivial, Nat.zero_le _, show ((x.toNat / 4) % 8) ≤ 7 + 3 * m by omega⟩, h12_0, hrest⟩⟩
      ·
        rw [hc9]
        refine ops_rule (C := []) [] [] 4 [] 0 (fun φ14 => [(24, .bool (decide ((Int.tmod ((x.toNat : Nat) : Int) ((4 : Nat) : Int)) < ((2 : Nat) : Int)))), (23, .bool (decide ((Int.tmod ((x.toNat : Nat) : Int) ((4 : Nat) : Int)) < ((2 : Nat) : Int)))), (22, .int .u8 (Int.tmod ((x.toNat : Nat) : Int) ((4 : Nat) : Int))), (21, .int .u8 ((x.toNat : Nat) : Int))]) (fun φ14 => []) (fun φ14 => []) s trivial (fun φ14 => by kernel_rfl) ?_
        intro φ14 w14 s
        rw [nat_rem (a := x.toNat) (b := 4)]
        rw [nat_lss (a := (x.toNat % 4)) (b := 2)]
        refine ops_done (by kernel_rfl) ?_
        rcases Bool.eq_false_or_eq_true (decide ((x.toNat % 4) < 2)) with hc15 | hc15
        ·
          rw [hc15]
          refine cond_true_rule (b := true) (by kernel_rfl) rfl ?_
          refine wp_seq ?_
          refine region_rule ?_
          refine ops_rule (C := []) [] [] 4 [] 0 (fun φ16 => [(28, .int .u64 (IntKind.wrap .u64 (Int.tmod (IntKind.wrap .u8 (Int.tdiv ((x.toNat : Nat) : Int) ((4 : Nat) : Int))) ((8 : Nat) : Int)))), (27, .int .u8 (Int.tmod (IntKind.wrap .u8 (Int.tdiv ((x.toNat : Nat) : Int) ((4 : Nat) : Int))) ((8 : Nat) : Int))), (26, .int .u8 (IntKind.wrap .u8 (Int.tdiv ((x.toNat : Nat) : Int) ((4 : Nat) : Int)))), (25, .int .u8 ((x.toNat : Nat) : Int))]) (fun φ16 => []) (fun φ16 => []) s trivial (fun φ16 => by kernel_rfl) ?_
          intro φ16 w16 s
          rw [nat_quo8 (a := x.toNat) (b := 4) (by have hq0 := of_decide_eq_false hc3; have hq1 := of_decide_eq_false hc9; have hq2 := of_decide_eq_true hc15; omega)]
          rw [nat_rem (a := (x.toNat / 4)) (b := 8)]
          rw [nat_wrapU (a := ((x.toNat / 4) % 8)) (by have hq0 := of_decide_eq_false hc3; have hq1 := of_decide_eq_false hc9; have hq2 := of_decide_eq_true hc15; omega)]
          refine call_rule (some 29) s (rleaf_c (n := ((x.toNat / 4) % 8))) (by kernel_rfl) ?_
          intro v17 I17 w17 le17 h17 s
          replace hrest := BSl.mono le17 hrest
          replace hcs := le17 _ _ hcs
          obtain ⟨k17, rfl, h17_0⟩ := h17
          refine ops_rule (C := []) [] [] 3 [] 0 (fun φ18 => [(5, .slice (if cap = 1 then some ⟨b, o, none⟩ else some ⟨b, o + 1, none⟩) l.length (cap - 1)), (4, .pointer (some ⟨k17, 0, none⟩)), (30, .slice (if cap = 1 then some ⟨b, o, none⟩ else some ⟨b, o + 1, none⟩) l.length (cap - 1))]) (fun φ18 => []) (fun φ18 => []) s trivial (fun φ18 => by kernel_rfl) ?_
          intro φ18 w18 s
          refine ops_done (by kernel_rfl) ?_
          refine wp_ret ?_
          refine ret_rule (C := []) [] [] (.tuple #[.pointer (some ⟨k17, 0, none⟩), .slice (if cap = 1 then some ⟨b, o, none⟩ else some ⟨b, o + 1, none⟩) l.length (cap - 1)]) [] [] s trivial (by kernel_rfl) ?_
          exact ⟨_, _, _, rfl, s, ⟨_, _, (E.leaf ((x.toNat / 4) % 8)), _, rfl, ⟨trivial, Nat.zero_le _, show ((x.toNat / 4) % 8) ≤ 7 + 3 * m by omega⟩, h17_0, hrest⟩⟩
        ·
          rw [hc15]
          refine cond_false_rule (b := false) (by kernel_rfl) rfl ?_
          refine wp_skip ?_
          refine wp_seq ?_
          refine region_rule ?_
          refine ops_rule (C := []) [] [] 3 [] 0 (fun φ19 => [(34, .int .i64 (IntKind.wrap .i64 (((m : Nat) : Int) - ((1 : Nat) : Int)))), (33, .int .i64 ((m : Nat) : Int)), (32, .slice (if cap = 1 then some ⟨b, o, none⟩ else some ⟨b, o + 1, none⟩) l.length (cap - 1))]) (fun φ19 => []) (fun φ19 => []) s trivial (fun φ19 => by kernel_rfl) ?_
          intro φ19 w19 s
          rw [nat_subI (a := m) (b := 1) (by have hq0 := of_decide_eq_false hc3; have hq1 := of_decide_eq_false hc9; have hq2 := of_decide_eq_false hc15; omega) (by have hq0 := of_decide_eq_false hc3; have hq1 := of_decide_eq_false hc9; have hq2 := of_decide_eq_false hc15; omega)]
          refine call_rule (some 35) s (ih (of_decide_eq_false hc9) hrest) (by kernel_rfl) ?_
          intro v20 I20 w20 le20 h20 s
          replace hrest := BSl.mono le20 hrest
          replace hcs := le20 _ _ hcs
          obtain ⟨k20, v20, t20, l20, rfl, h20_0, h20_1, h20_2⟩ := h20
          refine ops_rule (C := []) [] [] 5 [] 0 (fun φ21 => [(0, v20), (7, .pointer (some ⟨k20, 0, none⟩)), (37, v20), (36, .pointer (some ⟨k20, 0, none⟩)), (31, .tuple #[.pointer (some ⟨k20, 0, none⟩), v20])]) (fun φ21 => []) (fun φ21 => []) s trivial (fun φ21 => by kernel_rfl) ?_
          intro φ21 w21 s
          refine ops_done (by kernel_rfl) ?_
          refine wp_seq ?_
          refine region_rule ?_
          refine ops_rule (C := []) [] [] 3 [] 0 (fun φ22 => [(41, .int .i64 (IntKind.wrap .i64 (((m : Nat) : Int) - ((1 : Nat) : Int)))), (40, .int .i64 ((m : Nat) : Int)), (39, v20)]) (fun φ22 => []) (fun φ22 => []) s trivial (fun φ22 => by kernel_rfl) ?_
          intro φ22 w22 s
          rw [nat_subI (a := m) (b := 1) (by have hq0 := of_decide_eq_false hc3; have hq1 := of_decide_eq_false hc9; have hq2 := of_decide_eq_false hc15; omega) (by have hq0 := of_decide_eq_false hc3; have hq1 := of_decide_eq_false hc9; have hq2 := of_decide_eq_false hc15; omega)]
          refine call_rule (some 42) s (ih (of_decide_eq_false hc9) h20_2) (by kernel_rfl) ?_
          intro v23 I23 w23 le23 h23 s
          replace hrest := BSl.mono le23 hrest
          replace h20_1 := RE.mono le23 h20_1
          replace h20_2 := BSl.mono le23 h20_2
          replace hcs := le23 _ _ hcs
          obtain ⟨k23, v23, t23, l23, rfl, h23_0, h23_1, h23_2⟩ := h23
          refine ops_rule (C := []) [] [] 5 [] 0 (fun φ24 => [(0, v23), (8, .pointer (some ⟨k23, 0, none⟩)), (44, v23), (43, .pointer (some ⟨k23, 0, none⟩)), (38, .tuple #[.pointer (some ⟨k23, 0, none⟩), v23])]) (fun φ24 => []) (fun φ24 => []) s trivial (fun φ24 => by kernel_rfl) ?_
          intro φ24 w24 s
          refine ops_done (by kernel_rfl) ?_
          refine wp_seq ?_
          refine region_rule ?_
          refine ops_rule (C := []) [] [] 6 [] 0 (fun φ25 => [(50, .pointer (some ⟨k23, 0, none⟩)), (49, .pointer (some ⟨k20, 0, none⟩)), (48, .int .u64 (IntKind.wrap .u64 (Int.tmod (IntKind.wrap .u8 (Int.tdiv ((x.toNat : Nat) : Int) ((4 : Nat) : Int))) ((4 : Nat) : Int)))), (47, .int .u8 (Int.tmod (IntKind.wrap .u8 (Int.tdiv ((x.toNat : Nat) : Int) ((4 : Nat) : Int))) ((4 : Nat) : Int))), (46, .int .u8 (IntKind.wrap .u8 (Int.tdiv ((x.toNat : Nat) : Int) ((4 : Nat) : Int)))), (45, .int .u8 ((x.toNat : Nat) : Int))]) (fun φ25 => []) (fun φ25 => []) s trivial (fun φ25 => by kernel_rfl) ?_
          intro φ25 w25 s
          rw [nat_quo8 (a := x.toNat) (b := 4) (by have hq0 := of_decide_eq_false hc3; have hq1 := of_decide_eq_false hc9; have hq2 := of_decide_eq_false hc15; omega)]
          rw [nat_rem (a := (x.toNat / 4)) (b := 4)]
          rw [nat_wrapU (a := ((x.toNat / 4) % 4)) (by have hq0 := of_decide_eq_false hc3; have hq1 := of_decide_eq_false hc9; have hq2 := of_decide_eq_false hc15; omega)]
          refine call_rule (some 51) s (rnode_c (n := ((x.toNat / 4) % 4)) h20_1 h23_1 h20_0.1 h23_0.1 (by have h8 := h20_0.2.2; have h9 := h23_0.2.2; omega)) (by kernel_rfl) ?_
          intro v26 I26 w26 le26 h26 s
          replace hrest := BSl.mono le26 hrest
          replace h20_1 := RE.mono le26 h20_1
          replace h20_2 := BSl.mono le26 h20_2
          replace h23_1 := RE.mono le26 h23_1
          replace h23_2 := BSl.mono le26 h23_2
          replace hcs := le26 _ _ hcs
          obtain ⟨k26, rfl, h26_0⟩ := h26
          refine ops_rule (C := []) [] [] 3 [] 0 (fun φ27 => [(5, v23), (4, .pointer (some ⟨k26, 0, none⟩)), (52, v23)]) (fun φ27 => []) (fun φ27 => []) s trivial (fun φ27 => by kernel_rfl) ?_
          intro φ27 w27 s
          refine ops_done (by kernel_rfl) ?_
          refine wp_ret ?_
          refine ret_rule (C := []) [] [] (.tuple #[.pointer (some ⟨k26, 0, none⟩), v23]) [] [] s trivial (by kernel_rfl) ?_
          exact ⟨_, _, _, rfl, s, ⟨_, _, (E.mk ((x.toNat / 4) % 4) t20 t23), _, rfl, ⟨E.nf_mk h20_0.1 h23_0.1, by have hm := of_decide_eq_false hc9; have h1 := E.mk_depth ((x.toNat / 4) % 4) t20 t23; have h2 := h20_0.2.1; have h3 := h23_0.2.1; omega, by have hm := of_decide_eq_false hc9; have h1 := E.mk_top ((x.toNat / 4) % 4) t20 t23; have h2 := h20_0.2.2; have h3 := h23_0.2.2; omega⟩, h26_0, h23_2⟩⟩

theorem makeE_c : ∀ (m : Nat) {I : IM} {xs : List UInt8} {v : Value}, m ≤ 100 → BSl I xs v → Fun Try.prog 34 #[v, .int .i64 ((m : Nat) : Int)] I (fun v J => ∃ k v' t l', v = .tuple #[.pointer (some ⟨k, 0, none⟩), v'] ∧ (t.nf ∧ t.depth ≤ m ∧ t.top ≤ 7 + 3 * m) ∧ RE J t k ∧ BSl J l' v')
  | 0, _, _, _, h, hv => makeE_step hv h (fun h => absurd rfl h)
  | m + 1, _, _, _, h, hv => makeE_step hv h (fun _ {J} {xs} {v} k => makeE_c m (by omega) k)

end Go.Proofs.Ytgmigcmhnmmdkaa.Ev

/- made: a stamp of bytes, the program's and the document's. -/
set_option linter.all false
set_option maxRecDepth 100000
namespace Go.Proofs.Ytgmigcmhnmmdkaa.Ev
open Go.RowKit Go.Sep

theorem bsl_take {I : IM} {p : List UInt8} {a : Option Addr} {cap : Nat} (h : BSl I p (.slice a p.length cap)) : BSl I (p.take 60) (.slice a (min p.length 60) cap) := by
  obtain ⟨a', cap', hv, hc, hr⟩ := h
  cases hv
  refine ⟨a, cap, by rw [List.length_take, Nat.min_comm], by rw [List.length_take]; omega, fun j x hj => ?_⟩
  rw [List.getElem?_take] at hj
  split at hj
  · exact hr j x hj
  · cases hj
theorem map_add_zero (a : Option Addr) : a.map (·.add 0) = a := by cases a <;> rfl
theorem run_to {w : World} {a : Option Addr} {n h cap : Nat} (h1 : h ≤ cap) : (Instr.sliceAt 22 (.slice a n cap) none (some (.int .i64 ((h : Nat) : Int))) none).run Try.prog w = .ok (.slice a h cap) w := by
  have hb : (Instr.sliceBound (.int .i64 ((h : Nat) : Int)) cap .sliceAcap).run Try.prog w = .ok h w := run_bound h1
  simp [Instr.sliceAt, Instr.slice, run_underlying under22, Instr.sliceBounds, hb, size5]
  intro _
  exact map_add_zero a

set_option maxHeartbeats 2000000 in
theorem made_c {I : IM} {p q : List UInt8} {vp vq : Value} (hp : BSl I p vp) (hq : BSl I q vq) : Fun Try.prog 7 #[vp, vq] I (fun v J => ∃ ib ip eb ep ki ke i e, v = .tuple #[stv ib ip eb ep, .agg #[.pointer (some ⟨ki, 0, none⟩), .pointer (some ⟨ke, 0, none⟩)]] ∧ (i.nf ∧ i.depth ≤ 7) ∧ (e.nf ∧ e.depth ≤ 7 ∧ e.top ≤ 7 + 3 * 7) ∧ TRep J i ib ip ∧ ERep J e eb ep ∧ RT J i ki ∧ RE J e ke) := by
  have hp' := hp
  have hq' := hq
  obtain ⟨pa, pc, rfl, hpc, -⟩ := hp
  obtain ⟨qa, qc, rfl, hqc, -⟩ := hq
  have hp60 := bsl_take hp'
  have hq60 := bsl_take hq'
  clear hp' hq'
  refine enter_rule 36 [(0, .slice pa p.length pc), (1, .slice qa q.length qc)] Try.func7 rfl (by kernel_rfl) ?_
  intro w s
  refine wp_seq ?_
  refine region_rule ?_
  refine ops_rule (C := []) [] [] 2 [] 2 (fun φ1 => [(5, .pointer (some ⟨(φ1 1), 0, none⟩)), (4, .pointer (some ⟨(φ1 0), 0, none⟩))]) (fun φ1 => [((φ1 0), .cells #[.bool false, .pointer none, .int .u64 0, .pointer none] 32), ((φ1 1), .cells #[.pointer none, .pointer none] 36)]) (fun φ1 => []) s trivial (fun φ1 => by kernel_rfl) ?_
  intro φ1 w1 s
  refine ops_done (by kernel_rfl) ?_
  refine wp_seq ?_
  refine region_rule ?_
  refine ops_rule (C := []) [((φ1 0), .cells #[.bool false, .pointer none, .int .u64 0, .pointer none] 32), ((φ1 1), .cells #[.pointer none, .pointer none] 36)] [] 4 [] 0 (fun φ2 => [(14, .int .i64 (if ((60 : Nat) : Int) < ((p.length : Nat) : Int) then ((60 : Nat) : Int) else ((p.length : Nat) : Int))), (13, .int .i64 ((p.length : Nat) : Int)), (12, .slice pa p.length pc), (11, .slice pa p.length pc)]) (fun φ2 => [((φ1 0), .cells #[.bool false, .pointer none, .int .u64 0, .pointer none] 32), ((φ1 1), .cells #[.pointer none, .pointer none] 36)]) (fun φ2 => []) s trivial (fun φ2 => by kernel_rfl) ?_
  intro φ2 w2 s
  rw [nat_min (a := p.length) (b := 60)]
  refine sem_rule (Instr.sliceAt 22 (.slice pa p.length pc) none (some (.int .i64 ((min p.length 60 : Nat) : Int))) none) (some 15) (.slice pa (min p.length 60) pc) (by kernel_rfl) (run_to (by have := hpc; omega)) ?_
  refine call_rule (some 16) s (make_c 7 (by omega) hp60) (by kernel_rfl) ?_
  intro v3 I3 w3 le3 h3 s
  replace hp60 := BSl.mono le3 hp60
  replace hq60 := BSl.mono le3 hq60
  obtain ⟨k3, v3, t3, l3, rfl, h3_0, h3_1, h3_2⟩ := h3
  refine ops_rule (C := []) [((φ1 0), .cells #[.bool false, .pointer none, .int .u64 0, .pointer none] 32), ((φ1 1), .cells #[.pointer none, .pointer none] 36)] [] 5 [] 0 (fun φ4 => [(7, v3), (6, .pointer (some ⟨k3, 0, none⟩)), (18, v3), (17, .pointer (some ⟨k3, 0, none⟩)), (10, .tuple #[.pointer (some ⟨k3, 0, none⟩), v3])]) (fun φ4 => [((φ1 0), .cells #[.bool false, .pointer none, .int .u64 0, .pointer none] 32), ((φ1 1), .cells #[.pointer none, .pointer none] 36)]) (fun φ4 => []) s trivial (fun φ4 => by kernel_rfl) ?_
  intro φ4 w4 s
  refine ops_done (by kernel_rfl) ?_
  refine wp_seq ?_
  refine region_rule ?_
  refine ops_rule (C := []) [((φ1 0), .cells #[.bool false, .pointer none, .int .u64 0, .pointer none] 32), ((φ1 1), .cells #[.pointer none, .pointer none] 36)] [] 4 [] 0 (fun φ5 => [(23, .int .i64 (if ((60 : Nat) : Int) < ((q.length : Nat) : Int) then ((60 : Nat) : Int) else ((q.length : Nat) : Int))), (22, .int .i64 ((q.length : Nat) : Int)), (21, .slice qa q.length qc), (20, .slice qa q.length qc)]) (fun φ5 => [((φ1 0), .cells #[.bool false, .pointer none, .int .u64 0, .pointer none] 32), ((φ1 1), .cells #[.pointer none, .pointer none] 36)]) (fun φ5 => []) s trivial (fun φ5 => by kernel_rfl) ?_
  intro φ5 w5 s
  rw [nat_min (a := q.length) (b := 60)]
  refine sem_rule (Instr.sliceAt 22 (.slice qa q.length qc) none (some (.int .i64 ((min q.length 60 : Nat) : Int))) none) (some 24) (.slice qa (min q.length 60) qc) (by kernel_rfl) (run_to (by have := hqc; omega)) ?_
  refine call_rule (some 25) s (makeE_c 7 (by omega) hq60) (by kernel_rfl) ?_
  intro v6 I6 w6 le6 h6 s
  replace hp60 := BSl.mono le6 hp60
  replace hq60 := BSl.mono le6 hq60
  replace h3_1 := RT.mono le6 h3_1
  replace h3_2 := BSl.mono le6 h3_2
  obtain ⟨k6, v6, t6, l6, rfl, h6_0, h6_1, h6_2⟩ := h6
  refine ops_rule (C := []) [((φ1 0), .cells #[.bool false, .pointer none, .int .u64 0, .pointer none] 32), ((φ1 1), .cells #[.pointer none, .pointer none] 36)] [] 5 [] 0 (fun φ7 => [(9, v6), (8, .pointer (some ⟨k6, 0, none⟩)), (27, v6), (26, .pointer (some ⟨k6, 0, none⟩)), (19, .tuple #[.pointer (some ⟨k6, 0, none⟩), v6])]) (fun φ7 => [((φ1 0), .cells #[.bool false, .pointer none, .int .u64 0, .pointer none] 32), ((φ1 1), .cells #[.pointer none, .pointer none] 36)]) (fun φ7 => []) s trivial (fun φ7 => by kernel_rfl) ?_
  intro φ7 w7 s
  refine ops_done (by kernel_rfl) ?_
  refine wp_seq ?_
  refine region_rule ?_
  refine ops_rule (C := []) [((φ1 0), .cells #[.bool false, .pointer none, .int .u64 0, .pointer none] 32), ((φ1 1), .cells #[.pointer none, .pointer none] 36)] [] 1 [] 0 (fun φ8 => [(28, .pointer (some ⟨k3, 0, none⟩))]) (fun φ8 => [((φ1 0), .cells #[.bool false, .pointer none, .int .u64 0, .pointer none] 32), ((φ1 1), .cells #[.pointer none, .pointer none] 36)]) (fun φ8 => []) s trivial (fun φ8 => by kernel_rfl) ?_
  intro φ8 w8 s
  refine call_rule (some 29) s (own_c t3 h3_0.1 (by have := h3_0.2; omega) h3_1) (by kernel_rfl) ?_
  intro v9 I9 w9 le9 h9 s
  replace hp60 := BSl.mono le9 hp60
  replace hq60 := BSl.mono le9 hq60
  replace h3_1 := RT.mono le9 h3_1
  replace h3_2 := BSl.mono le9 h3_2
  replace h6_1 := RE.mono le9 h6_1
  replace h6_2 := BSl.mono le9 h6_2
  obtain ⟨b9, p9, rfl, h9_0⟩ := h9
  refine ops_rule (C := []) [((φ1 0), .cells #[.bool false, .pointer none, .int .u64 0, .pointer none] 32), ((φ1 1), .cells #[.pointer none, .pointer none] 36)] [] 1 [] 0 (fun φ10 => [(30, .pointer (some ⟨k6, 0, none⟩))]) (fun φ10 => [((φ1 0), .cells #[.bool false, .pointer none, .int .u64 0, .pointer none] 32), ((φ1 1), .cells #[.pointer none, .pointer none] 36)]) (fun φ10 => []) s trivial (fun φ10 => by kernel_rfl) ?_
  intro φ10 w10 s
  refine call_rule (some 31) s (tree_c t6 h6_0.1 (by have := h6_0.2.2; omega) (by have := h6_0.2.1; omega) h6_1) (by kernel_rfl) ?_
  intro v11 I11 w11 le11 h11 s
  replace hp60 := BSl.mono le11 hp60
  replace hq60 := BSl.mono le11 hq60
  replace h3_1 := RT.mono le11 h3_1
  replace h3_2 := BSl.mono le11 h3_2
  replace h6_1 := RE.mono le11 h6_1
  replace h6_2 := BSl.mono le11 h6_2
  replace h9_0 := TRep.mono le11 h9_0
  obtain ⟨b11, p11, rfl, h11_0⟩ := h11
  refine ops_rule (C := []) [((φ1 0), .cells #[.bool false, .pointer none, .int .u64 0, .pointer none] 32), ((φ1 1), .cells #[.pointer none, .pointer none] 36)] [] 6 [.o 0, .o 0, .o 0, .o 0, .o 1, .o 1] 0 (fun φ12 => [(35, .agg #[.pointer (some ⟨k3, 0, none⟩), .pointer (some ⟨k6, 0, none⟩)]), (34, .pointer (some ⟨k6, 0, none⟩)), (33, .pointer (some ⟨k3, 0, none⟩)), (32, .agg #[.bool b9, .pointer p9, .int .u64 ((b11 : Nat) : Int), .pointer p11])]) (fun φ12 => [((φ1 0), .cells #[.bool b9, .pointer p9, .int .u64 ((b11 : Nat) : Int), .pointer p11] 32), ((φ1 1), .cells #[.pointer (some ⟨k3, 0, none⟩), .pointer (some ⟨k6, 0, none⟩)] 36)]) (fun φ12 => [(φ1 0), (φ1 0), (φ1 0), (φ1 0), (φ1 1), (φ1 1)]) s trivial (fun φ12 => by kernel_rfl) ?_
  intro φ12 w12 s
  refine ops_done (by kernel_rfl) ?_
  refine wp_ret ?_
  refine ret_rule (C := []) [((φ1 0), .cells #[.bool b9, .pointer p9, .int .u64 ((b11 : Nat) : Int), .pointer p11] 32), ((φ1 1), .cells #[.pointer (some ⟨k3, 0, none⟩), .pointer (some ⟨k6, 0, none⟩)] 36)] [] (.tuple #[.agg #[.bool b9, .pointer p9, .int .u64 ((b11 : Nat) : Int), .pointer p11], .agg #[.pointer (some ⟨k3, 0, none⟩), .pointer (some ⟨k6, 0, none⟩)]]) [.o 0, .o 0, .o 0, .o 0, .o 1, .o 1] [(φ1 0), (φ1 0), (φ1 0), (φ1 0), (φ1 1), (φ1 1)] s trivial (by kernel_rfl) ?_
  exact ⟨_, _, _, rfl, s, ⟨_, _, _, _, _, _, t3, t6, rfl, h3_0, h6_0, h9_0, h11_0, h3_1, h6_1⟩⟩

end Go.Proofs.Ytgmigcmhnmmdkaa.Ev

/- Trees as bits: no tree's bits are the beginning of another one's. -/
set_option linter.all false
namespace Go.Proofs.Ytgmigcmhnmmdkaa

theorem two_eq {x y : Nat} (hx : x < 2) (hy : y < 2) (h : (x % 2 = 1) = (y % 2 = 1)) : x = y := by
  have h1 : x = 0 ∨ x = 1 := by omega
  have h2 : y = 0 ∨ y = 1 := by omega
  rcases h1 with rfl | rfl <;> rcases h2 with rfl | rfl <;> simp at h ⊢
theorem putBits_inj : ∀ (k : Nat) {a b : Nat}, a < 2 ^ k → b < 2 ^ k → putBits a k = putBits b k → a = b
  | 0, a, b, ha, hb, _ => by simp at ha hb; omega
  | k + 1, a, b, ha, hb, h => by
    rw [putBits_succ, putBits_succ, List.cons.injEq] at h
    have hp := Nat.two_pow_pos k
    have key : ∀ x, putBits x k = putBits (x % 2 ^ k) k := fun x => by
      unfold putBits
      apply List.map_congr_left
      intro i hi
      have hi' : i < k := by simpa using hi
      unfold bitF
      congr 1
      have e : 2 ^ k = 2 ^ (k - 1 - i) * 2 ^ (i + 1) := by rw [← Nat.pow_add]; congr 1; omega
      rw [e, Nat.mod_mul_right_div_self, Nat.pow_succ, Nat.mul_comm (2 ^ i), Nat.mod_mul_right_mod]
    rw [Nat.pow_succ] at ha hb
    have h1 : a / 2 ^ k < 2 := Nat.div_lt_of_lt_mul (by omega)
    have h2 : b / 2 ^ k < 2 := Nat.div_lt_of_lt_mul (by omega)
    have h3 : a % 2 ^ k = b % 2 ^ k := putBits_inj k (Nat.mod_lt _ hp) (Nat.mod_lt _ hp) (by rw [← key, ← key]; exact h.2)
    have h4 : (a / 2 ^ k % 2 = 1) = (b / 2 ^ k % 2 = 1) := by simpa using h.1
    have h5 : a / 2 ^ k = b / 2 ^ k := two_eq h1 h2 h4
    rw [← Nat.div_add_mod a (2 ^ k), ← Nat.div_add_mod b (2 ^ k), h3, h5]
theorem numW_prefix : ∀ (f k a b : Nat), a < 2 ^ (f + k) → b < 2 ^ (f + k) → numW f k a <+: numW f k b → a = b
  | 0, k, a, b, ha, hb, h => by
    rw [Nat.zero_add] at ha hb
    have h1 : putBits a k <+: putBits b k := by simpa [numW] using h
    exact putBits_inj k ha hb (h1.eq_of_length (by rw [putBits_len, putBits_len]))
  | f + 1, k, a, b, ha, hb, h => by
    by_cases pa : a / 2 ^ k = 0 <;> by_cases pb : b / 2 ^ k = 0
    · rw [numW_stop pa, numW_stop pb] at h
      have h1 : putBits a k <+: putBits b k := by simpa using h
      exact putBits_inj k (div_lt_pow pa) (div_lt_pow pb) (h1.eq_of_length (by rw [putBits_len, putBits_len]))
    · rw [numW_stop pa, numW_go pb] at h; simp at h
    · rw [numW_go pa, numW_stop pb] at h; simp at h
    · rw [numW_go pa, numW_go pb] at h
      have h1 : numW f (k + 1) (a - 2 ^ k) <+: numW f (k + 1) (b - 2 ^ k) := by simpa using h
      have e : f + 1 + k = f + (k + 1) := by omega
      rw [e] at ha hb
      have := numW_prefix f (k + 1) _ _ (Nat.lt_of_le_of_lt (Nat.sub_le _ _) ha) (Nat.lt_of_le_of_lt (Nat.sub_le _ _) hb) h1
      have := pow_le_of_div pa
      have := pow_le_of_div pb
      omega
theorem num_cut {a b : Nat} {x y : List Bool} (ha : a < 18446744073709551616) (hb : b < 18446744073709551616) (h : numW 62 2 a ++ x = numW 62 2 b ++ y) : a = b ∧ x = y := by
  have e : a = b := by
    rcases List.prefix_or_prefix_of_prefix (List.prefix_append (numW 62 2 a) x) (h ▸ List.prefix_append (numW 62 2 b) y) with q | q
    · exact numW_prefix 62 2 a b ha hb q
    · exact (numW_prefix 62 2 b a hb ha q).symm
  subst e; exact ⟨rfl, List.append_cancel_left h⟩

def idK (t : Ev.T) : Nat := if (t.isZero || t.isOne) = true then 0 else if t.left.isZero = true then 1 else if t.right.isZero = true then 2 else 3
def lbT (t : Ev.T) : Nat := if t.isOne = true then 1 else 0
def idB : Ev.T → List Bool
  | .zero => putBits 0 2 ++ putBits 0 1
  | .one => putBits 0 2 ++ putBits 1 1
  | .node l r => putBits (idK (.node l r)) 2 ++ ((if idK (.node l r) = 1 then [] else idB l) ++ (if idK (.node l r) = 2 then [] else idB r))
theorem pb02 : putBits 0 2 = [false, false] := by decide
theorem pb12 : putBits 1 2 = [false, true] := by decide
theorem pb22 : putBits 2 2 = [true, false] := by decide
theorem pb32 : putBits 3 2 = [true, true] := by decide
theorem pb01 : putBits 0 1 = [false] := by decide
theorem pb11 : putBits 1 1 = [true] := by decide
theorem T_zero : ∀ {t : Ev.T}, t.isZero = true → t = .zero
  | .zero, _ => rfl
  | .one, h => by simp [Ev.T.isZero] at h
  | .node _ _, h => by simp [Ev.T.isZero] at h
theorem idB_node (l r : Ev.T) : (l = .zero ∧ idB (.node l r) = false :: true :: idB r) ∨ (r = .zero ∧ idB (.node l r) = true :: false :: idB l) ∨ (idB (.node l r) = true :: true :: (idB l ++ idB r)) := by
  have e0 : (Ev.T.node l r).isZero = false := rfl
  have e1 : (Ev.T.node l r).isOne = false := rfl
  have e2 : (Ev.T.node l r).left = l := rfl
  have e3 : (Ev.T.node l r).right = r := rfl
  by_cases h1 : l.isZero = true
  · have hk : idK (.node l r) = 1 := by unfold idK; simp [e0, e1, e2, h1]
    exact .inl ⟨T_zero h1, by simp [idB, hk, pb12]⟩
  · by_cases h2 : r.isZero = true
    · have hk : idK (.node l r) = 2 := by unfold idK; simp [e0, e1, e2, e3, h1, h2]
      exact .inr (.inl ⟨T_zero h2, by simp [idB, hk, pb22]⟩)
    · have hk : idK (.node l r) = 3 := by unfold idK; simp [e0, e1, e2, e3, h1, h2]
      exact .inr (.inr (by simp [idB, hk, pb32]))
theorem idB_cut : ∀ (t u : Ev.T) {x y : List Bool}, idB t ++ x = idB u ++ y → t = u ∧ x = y
  | .zero, .zero, x, y, h => ⟨rfl, List.append_cancel_left h⟩
  | .zero, .one, x, y, h => by simp [idB, pb02, pb01, pb11] at h
  | .one, .zero, x, y, h => by simp [idB, pb02, pb01, pb11] at h
  | .one, .one, x, y, h => ⟨rfl, List.append_cancel_left h⟩
  | .zero, .node l r, x, y, h => by rcases idB_node l r with ⟨-, e⟩ | ⟨-, e⟩ | e <;> rw [e] at h <;> simp [idB, pb02, pb01] at h
  | .one, .node l r, x, y, h => by rcases idB_node l r with ⟨-, e⟩ | ⟨-, e⟩ | e <;> rw [e] at h <;> simp [idB, pb02, pb11] at h
  | .node l r, .zero, x, y, h => by rcases idB_node l r with ⟨-, e⟩ | ⟨-, e⟩ | e <;> rw [e] at h <;> simp [idB, pb02, pb01] at h
  | .node l r, .one, x, y, h => by rcases idB_node l r with ⟨-, e⟩ | ⟨-, e⟩ | e <;> rw [e] at h <;> simp [idB, pb02, pb11] at h
  | .node l r, .node l' r', x, y, h => by
    rcases idB_node l r with ⟨a, e⟩ | ⟨a, e⟩ | e <;> rcases idB_node l' r' with ⟨a', e'⟩ | ⟨a', e'⟩ | e' <;> rw [e, e'] at h <;> simp at h
    · obtain ⟨h1, h2⟩ := idB_cut r r' h
      exact ⟨by rw [a, a', h1], h2⟩
    · obtain ⟨h1, h2⟩ := idB_cut l l' h
      exact ⟨by rw [a, a', h1], h2⟩
    · obtain ⟨h1, h2⟩ := idB_cut l l' h
      obtain ⟨h3, h4⟩ := idB_cut r r' h2
      exact ⟨by rw [h1, h3], h4⟩
theorem idB_pos : ∀ (t : Ev.T), 3 ≤ (idB t).length
  | .zero => by simp [idB, putBits_len]
  | .one => by simp [idB, putBits_len]
  | .node l r => by
    have h1 := idB_pos l
    have h2 := idB_pos r
    rcases idB_node l r with ⟨a, e⟩ | ⟨a, e⟩ | e <;> rw [e] <;> simp <;> omega
theorem idB_len : ∀ (t : Ev.T) (n : Nat), t.depth ≤ n → (idB t).length + 2 ≤ 5 * 2 ^ n
  | .zero, n, _ => by have := Nat.one_le_two_pow (n := n); simp [idB, putBits_len]; omega
  | .one, n, _ => by have := Nat.one_le_two_pow (n := n); simp [idB, putBits_len]; omega
  | .node l r, 0, h => by simp [Ev.T.depth] at h
  | .node l r, n + 1, h => by
    have hd : l.depth ≤ n ∧ r.depth ≤ n := by simp only [Ev.T.depth] at h; omega
    have h1 := idB_len l n hd.1
    have h2 := idB_len r n hd.2
    rw [Nat.pow_succ]
    rcases idB_node l r with ⟨a, e⟩ | ⟨a, e⟩ | e <;> rw [e] <;> simp <;> omega
/- the steps of the writer -/
theorem idB_leaf {t : Ev.T} (h : idK t = 0) : idB t = putBits (idK t) 2 ++ putBits (lbT t) 1 := by
  cases t with
  | zero => rfl
  | one => rfl
  | node l r =>
    exfalso; revert h; unfold idK
    have e0 : (Ev.T.node l r).isZero = false := rfl
    have e1 : (Ev.T.node l r).isOne = false := rfl
    simp only [e0, e1, Bool.or_self, Bool.false_eq_true, if_false]
    split
    · simp
    · split <;> simp
theorem idB_pair {t : Ev.T} (h : idK t ≠ 0) : idB t = putBits (idK t) 2 ++ ((if idK t = 1 then [] else idB t.left) ++ (if idK t = 2 then [] else idB t.right)) := by
  cases t with
  | zero => exact absurd rfl h
  | one => exact absurd rfl h
  | node l r => rfl
theorem idK_lt (t : Ev.T) : idK t < 4 := by unfold idK; split; · omega
                                            split; · omega
                                            split <;> omega
/- events -/
def kindE (l r : Ev.E) : Nat := if l.top = 0 then 0 else if r.top = 0 then 1 else 2
theorem kindE_lt (l r : Ev.E) : kindE l r < 3 := by unfold kindE; split; · omega
                                                    split <;> omega
def headB (n k : Nat) : List Bool := if n = 0 then putBits k 2 else if k = 2 then putBits 3 2 ++ putBits 1 1 ++ numW 62 2 n else putBits 3 2 ++ putBits 0 1 ++ putBits k 1 ++ numW 62 2 n
def evB : Ev.E → List Bool
  | .leaf n => putBits 1 1 ++ numW 62 2 n
  | .node n l r => putBits 0 1 ++ headB n (kindE l r) ++ ((if kindE l r = 0 then [] else evB l) ++ (if kindE l r = 1 then [] else evB r))
theorem headB_cut {n n' k k' : Nat} {x y : List Bool} (hk : k < 3) (hk' : k' < 3) (hn : n < 18446744073709551616) (hn' : n' < 18446744073709551616) (h : headB n k ++ x = headB n' k' ++ y) : n = n' ∧ k = k' ∧ x = y := by
  have c : k = 0 ∨ k = 1 ∨ k = 2 := by omega
  have c' : k' = 0 ∨ k' = 1 ∨ k' = 2 := by omega
  by_cases z : n = 0 <;> by_cases z' : n' = 0 <;> rcases c with rfl | rfl | rfl <;> rcases c' with rfl | rfl | rfl <;> simp [headB, z, z', pb02, pb12, pb22, pb32, pb01, pb11] at h ⊢ <;> first | exact h | exact num_cut hn hn' h
theorem E_zero : ∀ {e : Ev.E}, e.nf → e.top = 0 → e = .leaf 0
  | .leaf n, _, h => by have : n = 0 := h; rw [this]
  | .node n l r, h, ht => by
    have h1 : n + max l.top r.top = 0 := ht
    have el := E_zero h.1 (by omega)
    have er := E_zero h.2.1 (by omega)
    have hm := h.2.2
    rw [el, er] at hm
    simp [Ev.E.mk, Ev.E.isLeaf, Ev.E.base] at hm
theorem evB_cut : ∀ (t u : Ev.E) {x y : List Bool}, t.nf → u.nf → t.top < 18446744073709551616 → u.top < 18446744073709551616 → evB t ++ x = evB u ++ y → t = u ∧ x = y
  | .leaf n, .leaf m, x, y, _, _, hn, hm, h => by
    simp [evB, pb11] at h
    obtain ⟨h1, h2⟩ := num_cut hn hm h
    exact ⟨congrArg Ev.E.leaf h1, h2⟩
  | .leaf n, .node m l r, x, y, _, _, hn, hm, h => by simp [evB, pb11, pb01] at h
  | .node m l r, .leaf n, x, y, _, _, hn, hm, h => by simp [evB, pb11, pb01] at h
  | .node n l r, .node n' l' r', x, y, f, f', hn, hn', h => by
    have t1 : n + max l.top r.top < 18446744073709551616 := hn
    have t2 : n' + max l'.top r'.top < 18446744073709551616 := hn'
    simp [evB, pb01] at h
    obtain ⟨h1, h2, h3⟩ := headB_cut (kindE_lt l r) (kindE_lt l' r') (by omega) (by omega) h
    subst h1
    have rec1 : ∀ {x y : List Bool}, evB l ++ x = evB l' ++ y → l = l' ∧ x = y := fun q => evB_cut l l' f.1 f'.1 (by omega) (by omega) q
    have rec2 : ∀ {x y : List Bool}, evB r ++ x = evB r' ++ y → r = r' ∧ x = y := fun q => evB_cut r r' f.2.1 f'.2.1 (by omega) (by omega) q
    by_cases z : l.top = 0
    · have k0 : kindE l r = 0 := by unfold kindE; rw [if_pos z]
      have k0' := h2 ▸ k0
      have z' : l'.top = 0 := by
        rcases Nat.eq_zero_or_pos l'.top with q | q
        · exact q
        · unfold kindE at k0'; rw [if_neg (by omega)] at k0'; split at k0' <;> omega
      rw [if_pos k0, if_neg (by omega), if_pos k0', if_neg (by omega)] at h3
      obtain ⟨a, b⟩ := rec2 (by simpa using h3)
      exact ⟨by rw [E_zero f.1 z, E_zero f'.1 z', a], b⟩
    · have k0 : kindE l r ≠ 0 := by unfold kindE; rw [if_neg z]; split <;> omega
      have z' : ¬ l'.top = 0 := fun q => k0 (by rw [h2]; unfold kindE; rw [if_pos q])
      have k0' : kindE l' r' ≠ 0 := h2 ▸ k0
      by_cases w : r.top = 0
      · have k1 : kindE l r = 1 := by unfold kindE; rw [if_neg z, if_pos w]
        have k1' := h2 ▸ k1
        have w' : r'.top = 0 := by
          rcases Nat.eq_zero_or_pos r'.top with q | q
          · exact q
          · unfold kindE at k1'; rw [if_neg z', if_neg (by omega)] at k1'; omega
        rw [if_neg k0, if_pos k1, if_neg k0', if_pos k1'] at h3
        obtain ⟨a, b⟩ := rec1 (by simpa using h3)
        exact ⟨by rw [E_zero f.2.1 w, E_zero f'.2.1 w', a], b⟩
      · have k1 : kindE l r ≠ 1 := by unfold kindE; rw [if_neg z, if_neg w]; omega
        have k1' : kindE l' r' ≠ 1 := h2 ▸ k1
        rw [if_neg k0, if_neg k1, if_neg k0', if_neg k1'] at h3
        obtain ⟨a, b⟩ := rec1 (by simpa using h3)
        obtain ⟨a2, b2⟩ := rec2 b
        exact ⟨by rw [a, a2], b2⟩
theorem headB_len (n k : Nat) : (headB n k).length ≤ 131 := by
  have := numW_len 62 2 n
  unfold headB; split
  · rw [putBits_len]; omega
  · split <;> simp [putBits_len] <;> omega
theorem evB_len : ∀ (t : Ev.E) (n : Nat), t.depth ≤ n → (evB t).length + 132 ≤ 270 * 2 ^ n
  | .leaf m, n, _ => by have := Nat.one_le_two_pow (n := n); have := numW_len 62 2 m; simp [evB, putBits_len]; omega
  | .node m l r, 0, h => by simp [Ev.E.depth] at h
  | .node m l r, n + 1, h => by
    have hd : l.depth ≤ n ∧ r.depth ≤ n := by simp only [Ev.E.depth] at h; omega
    have h1 := evB_len l n hd.1
    have h2 := evB_len r n hd.2
    have h3 := headB_len m (kindE l r)
    rw [Nat.pow_succ]
    unfold evB
    simp only [List.length_append, putBits_len]
    split <;> split <;> (try simp only [List.length_nil]) <;> omega
theorem evB_leaf {t : Ev.E} (h : t.isLeaf = true) : evB t = putBits 1 1 ++ numW 62 2 t.base := by
  cases t with
  | leaf n => rfl
  | node n l r => simp [Ev.E.isLeaf] at h
theorem evB_nd {t : Ev.E} (h : t.isLeaf = false) : evB t = putBits 0 1 ++ headB t.base (kindE t.left t.right) ++ ((if kindE t.left t.right = 0 then [] else evB t.left) ++ (if kindE t.left t.right = 1 then [] else evB t.right)) := by
  cases t with
  | leaf n => simp [Ev.E.isLeaf] at h
  | node n l r => rfl
/- what stands behind is told by the bytes but for noughts at the end -/
theorem pk_alike {A B : List Bool} (h : pk A = pk B) : ∃ i j, A ++ List.replicate i false = B ++ List.replicate j false := by
  refine ⟨B.length - A.length, A.length - B.length, ?_⟩
  have hb : ∀ j, A.getD j false = B.getD j false := fun j => by rw [← pk_bit, ← pk_bit, h]
  apply List.ext_getElem
  · simp; omega
  · intro n h1 h2
    have q := hb n
    simp only [List.getD_eq_getElem?_getD] at q
    rw [List.getElem_append, List.getElem_append]
    split <;> split
    · rename_i a b; simpa [List.getElem?_eq_getElem a, List.getElem?_eq_getElem b] using q
    · rename_i a b; simpa [List.getElem?_eq_getElem a, List.getElem?_eq_none (Nat.not_lt.1 b)] using q
    · rename_i a b; simpa [List.getElem?_eq_getElem b, List.getElem?_eq_none (Nat.not_lt.1 a)] using q
    · simp
theorem id_once {t u : Ev.T} : pk (idB t) = pk (idB u) ↔ t = u :=
  ⟨fun h => by obtain ⟨i, j, e⟩ := pk_alike h; exact (idB_cut t u e).1, fun h => by rw [h]⟩
theorem ev_once {t u : Ev.E} (f : t.nf) (g : u.nf) (ht : t.top < 18446744073709551616) (hu : u.top < 18446744073709551616) : pk (evB t) = pk (evB u) ↔ t = u :=
  ⟨fun h => by obtain ⟨i, j, e⟩ := pk_alike h; exact (evB_cut t u f g ht hu e).1, fun h => by rw [h]⟩
theorem st_once {a b : Ev.T} {t u : Ev.E} (f : t.nf) (g : u.nf) (ht : t.top < 18446744073709551616) (hu : u.top < 18446744073709551616) : pk (idB a ++ evB t) = pk (idB b ++ evB u) ↔ a = b ∧ t = u :=
  ⟨fun h => by
    obtain ⟨i, j, e⟩ := pk_alike h
    rw [List.append_assoc, List.append_assoc] at e
    obtain ⟨h1, h2⟩ := idB_cut a b e
    exact ⟨h1, (evB_cut t u f g ht hu h2).1⟩, fun h => by rw [h.1, h.2]⟩
/- the same -/
theorem cover_same : ∀ (a b : Ev.T), (Ev.coverT a b && Ev.coverT b a) = decide (a = b)
  | .zero, .zero => by simp [Ev.coverT]
  | .zero, .one => by simp [Ev.coverT]
  | .zero, .node _ _ => by simp [Ev.coverT]
  | .one, .zero => by simp [Ev.coverT]
  | .one, .one => by simp [Ev.coverT]
  | .one, .node _ _ => by simp [Ev.coverT]
  | .node _ _, .zero => by simp [Ev.coverT]
  | .node _ _, .one => by simp [Ev.coverT]
  | .node l r, .node l' r' => by
    have h1 := cover_same l l'
    have h2 := cover_same r r'
    have e : (Ev.coverT (.node l r) (.node l' r') && Ev.coverT (.node l' r') (.node l r)) = ((Ev.coverT l l' && Ev.coverT l' l) && (Ev.coverT r r' && Ev.coverT r' r)) := by
      simp only [Ev.coverT]
      cases Ev.coverT l l' <;> cases Ev.coverT l' l <;> cases Ev.coverT r r' <;> cases Ev.coverT r' r <;> rfl
    rw [e, h1, h2]
    simp
theorem up_nf {m : Nat} {e : Ev.E} (h : e.nf) : (Ev.E.up m e).nf := by
  cases e with
  | leaf n => trivial
  | node n l r => exact ⟨h.1, h.2.1, Ev.E.mk_iff.2 (Ev.E.mk_iff.1 h.2.2)⟩
theorem up_base (m : Nat) (e : Ev.E) : (Ev.E.up m e).base = e.base + m := by cases e <;> rfl
theorem up_inj {m : Nat} {a b : Ev.E} (h : Ev.E.up m a = Ev.E.up m b) : a = b := by
  cases a <;> cases b <;> simp [Ev.E.up] at h ⊢ <;> exact h
theorem nd_top {n : Nat} {l r : Ev.E} (h : (Ev.E.node n l r).nf) : n < (Ev.E.node n l r).top := by
  show n < n + max l.top r.top
  rcases Nat.eq_zero_or_pos (max l.top r.top) with q | q
  · have hm := (Ev.E.mk_iff.1 h.2.2).1
    rw [E_zero h.1 (by omega), E_zero h.2.1 (by omega)] at hm
    exact absurd ⟨rfl, rfl, rfl⟩ hm
  · omega
theorem leq_top : ∀ (n : Nat) (A B : Ev.E), Ev.leqF n A B = true → A.top ≤ B.top
  | 0, A, B, h => Nat.le_trans (of_decide_eq_true h) (Ev.E.base_le B)
  | n + 1, A, B, h => by
    simp only [Ev.leqF, Bool.or_eq_true, Bool.and_eq_true, decide_eq_true_eq] at h
    rcases h with h | ⟨⟨h1, h2⟩, h3, h4⟩
    · exact Nat.le_trans h (Ev.E.base_le B)
    · have a := leq_top n _ _ h3
      have b := leq_top n _ _ h4
      have c := Ev.E.half_top B
      cases A with
      | leaf _ => simp [Ev.E.isLeaf] at h1
      | node k l r =>
        rw [Ev.E.up_top] at a b
        have e1 : l.top + k ≤ (Ev.E.up B.base B.left).top := a
        have e2 : r.top + k ≤ (Ev.E.up B.base B.right).top := b
        show k + max l.top r.top ≤ B.top
        omega
theorem leq_same : ∀ (n : Nat) (A B : Ev.E), A.nf → B.nf → Ev.leqF n A B = true → Ev.leqF n B A = true → A = B
  | n, .leaf a, .leaf b, _, _, h1, h2 => by
    have x : a ≤ b := leq_top n _ _ h1
    have y : b ≤ a := leq_top n _ _ h2
    rw [Nat.le_antisymm x y]
  | n, .leaf a, .node b l r, f, g, h1, h2 => by
    have x : (Ev.E.node b l r).top ≤ a := leq_top n _ _ h2
    have y := nd_top g
    have z : a ≤ b := by
      cases n with
      | zero => exact of_decide_eq_true h1
      | succ n => have q := h1; simp [Ev.leqF, Ev.E.isLeaf, Ev.E.top, Ev.E.base] at q; exact of_decide_eq_true q
    omega
  | n, .node b l r, .leaf a, f, g, h1, h2 => by
    have x : (Ev.E.node b l r).top ≤ a := leq_top n _ _ h1
    have y := nd_top f
    have z : a ≤ b := by
      cases n with
      | zero => exact of_decide_eq_true h2
      | succ n => have q := h2; simp [Ev.leqF, Ev.E.isLeaf, Ev.E.top, Ev.E.base] at q; exact of_decide_eq_true q
    omega
  | 0, .node a l r, .node b l' r', f, g, h1, h2 => by
    have x : (Ev.E.node a l r).top ≤ b := of_decide_eq_true h1
    have y : (Ev.E.node b l' r').top ≤ a := of_decide_eq_true h2
    have := nd_top f
    have := nd_top g
    omega
  | n + 1, .node a l r, .node b l' r', f, g, h1, h2 => by
    have t1 := leq_top _ _ _ h1
    have t2 := leq_top _ _ _ h2
    have u := nd_top f
    have v := nd_top g
    have g1 : ¬ (Ev.E.node a l r).top ≤ b := by omega
    have g2 : ¬ (Ev.E.node b l' r').top ≤ a := by omega
    have e1 : (Ev.E.node a l r).base = a := rfl
    have e2 : (Ev.E.node b l' r').base = b := rfl
    have e3 : (Ev.E.node a l r).left = l := rfl
    have e4 : (Ev.E.node b l' r').left = l' := rfl
    have e5 : (Ev.E.node a l r).right = r := rfl
    have e6 : (Ev.E.node b l' r').right = r' := rfl
    have e7 : (Ev.E.node a l r).isLeaf = false := rfl
    have e8 : (Ev.E.node b l' r').isLeaf = false := rfl
    simp only [Ev.leqF, e1, e2, e3, e4, e5, e6, e7, e8, Bool.or_eq_true, Bool.and_eq_true, decide_eq_true_eq, g1, g2, false_or] at h1 h2
    have p := leq_same n _ _ (up_nf f.1) (up_nf g.1) h1.2.1 h2.2.1
    have q := leq_same n _ _ (up_nf f.2.1) (up_nf g.2.1) h1.2.2 h2.2.2
    have m1 := (Ev.E.mk_iff.1 f.2.2).2
    have m2 := (Ev.E.mk_iff.1 g.2.2).2
    have b1 := congrArg Ev.E.base p
    have b2 := congrArg Ev.E.base q
    rw [up_base, up_base] at b1 b2
    have hab : a = b := by omega
    subst hab
    rw [up_inj p, up_inj q]
theorem leq_self : ∀ (n : Nat) (A : Ev.E), A.depth ≤ n → Ev.leqF n A A = true
  | 0, .leaf a, _ => by simp [Ev.leqF, Ev.E.top, Ev.E.base]
  | 0, .node _ _ _, h => by simp [Ev.E.depth] at h
  | n + 1, .leaf a, _ => by simp [Ev.leqF, Ev.E.top, Ev.E.base]
  | n + 1, .node a l r, h => by
    have hd := Ev.E.half_depth _ n h
    have h1 := leq_self n _ hd.1
    have h2 := leq_self n _ hd.2
    simp only [Ev.leqF, h1, h2]
    simp [Ev.E.isLeaf]
theorem leq_same_iff {A B : Ev.E} (f : A.nf) (g : B.nf) (hA : A.depth ≤ 64) (hB : B.depth ≤ 64) : (Ev.leqF 64 A B && Ev.leqF 64 B A) = decide (A = B) := by
  by_cases h : A = B
  · subst h; simp [leq_self 64 A hA]
  · rw [decide_eq_false h]
    cases h1 : Ev.leqF 64 A B
    · rfl
    · cases h2 : Ev.leqF 64 B A
      · rfl
      · exact absurd (leq_same 64 A B f g h1 h2) h
end Go.Proofs.Ytgmigcmhnmmdkaa
/- Ids are written. -/
set_option linter.all false
set_option maxRecDepth 100000
namespace Go.Proofs.Ytgmigcmhnmmdkaa
open Go.RowKit Go.Sep
attribute [local irreducible] Go.wpList Go.Code.wp

set_option maxHeartbeats 400000 in
theorem idKind_c {I : IM} {t : Ev.T} {bi : Bool} {pi : Option Addr} (ht : Ev.TRep I t bi pi) : Fun Try.prog 53 #[.agg #[.bool bi, .pointer pi]] I (fun v J => v = .int .u64 ((idK t : Nat) : Int)) := by
  refine enter_rule 18 [(0, .agg #[.bool bi, .pointer pi])] Try.func53 rfl (by kernel_rfl) ?_
  intro w s
  refine wp_seq ?_
  refine region_rule ?_
  refine ops_rule (C := []) [] [] 2 [] 1 (fun φ1 => [(2, .int .u64 0), (1, .pointer (some ⟨(φ1 0), 0, none⟩))]) (fun φ1 => [((φ1 0), .cells #[.bool bi, .pointer pi] 26)]) (fun φ1 => []) s trivial (fun φ1 => by kernel_rfl) ?_
  intro φ1 w1 s
  refine ops_done (by kernel_rfl) ?_
  refine wp_seq ?_
  refine wp_block ?_
  refine wp_seq ?_
  refine region_rule ?_
  refine ops_rule (C := []) [((φ1 0), .cells #[.bool bi, .pointer pi] 26)] [] 1 [.o 0, .o 0] 0 (fun φ2 => [(4, .agg #[.bool bi, .pointer pi])]) (fun φ2 => [((φ1 0), .cells #[.bool bi, .pointer pi] 26)]) (fun φ2 => [(φ1 0), (φ1 0)]) s trivial (fun φ2 => by kernel_rfl) ?_
  intro φ2 w2 s
  refine call_rule (some 5) s (Ev.isZero_c ht) (by kernel_rfl) ?_
  intro v3 I3 w3 le3 h3 s
  replace ht := Ev.TRep.mono le3 ht
  obtain rfl := h3
  refine ops_rule (C := []) [((φ1 0), .cells #[.bool bi, .pointer pi] 26)] [] 1 [] 0 (fun φ4 => [(6, .bool t.isZero)]) (fun φ4 => [((φ1 0), .cells #[.bool bi, .pointer pi] 26)]) (fun φ4 => []) s trivial (fun φ4 => by kernel_rfl) ?_
  intro φ4 w4 s
  rcases Bool.eq_false_or_eq_true (t.isZero) with hc5 | hc5
  ·
    rw [hc5]
    refine ops_rule (C := []) [((φ1 0), .cells #[.bool bi, .pointer pi] 26)] [] 4 [] 0 (fun φ6 => [(3, .bool true), (9, .bool true), (8, undef), (7, undef)]) (fun φ6 => [((φ1 0), .cells #[.bool bi, .pointer pi] 26)]) (fun φ6 => []) s trivial (fun φ6 => by kernel_rfl) ?_
    intro φ6 w6 s
    refine ops_done (by kernel_rfl) ?_
    refine cond_true_rule (b := true) (by kernel_rfl) rfl ?_
    refine wp_seq ?_
    refine region_rule ?_
    refine ops_rule (C := []) [((φ1 0), .cells #[.bool bi, .pointer pi] 26)] [] 1 [] 0 (fun φ7 => [(2, .int .u64 0)]) (fun φ7 => [((φ1 0), .cells #[.bool bi, .pointer pi] 26)]) (fun φ7 => []) s trivial (fun φ7 => by kernel_rfl) ?_
    intro φ7 w7 s
    refine ops_done (by kernel_rfl) ?_
    refine wp_ret ?_
    refine ret_rule (C := []) [((φ1 0), .cells #[.bool bi, .pointer pi] 26)] [] (.int .u64 0) [] [] s trivial (by kernel_rfl) ?_
    exact ⟨_, _, _, rfl, s, (by unfold idK; simp [hc5])⟩
  ·
    rw [hc5]
    refine ops_rule (C := []) [((φ1 0), .cells #[.bool bi, .pointer pi] 26)] [] 1 [.o 0, .o 0] 0 (fun φ8 => [(7, .agg #[.bool bi, .pointer pi])]) (fun φ8 => [((φ1 0), .cells #[.bool bi, .pointer pi] 26)]) (fun φ8 => [(φ1 0), (φ1 0)]) s trivial (fun φ8 => by kernel_rfl) ?_
    intro φ8 w8 s
    refine call_rule (some 8) s (Ev.isOne_c ht) (by kernel_rfl) ?_
    intro v9 I9 w9 le9 h9 s
    replace ht := Ev.TRep.mono le9 ht
    obtain rfl := h9
    refine ops_rule (C := []) [((φ1 0), .cells #[.bool bi, .pointer pi] 26)] [] 2 [] 0 (fun φ10 => [(3, .bool t.isOne), (9, .bool t.isOne)]) (fun φ10 => [((φ1 0), .cells #[.bool bi, .pointer pi] 26)]) (fun φ10 => []) s trivial (fun φ10 => by kernel_rfl) ?_
    intro φ10 w10 s
    refine ops_done (by kernel_rfl) ?_
    rcases Bool.eq_false_or_eq_true (t.isOne) with hc11 | hc11
    ·
      rw [hc11]
      refine cond_true_rule (b := true) (by kernel_rfl) rfl ?_
      refine wp_seq ?_
      refine region_rule ?_
      refine ops_rule (C := []) [((φ1 0), .cells #[.bool bi, .pointer pi] 26)] [] 1 [] 0 (fun φ12 => [(2, .int .u64 0)]) (fun φ12 => [((φ1 0), .cells #[.bool bi, .pointer pi] 26)]) (fun φ12 => []) s trivial (fun φ12 => by kernel_rfl) ?_
      intro φ12 w12 s
      refine ops_done (by kernel_rfl) ?_
      refine wp_ret ?_
      refine ret_rule (C := []) [((φ1 0), .cells #[.bool bi, .pointer pi] 26)] [] (.int .u64 0) [] [] s trivial (by kernel_rfl) ?_
      exact ⟨_, _, _, rfl, s, (by unfold idK; simp [hc5, hc11])⟩
    ·
      rw [hc11]
      refine cond_false_rule (b := false) (by kernel_rfl) rfl ?_
      refine wp_seq ?_
      refine region_rule ?_
      refine ops_rule (C := []) [((φ1 0), .cells #[.bool bi, .pointer pi] 26)] [] 1 [.o 0, .o 0] 0 (fun φ13 => [(11, .agg #[.bool bi, .pointer pi])]) (fun φ13 => [((φ1 0), .cells #[.bool bi, .pointer pi] 26)]) (fun φ13 => [(φ1 0), (φ1 0)]) s trivial (fun φ13 => by kernel_rfl) ?_
      intro φ13 w13 s
      refine call_rule (some 12) s (Ev.tleft_c ht) (by kernel_rfl) ?_
      intro v14 I14 w14 le14 h14 s
      replace ht := Ev.TRep.mono le14 ht
      obtain ⟨b14, p14, rfl, h14_0⟩ := h14
      refine call_rule (some 13) s (Ev.isZero_c h14_0) (by kernel_rfl) ?_
      intro v15 I15 w15 le15 h15 s
      replace ht := Ev.TRep.mono le15 ht
      replace h14_0 := Ev.TRep.mono le15 h14_0
      obtain rfl := h15
      refine ops_rule (C := []) [((φ1 0), .cells #[.bool bi, .pointer pi] 26)] [] 1 [] 0 (fun φ16 => [(10, .bool t.left.isZero)]) (fun φ16 => [((φ1 0), .cells #[.bool bi, .pointer pi] 26)]) (fun φ16 => []) s trivial (fun φ16 => by kernel_rfl) ?_
      intro φ16 w16 s
      refine ops_done (by kernel_rfl) ?_
      rcases Bool.eq_false_or_eq_true (t.left.isZero) with hc17 | hc17
      ·
        rw [hc17]
        refine cond_true_rule (b := true) (by kernel_rfl) rfl ?_
        refine wp_seq ?_
        refine region_rule ?_
        refine ops_rule (C := []) [((φ1 0), .cells #[.bool bi, .pointer pi] 26)] [] 1 [] 0 (fun φ18 => [(2, .int .u64 1)]) (fun φ18 => [((φ1 0), .cells #[.bool bi, .pointer pi] 26)]) (fun φ18 => []) s trivial (fun φ18 => by kernel_rfl) ?_
        intro φ18 w18 s
        refine ops_done (by kernel_rfl) ?_
        refine wp_ret ?_
        refine ret_rule (C := []) [((φ1 0), .cells #[.bool bi, .pointer pi] 26)] [] (.int .u64 1) [] [] s trivial (by kernel_rfl) ?_
        exact ⟨_, _, _, rfl, s, (by unfold idK; simp [hc5, hc11, hc17])⟩
      ·
        rw [hc17]
        refine cond_false_rule (b := false) (by kernel_rfl) rfl ?_
        refine wp_seq ?_
        refine region_rule ?_
        refine ops_rule (C := []) [((φ1 0), .cells #[.bool bi, .pointer pi] 26)] [] 1 [.o 0, .o 0] 0 (fun φ19 => [(15, .agg #[.bool bi, .pointer pi])]) (fun φ19 => [((φ1 0), .cells #[.bool bi, .pointer pi] 26)]) (fun φ19 => [(φ1 0), (φ1 0)]) s trivial (fun φ19 => by kernel_rfl) ?_
        intro φ19 w19 s
        refine call_rule (some 16) s (Ev.tright_c ht) (by kernel_rfl) ?_
        intro v20 I20 w20 le20 h20 s
        replace ht := Ev.TRep.mono le20 ht
        replace h14_0 := Ev.TRep.mono le20 h14_0
        obtain ⟨b20, p20, rfl, h20_0⟩ := h20
        refine call_rule (some 17) s (Ev.isZero_c h20_0) (by kernel_rfl) ?_
        intro v21 I21 w21 le21 h21 s
        replace ht := Ev.TRep.mono le21 ht
        replace h14_0 := Ev.TRep.mono le21 h14_0
        replace h20_0 := Ev.TRep.mono le21 h20_0
        obtain rfl := h21
        refine ops_rule (C := []) [((φ1 0), .cells #[.bool bi, .pointer pi] 26)] [] 1 [] 0 (fun φ22 => [(14, .bool t.right.isZero)]) (fun φ22 => [((φ1 0), .cells #[.bool bi, .pointer pi] 26)]) (fun φ22 => []) s trivial (fun φ22 => by kernel_rfl) ?_
        intro φ22 w22 s
        refine ops_done (by kernel_rfl) ?_
        rcases Bool.eq_false_or_eq_true (t.right.isZero) with hc23 | hc23
        ·
          rw [hc23]
          refine cond_true_rule (b := true) (by kernel_rfl) rfl ?_
          refine wp_seq ?_
          refine region_rule ?_
          refine ops_rule (C := []) [((φ1 0), .cells #[.bool bi, .pointer pi] 26)] [] 1 [] 0 (fun φ24 => [(2, .int .u64 2)]) (fun φ24 => [((φ1 0), .cells #[.bool bi, .pointer pi] 26)]) (fun φ24 => []) s trivial (fun φ24 => by kernel_rfl) ?_
          intro φ24 w24 s
          refine ops_done (by kernel_rfl) ?_
          refine wp_ret ?_
          refine ret_rule (C := []) [((φ1 0), .cells #[.bool bi, .pointer pi] 26)] [] (.int .u64 2) [] [] s trivial (by kernel_rfl) ?_
          exact ⟨_, _, _, rfl, s, (by unfold idK; simp [hc5, hc11, hc17, hc23])⟩
        ·
          rw [hc23]
          refine cond_false_rule (b := false) (by kernel_rfl) rfl ?_
          refine wp_skip ?_
          refine wp_seq ?_
          refine region_rule ?_
          refine ops_rule (C := []) [((φ1 0), .cells #[.bool bi, .pointer pi] 26)] [] 1 [] 0 (fun φ25 => [(2, .int .u64 3)]) (fun φ25 => [((φ1 0), .cells #[.bool bi, .pointer pi] 26)]) (fun φ25 => []) s trivial (fun φ25 => by kernel_rfl) ?_
          intro φ25 w25 s
          refine ops_done (by kernel_rfl) ?_
          refine wp_ret ?_
          refine ret_rule (C := []) [((φ1 0), .cells #[.bool bi, .pointer pi] 26)] [] (.int .u64 3) [] [] s trivial (by kernel_rfl) ?_
          exact ⟨_, _, _, rfl, s, (by unfold idK; simp [hc5, hc11, hc17, hc23])⟩

set_option maxHeartbeats 400000 in
theorem leafBit_c {I : IM} {t : Ev.T} {bi : Bool} {pi : Option Addr} (ht : Ev.TRep I t bi pi) : Fun Try.prog 54 #[.agg #[.bool bi, .pointer pi]] I (fun v J => v = .int .u64 ((lbT t : Nat) : Int)) := by
  refine enter_rule 5 [(0, .agg #[.bool bi, .pointer pi])] Try.func54 rfl (by kernel_rfl) ?_
  intro w s
  refine wp_seq ?_
  refine region_rule ?_
  refine ops_rule (C := []) [] [] 2 [] 1 (fun φ1 => [(2, .int .u64 0), (1, .pointer (some ⟨(φ1 0), 0, none⟩))]) (fun φ1 => [((φ1 0), .cells #[.bool bi, .pointer pi] 26)]) (fun φ1 => []) s trivial (fun φ1 => by kernel_rfl) ?_
  intro φ1 w1 s
  refine ops_done (by kernel_rfl) ?_
  refine wp_seq ?_
  refine wp_seq ?_
  refine region_rule ?_
  refine ops_rule (C := []) [((φ1 0), .cells #[.bool bi, .pointer pi] 26)] [] 1 [.o 0, .o 0] 0 (fun φ2 => [(3, .agg #[.bool bi, .pointer pi])]) (fun φ2 => [((φ1 0), .cells #[.bool bi, .pointer pi] 26)]) (fun φ2 => [(φ1 0), (φ1 0)]) s trivial (fun φ2 => by kernel_rfl) ?_
  intro φ2 w2 s
  refine call_rule (some 4) s (Ev.isOne_c ht) (by kernel_rfl) ?_
  intro v3 I3 w3 le3 h3 s
  replace ht := Ev.TRep.mono le3 ht
  obtain rfl := h3
  refine ops_done (by kernel_rfl) ?_
  rcases Bool.eq_false_or_eq_true (t.isOne) with hc4 | hc4
  ·
    rw [hc4]
    refine cond_true_rule (b := true) (by kernel_rfl) rfl ?_
    refine wp_seq ?_
    refine region_rule ?_
    refine ops_rule (C := []) [((φ1 0), .cells #[.bool bi, .pointer pi] 26)] [] 1 [] 0 (fun φ5 => [(2, .int .u64 1)]) (fun φ5 => [((φ1 0), .cells #[.bool bi, .pointer pi] 26)]) (fun φ5 => []) s trivial (fun φ5 => by kernel_rfl) ?_
    intro φ5 w5 s
    refine ops_done (by kernel_rfl) ?_
    refine wp_ret ?_
    refine ret_rule (C := []) [((φ1 0), .cells #[.bool bi, .pointer pi] 26)] [] (.int .u64 1) [] [] s trivial (by kernel_rfl) ?_
    exact ⟨_, _, _, rfl, s, (by unfold lbT; simp [hc4])⟩
  ·
    rw [hc4]
    refine cond_false_rule (b := false) (by kernel_rfl) rfl ?_
    refine wp_skip ?_
    refine wp_seq ?_
    refine region_rule ?_
    refine ops_rule (C := []) [((φ1 0), .cells #[.bool bi, .pointer pi] 26)] [] 1 [] 0 (fun φ6 => [(2, .int .u64 0)]) (fun φ6 => [((φ1 0), .cells #[.bool bi, .pointer pi] 26)]) (fun φ6 => []) s trivial (fun φ6 => by kernel_rfl) ?_
    intro φ6 w6 s
    refine ops_done (by kernel_rfl) ?_
    refine wp_ret ?_
    refine ret_rule (C := []) [((φ1 0), .cells #[.bool bi, .pointer pi] 26)] [] (.int .u64 0) [] [] s trivial (by kernel_rfl) ?_
    exact ⟨_, _, _, rfl, s, (by unfold lbT; simp [hc4])⟩

theorem lbT_lt (t : Ev.T) : lbT t < 2 := by unfold lbT; split <;> omega

set_option maxHeartbeats 2000000 in
theorem putID_step {I : IM} {t : Ev.T} {bi : Bool} {pi : Option Addr} (ht : Ev.TRep I t bi pi) {b cnt : Nat} {bs : List Bool} {v0 : Value} {F : List OB} (hc : cnt = bs.length) (hlen : bs.length + (idB t).length ≤ 700000) (h : RowH 5 1 v0 (pk bs).length ((pk bs).map bV) F) (ihl : (idK t ≠ 0 → idK t ≠ 1 → ∀ {J : IM} {b1 : Bool} {p1 : Option Addr} {cnt : Nat} {bs : List Bool} {v0 : Value} {F : List OB}, Ev.TRep J t.left b1 p1 → cnt = bs.length → bs.length + (idB t.left).length ≤ 700000 → RowH 5 1 v0 (pk bs).length ((pk bs).map bV) F → FunM Try.prog 24 #[.pointer (some ⟨b, 0, none⟩), .agg #[.bool b1, .pointer p1]] J ((b, .cells #[v0, .int .i64 ((cnt : Nat) : Int)] 91) :: F) (fun v J H' => ∃ (b' : OB) (F' : List OB), H' = b' :: F' ∧ b'.1 = b ∧ ∃ v', v = .tuple #[] ∧ b' = (b, .cells #[v', .int .i64 ((cnt + (idB t.left).length : Nat) : Int)] 91) ∧ RowH 5 1 v' (pk (bs ++ idB t.left)).length ((pk (bs ++ idB t.left)).map bV) F'))) (ihr : (idK t ≠ 0 → idK t ≠ 2 → ∀ {J : IM} {b1 : Bool} {p1 : Option Addr} {cnt : Nat} {bs : List Bool} {v0 : Value} {F : List OB}, Ev.TRep J t.right b1 p1 → cnt = bs.length → bs.length + (idB t.right).length ≤ 700000 → RowH 5 1 v0 (pk bs).length ((pk bs).map bV) F → FunM Try.prog 24 #[.pointer (some ⟨b, 0, none⟩), .agg #[.bool b1, .pointer p1]] J ((b, .cells #[v0, .int .i64 ((cnt : Nat) : Int)] 91) :: F) (fun v J H' => ∃ (b' : OB) (F' : List OB), H' = b' :: F' ∧ b'.1 = b ∧ ∃ v', v = .tuple #[] ∧ b' = (b, .cells #[v', .int .i64 ((cnt + (idB t.right).length : Nat) : Int)] 91) ∧ RowH 5 1 v' (pk (bs ++ idB t.right)).length ((pk (bs ++ idB t.right)).map bV) F'))) : FunM Try.prog 24 #[.pointer (some ⟨b, 0, none⟩), .agg #[.bool bi, .pointer pi]] I ((b, .cells #[v0, .int .i64 ((cnt : Nat) : Int)] 91) :: F) (fun v J H' => ∃ (b' : OB) (F' : List OB), H' = b' :: F' ∧ b'.1 = b ∧ ∃ v', v = .tuple #[] ∧ b' = (b, .cells #[v', .int .i64 ((cnt + (idB t).length : Nat) : Int)] 91) ∧ RowH 5 1 v' (pk (bs ++ idB t)).length ((pk (bs ++ idB t)).map bV) F') := by
  refine enterM_rule 28 [(0, .pointer (some ⟨b, 0, none⟩)), (1, .agg #[.bool bi, .pointer pi])] Try.func24 rfl (by kernel_rfl) ?_
  intro w s
  refine wp_seq ?_
  refine region_rule ?_
  refine ops_rule (C := []) [(b, .cells #[v0, .int .i64 ((cnt : Nat) : Int)] 91)] F 1 [] 1 (fun φ1 => [(3, .pointer (some ⟨(φ1 0), 0, none⟩))]) (fun φ1 => [(b, .cells #[v0, .int .i64 ((cnt : Nat) : Int)] 91), ((φ1 0), .cells #[.bool bi, .pointer pi] 26)]) (fun φ1 => []) s trivial (fun φ1 => by kernel_rfl) ?_
  intro φ1 w1 s
  refine ops_done (by kernel_rfl) ?_
  refine wp_seq ?_
  refine region_rule ?_
  refine ops_rule (C := []) [(b, .cells #[v0, .int .i64 ((cnt : Nat) : Int)] 91), ((φ1 0), .cells #[.bool bi, .pointer pi] 26)] F 1 [.o 1, .o 1] 0 (fun φ2 => [(5, .agg #[.bool bi, .pointer pi])]) (fun φ2 => [(b, .cells #[v0, .int .i64 ((cnt : Nat) : Int)] 91), ((φ1 0), .cells #[.bool bi, .pointer pi] 26)]) (fun φ2 => [(φ1 0), (φ1 0)]) s trivial (fun φ2 => by kernel_rfl) ?_
  intro φ2 w2 s
  refine call_rule (some 6) s (idKind_c ht) (by kernel_rfl) ?_
  intro v3 I3 w3 le3 h3 s
  replace ht := Ev.TRep.mono le3 ht
  obtain rfl := h3
  refine ops_rule (C := []) [(b, .cells #[v0, .int .i64 ((cnt : Nat) : Int)] 91), ((φ1 0), .cells #[.bool bi, .pointer pi] 26)] F 1 [] 0 (fun φ4 => [(4, .int .u64 ((idK t : Nat) : Int))]) (fun φ4 => [(b, .cells #[v0, .int .i64 ((cnt : Nat) : Int)] 91), ((φ1 0), .cells #[.bool bi, .pointer pi] 26)]) (fun φ4 => []) s trivial (fun φ4 => by kernel_rfl) ?_
  intro φ4 w4 s
  refine ops_done (by kernel_rfl) ?_
  refine wp_seq ?_
  refine region_rule ?_
  refine ops_rule (C := []) [(b, .cells #[v0, .int .i64 ((cnt : Nat) : Int)] 91), ((φ1 0), .cells #[.bool bi, .pointer pi] 26)] F 2 [] 0 (fun φ5 => [(8, .int .u64 ((idK t : Nat) : Int)), (7, .pointer (some ⟨b, 0, none⟩))]) (fun φ5 => [(b, .cells #[v0, .int .i64 ((cnt : Nat) : Int)] 91), ((φ1 0), .cells #[.bool bi, .pointer pi] 26)]) (fun φ5 => []) s trivial (fun φ5 => by kernel_rfl) ?_
  intro φ5 w5 s
  refine callH_rule (b := (b, .cells #[v0, .int .i64 ((cnt : Nat) : Int)] 91)) (H := [(b, .cells #[v0, .int .i64 ((cnt : Nat) : Int)] 91), ((φ1 0), .cells #[.bool bi, .pointer pi] 26)]) (F := F) (Hr := [((φ1 0), .cells #[.bool bi, .pointer pi] 26)]) (some 9) 0 s (by kernel_rfl) (by kernel_rfl) (put_c (b := b) (cnt := cnt) (bs := bs) (v0 := v0) (n := idK t) (k := 2) (by (try simp only [List.length_append, putBits_len]);  omega) (by have h7 := hlen; have h5 := idB_pos t; (try simp only [List.length_append, putBits_len]); omega) h (by have hk4 := idK_lt t; have hk5 : lbT t < 2 := lbT_lt t;  omega) (by have hk4 := idK_lt t; have hk5 : lbT t < 2 := lbT_lt t;  omega)) (by kernel_rfl) ?_
  rintro v6 I6 w6 b6 F6 le6 - h6 s
  replace ht := Ev.TRep.mono le6 ht
  obtain ⟨v6, rfl, rfl, hr6⟩ := h6
  refine ops_done (by kernel_rfl) ?_
  refine wp_seq ?_
  refine wp_seq ?_
  refine region_rule ?_
  refine ops_rule (C := []) [(b, .cells #[v6, .int .i64 ((cnt + 2 : Nat) : Int)] 91), ((φ1 0), .cells #[.bool bi, .pointer pi] 26)] F6 2 [] 0 (fun φ7 => [(11, .bool (((idK t : Nat) : Int) == ((0 : Nat) : Int))), (10, .int .u64 ((idK t : Nat) : Int))]) (fun φ7 => [(b, .cells #[v6, .int .i64 ((cnt + 2 : Nat) : Int)] 91), ((φ1 0), .cells #[.bool bi, .pointer pi] 26)]) (fun φ7 => []) s trivial (fun φ7 => by kernel_rfl) ?_
  intro φ7 w7 s
  rw [nat_eql (a := (idK t)) (b := 0)]
  refine ops_done (by kernel_rfl) ?_
  rcases Bool.eq_false_or_eq_true (decide ((idK t) = 0)) with hc8 | hc8
  ·
    rw [hc8]
    refine cond_true_rule (b := true) (by kernel_rfl) rfl ?_
    refine wp_seq ?_
    refine region_rule ?_
    refine ops_rule (C := []) [(b, .cells #[v6, .int .i64 ((cnt + 2 : Nat) : Int)] 91), ((φ1 0), .cells #[.bool bi, .pointer pi] 26)] F6 2 [.o 1, .o 1] 0 (fun φ9 => [(13, .agg #[.bool bi, .pointer pi]), (12, .pointer (some ⟨b, 0, none⟩))]) (fun φ9 => [(b, .cells #[v6, .int .i64 ((cnt + 2 : Nat) : Int)] 91), ((φ1 0), .cells #[.bool bi, .pointer pi] 26)]) (fun φ9 => [(φ1 0), (φ1 0)]) s trivial (fun φ9 => by kernel_rfl) ?_
    intro φ9 w9 s
    refine call_rule (some 14) s (leafBit_c ht) (by kernel_rfl) ?_
    intro v10 I10 w10 le10 h10 s
    replace ht := Ev.TRep.mono le10 ht
    obtain rfl := h10
    refine callH_rule (b := (b, .cells #[v6, .int .i64 ((cnt + 2 : Nat) : Int)] 91)) (H := [(b, .cells #[v6, .int .i64 ((cnt + 2 : Nat) : Int)] 91), ((φ1 0), .cells #[.bool bi, .pointer pi] 26)]) (F := F6) (Hr := [((φ1 0), .cells #[.bool bi, .pointer pi] 26)]) (some 15) 0 s (by kernel_rfl) (by kernel_rfl) (put_c (b := b) (cnt := cnt + 2) (bs := (bs ++ putBits (idK t) 2)) (v0 := v6) (n := lbT t) (k := 1) (by (try simp only [List.length_append, putBits_len]);  omega) (by have h7 := hlen; have h6 := congrArg List.length (idB_leaf (of_decide_eq_true hc8)); simp only [List.length_append, putBits_len] at h6; (try simp only [List.length_append, putBits_len]); omega) hr6 (by have hk4 := idK_lt t; have hk5 : lbT t < 2 := lbT_lt t; have hq0 := of_decide_eq_true hc8; omega) (by have hk4 := idK_lt t; have hk5 : lbT t < 2 := lbT_lt t; have hq0 := of_decide_eq_true hc8; omega)) (by kernel_rfl) ?_
    rintro v11 I11 w11 b11 F11 le11 - h11 s
    replace ht := Ev.TRep.mono le11 ht
    obtain ⟨v11, rfl, rfl, hr11⟩ := h11
    refine ops_done (by kernel_rfl) ?_
    refine wp_ret ?_
    refine ret_rule (C := []) [(b, .cells #[v11, .int .i64 ((cnt + 2 + 1 : Nat) : Int)] 91), ((φ1 0), .cells #[.bool bi, .pointer pi] 26)] F11 (.tuple #[]) [] [] s trivial (by kernel_rfl) ?_
    replace s := s.drop (List.Sublist.append (List.Sublist.cons₂ _ (List.Sublist.cons _ List.Sublist.slnil)) (List.Sublist.refl F11))
    have hz9 : ((bs ++ putBits (idK t) 2) ++ putBits (lbT t) 1) = bs ++ idB t := by
      rw [idB_leaf (of_decide_eq_true hc8), List.append_assoc]
    have hL9 := congrArg List.length hz9
    simp only [List.length_append, putBits_len] at hL9
    have hc9 : cnt + 2 + 1 = cnt + (idB t).length := (by omega)
    exact ⟨_, _, _, rfl, s, ⟨_, _, rfl, rfl, _, rfl, by rw [hc9], row_cast hr11 (congrArg pk hz9)⟩⟩
  ·
    rw [hc8]
    refine cond_false_rule (b := false) (by kernel_rfl) rfl ?_
    refine wp_skip ?_
    refine wp_seq ?_
    refine wp_seq ?_
    refine region_rule ?_
    refine ops_rule (C := []) [(b, .cells #[v6, .int .i64 ((cnt + 2 : Nat) : Int)] 91), ((φ1 0), .cells #[.bool bi, .pointer pi] 26)] F6 2 [] 0 (fun φ12 => [(17, .bool (((idK t : Nat) : Int) != ((1 : Nat) : Int))), (16, .int .u64 ((idK t : Nat) : Int))]) (fun φ12 => [(b, .cells #[v6, .int .i64 ((cnt + 2 : Nat) : Int)] 91), ((φ1 0), .cells #[.bool bi, .pointer pi] 26)]) (fun φ12 => []) s trivial (fun φ12 => by kernel_rfl) ?_
    intro φ12 w12 s
    rw [nat_neq (a := (idK t)) (b := 1)]
    refine ops_done (by kernel_rfl) ?_
    rcases Bool.eq_false_or_eq_true (decide ((idK t) ≠ 1)) with hc13 | hc13
    ·
      rw [hc13]
      refine cond_true_rule (b := true) (by kernel_rfl) rfl ?_
      refine region_rule ?_
      refine ops_rule (C := []) [(b, .cells #[v6, .int .i64 ((cnt + 2 : Nat) : Int)] 91), ((φ1 0), .cells #[.bool bi, .pointer pi] 26)] F6 2 [.o 1, .o 1] 0 (fun φ14 => [(19, .agg #[.bool bi, .pointer pi]), (18, .pointer (some ⟨b, 0, none⟩))]) (fun φ14 => [(b, .cells #[v6, .int .i64 ((cnt + 2 : Nat) : Int)] 91), ((φ1 0), .cells #[.bool bi, .pointer pi] 26)]) (fun φ14 => [(φ1 0), (φ1 0)]) s trivial (fun φ14 => by kernel_rfl) ?_
      intro φ14 w14 s
      refine call_rule (some 20) s (Ev.tleft_c ht) (by kernel_rfl) ?_
      intro v15 I15 w15 le15 h15 s
      replace ht := Ev.TRep.mono le15 ht
      obtain ⟨b15, p15, rfl, h15_0⟩ := h15
      refine callH_rule (b := (b, .cells #[v6, .int .i64 ((cnt + 2 : Nat) : Int)] 91)) (H := [(b, .cells #[v6, .int .i64 ((cnt + 2 : Nat) : Int)] 91), ((φ1 0), .cells #[.bool bi, .pointer pi] 26)]) (F := F6) (Hr := [((φ1 0), .cells #[.bool bi, .pointer pi] 26)]) (some 21) 0 s (by kernel_rfl) (by kernel_rfl) (ihl (of_decide_eq_false hc8) (of_decide_eq_true hc13) (cnt := cnt + 2) (bs := (bs ++ putBits (idK t) 2)) (v0 := v6) h15_0 (by (try simp only [List.length_append, putBits_len]);  omega) (by have h7 := hlen; have h6 := congrArg List.length (idB_pair (of_decide_eq_false hc8)); rw [if_neg (of_decide_eq_true hc13)] at h6; simp only [List.length_append, putBits_len] at h6; (try simp only [List.length_append, putBits_len]); omega) hr6) (by kernel_rfl) ?_
      rintro v16 I16 w16 b16 F16 le16 - h16 s
      replace ht := Ev.TRep.mono le16 ht
      replace h15_0 := Ev.TRep.mono le16 h15_0
      obtain ⟨v16, rfl, rfl, hr16⟩ := h16
      refine ops_done (by kernel_rfl) ?_
      refine wp_seq ?_
      refine region_rule ?_
      refine ops_rule (C := []) [(b, .cells #[v16, .int .i64 ((cnt + 2 + (idB t.left).length : Nat) : Int)] 91), ((φ1 0), .cells #[.bool bi, .pointer pi] 26)] F16 2 [] 0 (fun φ17 => [(23, .bool (((idK t : Nat) : Int) != ((2 : Nat) : Int))), (22, .int .u64 ((idK t : Nat) : Int))]) (fun φ17 => [(b, .cells #[v16, .int .i64 ((cnt + 2 + (idB t.left).length : Nat) : Int)] 91), ((φ1 0), .cells #[.bool bi, .pointer pi] 26)]) (fun φ17 => []) s trivial (fun φ17 => by kernel_rfl) ?_
      intro φ17 w17 s
      rw [nat_neq (a := (idK t)) (b := 2)]
      refine ops_done (by kernel_rfl) ?_
      rcases Bool.eq_false_or_eq_true (decide ((idK t) ≠ 2)) with hc18 | hc18
      ·
        rw [hc18]
        refine cond_true_rule (b := true) (by kernel_rfl) rfl ?_
        refine region_rule ?_
        refine ops_rule (C := []) [(b, .cells #[v16, .int .i64 ((cnt + 2 + (idB t.left).length : Nat) : Int)] 91), ((φ1 0), .cells #[.bool bi, .pointer pi] 26)] F16 2 [.o 1, .o 1] 0 (fun φ19 => [(25, .agg #[.bool bi, .pointer pi]), (24, .pointer (some ⟨b, 0, none⟩))]) (fun φ19 => [(b, .cells #[v16, .int .i64 ((cnt + 2 + (idB t.left).length : Nat) : Int)] 91), ((φ1 0), .cells #[.bool bi, .pointer pi] 26)]) (fun φ19 => [(φ1 0), (φ1 0)]) s trivial (fun φ19 => by kernel_rfl) ?_
        intro φ19 w19 s
        refine call_rule (some 26) s (Ev.tright_c ht) (by kernel_rfl) ?_
        intro v20 I20 w20 le20 h20 s
        replace ht := Ev.TRep.mono le20 ht
        replace h15_0 := Ev.TRep.mono le20 h15_0
        obtain ⟨b20, p20, rfl, h20_0⟩ := h20
        refine callH_rule (b := (b, .cells #[v16, .int .i64 ((cnt + 2 + (idB t.left).length : Nat) : Int)] 91)) (H := [(b, .cells #[v16, .int .i64 ((cnt + 2 + (idB t.left).length : Nat) : Int)] 91), ((φ1 0), .cells #[.bool bi, .pointer pi] 26)]) (F := F16) (Hr := [((φ1 0), .cells #[.bool bi, .pointer pi] 26)]) (some 27) 0 s (by kernel_rfl) (by kernel_rfl) (ihr (of_decide_eq_false hc8) (of_decide_eq_true hc18) (cnt := cnt + 2 + (idB t.left).length) (bs := ((bs ++ putBits (idK t) 2) ++ idB t.left)) (v0 := v16) h20_0 (by (try simp only [List.length_append, putBits_len]);  omega) (by have h7 := hlen; have h6 := congrArg List.length (idB_pair (of_decide_eq_false hc8)); rw [if_neg (of_decide_eq_true hc13)] at h6; rw [if_neg (of_decide_eq_true hc18)] at h6; simp only [List.length_append, putBits_len] at h6; (try simp only [List.length_append, putBits_len]); omega) hr16) (by kernel_rfl) ?_
        rintro v21 I21 w21 b21 F21 le21 - h21 s
        replace ht := Ev.TRep.mono le21 ht
        replace h15_0 := Ev.TRep.mono le21 h15_0
        replace h20_0 := Ev.TRep.mono le21 h20_0
        obtain ⟨v21, rfl, rfl, hr21⟩ := h21
        refine ops_done (by kernel_rfl) ?_
        refine end_rule (C := []) [(b, .cells #[v21, .int .i64 ((cnt + 2 + (idB t.left).length + (idB t.right).length : Nat) : Int)] 91), ((φ1 0), .cells #[.bool bi, .pointer pi] 26)] F21 (.tuple #[]) [] [] s trivial (by kernel_rfl) ?_
        replace s := s.drop (List.Sublist.append (List.Sublist.cons₂ _ (List.Sublist.cons _ List.Sublist.slnil)) (List.Sublist.refl F21))
        have hz9 : (((bs ++ putBits (idK t) 2) ++ idB t.left) ++ idB t.right) = bs ++ idB t := by
          rw [idB_pair (of_decide_eq_false hc8), if_neg (of_decide_eq_true hc13), if_neg (of_decide_eq_true hc18)]
          simp
        have hL9 := congrArg List.length hz9
        simp only [List.length_append, putBits_len] at hL9
        have hc9 : cnt + 2 + (idB t.left).length + (idB t.right).length = cnt + (idB t).length := (by omega)
        exact ⟨_, _, _, rfl, s, ⟨_, _, rfl, rfl, _, rfl, by rw [hc9], row_cast hr21 (congrArg pk hz9)⟩⟩
      ·
        rw [hc18]
        refine cond_false_rule (b := false) (by kernel_rfl) rfl ?_
        refine wp_skip ?_
        refine end_rule (C := []) [(b, .cells #[v16, .int .i64 ((cnt + 2 + (idB t.left).length : Nat) : Int)] 91), ((φ1 0), .cells #[.bool bi, .pointer pi] 26)] F16 (.tuple #[]) [] [] s trivial (by kernel_rfl) ?_
        replace s := s.drop (List.Sublist.append (List.Sublist.cons₂ _ (List.Sublist.cons _ List.Sublist.slnil)) (List.Sublist.refl F16))
        have hz9 : ((bs ++ putBits (idK t) 2) ++ idB t.left) = bs ++ idB t := by
          rw [idB_pair (of_decide_eq_false hc8), if_neg (of_decide_eq_true hc13), if_pos (Decidable.not_not.1 (of_decide_eq_false hc18))]
          simp
        have hL9 := congrArg List.length hz9
        simp only [List.length_append, putBits_len] at hL9
        have hc9 : cnt + 2 + (idB t.left).length = cnt + (idB t).length := (by omega)
        exact ⟨_, _, _, rfl, s, ⟨_, _, rfl, rfl, _, rfl, by rw [hc9], row_cast hr16 (congrArg pk hz9)⟩⟩
    ·
      rw [hc13]
      refine cond_false_rule (b := false) (by kernel_rfl) rfl ?_
      refine wp_skip ?_
      refine wp_seq ?_
      refine region_rule ?_
      refine ops_rule (C := []) [(b, .cells #[v6, .int .i64 ((cnt + 2 : Nat) : Int)] 91), ((φ1 0), .cells #[.bool bi, .pointer pi] 26)] F6 2 [] 0 (fun φ22 => [(23, .bool (((idK t : Nat) : Int) != ((2 : Nat) : Int))), (22, .int .u64 ((idK t : Nat) : Int))]) (fun φ22 => [(b, .cells #[v6, .int .i64 ((cnt + 2 : Nat) : Int)] 91), ((φ1 0), .cells #[.bool bi, .pointer pi] 26)]) (fun φ22 => []) s trivial (fun φ22 => by kernel_rfl) ?_
      intro φ22 w22 s
      rw [nat_neq (a := (idK t)) (b := 2)]
      refine ops_done (by kernel_rfl) ?_
      rcases Bool.eq_false_or_eq_true (decide ((idK t) ≠ 2)) with hc23 | hc23
      ·
        rw [hc23]
        refine cond_true_rule (b := true) (by kernel_rfl) rfl ?_
        refine region_rule ?_
        refine ops_rule (C := []) [(b, .cells #[v6, .int .i64 ((cnt + 2 : Nat) : Int)] 91), ((φ1 0), .cells #[.bool bi, .pointer pi] 26)] F6 2 [.o 1, .o 1] 0 (fun φ24 => [(25, .agg #[.bool bi, .pointer pi]), (24, .pointer (some ⟨b, 0, none⟩))]) (fun φ24 => [(b, .cells #[v6, .int .i64 ((cnt + 2 : Nat) : Int)] 91), ((φ1 0), .cells #[.bool bi, .pointer pi] 26)]) (fun φ24 => [(φ1 0), (φ1 0)]) s trivial (fun φ24 => by kernel_rfl) ?_
        intro φ24 w24 s
        refine call_rule (some 26) s (Ev.tright_c ht) (by kernel_rfl) ?_
        intro v25 I25 w25 le25 h25 s
        replace ht := Ev.TRep.mono le25 ht
        obtain ⟨b25, p25, rfl, h25_0⟩ := h25
        refine callH_rule (b := (b, .cells #[v6, .int .i64 ((cnt + 2 : Nat) : Int)] 91)) (H := [(b, .cells #[v6, .int .i64 ((cnt + 2 : Nat) : Int)] 91), ((φ1 0), .cells #[.bool bi, .pointer pi] 26)]) (F := F6) (Hr := [((φ1 0), .cells #[.bool bi, .pointer pi] 26)]) (some 27) 0 s (by kernel_rfl) (by kernel_rfl) (ihr (of_decide_eq_false hc8) (of_decide_eq_true hc23) (cnt := cnt + 2) (bs := (bs ++ putBits (idK t) 2)) (v0 := v6) h25_0 (by (try simp only [List.length_append, putBits_len]);  omega) (by have h7 := hlen; have h6 := congrArg List.length (idB_pair (of_decide_eq_false hc8)); rw [if_pos (Decidable.not_not.1 (of_decide_eq_false hc13))] at h6; rw [if_neg (of_decide_eq_true hc23)] at h6; simp only [List.length_append, putBits_len] at h6; (try simp only [List.length_append, putBits_len]); omega) hr6) (by kernel_rfl) ?_
        rintro v26 I26 w26 b26 F26 le26 - h26 s
        replace ht := Ev.TRep.mono le26 ht
        replace h25_0 := Ev.TRep.mono le26 h25_0
        obtain ⟨v26, rfl, rfl, hr26⟩ := h26
        refine ops_done (by kernel_rfl) ?_
        refine end_rule (C := []) [(b, .cells #[v26, .int .i64 ((cnt + 2 + (idB t.right).length : Nat) : Int)] 91), ((φ1 0), .cells #[.bool bi, .pointer pi] 26)] F26 (.tuple #[]) [] [] s trivial (by kernel_rfl) ?_
        replace s := s.drop (List.Sublist.append (List.Sublist.cons₂ _ (List.Sublist.cons _ List.Sublist.slnil)) (List.Sublist.refl F26))
        have hz9 : ((bs ++ putBits (idK t) 2) ++ idB t.right) = bs ++ idB t := by
          rw [idB_pair (of_decide_eq_false hc8), if_pos (Decidable.not_not.1 (of_decide_eq_false hc13)), if_neg (of_decide_eq_true hc23)]
          simp
        have hL9 := congrArg List.length hz9
        simp only [List.length_append, putBits_len] at hL9
        have hc9 : cnt + 2 + (idB t.right).length = cnt + (idB t).length := (by omega)
        exact ⟨_, _, _, rfl, s, ⟨_, _, rfl, rfl, _, rfl, by rw [hc9], row_cast hr26 (congrArg pk hz9)⟩⟩
      ·
        rw [hc23]
        refine cond_false_rule (b := false) (by kernel_rfl) rfl ?_
        refine wp_skip ?_
        refine end_rule (C := []) [(b, .cells #[v6, .int .i64 ((cnt + 2 : Nat) : Int)] 91), ((φ1 0), .cells #[.bool bi, .pointer pi] 26)] F6 (.tuple #[]) [] [] s trivial (by kernel_rfl) ?_
        replace s := s.drop (List.Sublist.append (List.Sublist.cons₂ _ (List.Sublist.cons _ List.Sublist.slnil)) (List.Sublist.refl F6))
        have hz9 : (bs ++ putBits (idK t) 2) = bs ++ idB t := by
          rw [idB_pair (of_decide_eq_false hc8), if_pos (Decidable.not_not.1 (of_decide_eq_false hc13)), if_pos (Decidable.not_not.1 (of_decide_eq_false hc23))]
          simp
        have hL9 := congrArg List.length hz9
        simp only [List.length_append, putBits_len] at hL9
        have hc9 : cnt + 2 = cnt + (idB t).length := (by omega)
        exact ⟨_, _, _, rfl, s, ⟨_, _, rfl, rfl, _, rfl, by rw [hc9], row_cast hr6 (congrArg pk hz9)⟩⟩

end Go.Proofs.Ytgmigcmhnmmdkaa
/- Events are written. -/
set_option linter.all false
set_option maxRecDepth 100000
namespace Go.Proofs.Ytgmigcmhnmmdkaa
open Go.RowKit Go.Sep
attribute [local irreducible] Go.wpList Go.Code.wp

theorem putID_c : ∀ (t : Ev.T) {I : IM} {bi : Bool} {pi : Option Addr} {b cnt : Nat} {bs : List Bool} {v0 : Value} {F : List OB}, Ev.TRep I t bi pi → cnt = bs.length → bs.length + (idB t).length ≤ 700000 → RowH 5 1 v0 (pk bs).length ((pk bs).map bV) F → FunM Try.prog 24 #[.pointer (some ⟨b, 0, none⟩), .agg #[.bool bi, .pointer pi]] I ((b, .cells #[v0, .int .i64 ((cnt : Nat) : Int)] 91) :: F) (fun v J H' => ∃ (b' : OB) (F' : List OB), H' = b' :: F' ∧ b'.1 = b ∧ ∃ v', v = .tuple #[] ∧ b' = (b, .cells #[v', .int .i64 ((cnt + (idB t).length : Nat) : Int)] 91) ∧ RowH 5 1 v' (pk (bs ++ idB t)).length ((pk (bs ++ idB t)).map bV) F')
  | .zero, _, _, _, _, _, _, _, _, ht, hc, hlen, h => putID_step ht hc hlen h (fun q => absurd rfl q) (fun q => absurd rfl q)
  | .one, _, _, _, _, _, _, _, _, ht, hc, hlen, h => putID_step ht hc hlen h (fun q => absurd rfl q) (fun q => absurd rfl q)
  | .node l r, _, _, _, _, _, _, _, _, ht, hc, hlen, h => putID_step ht hc hlen h (fun _ _ {J} {b1} {p1} {cnt} {bs} {v0} {F} a1 a2 a3 a4 => putID_c l a1 a2 a3 a4) (fun _ _ {J} {b1} {p1} {cnt} {bs} {v0} {F} a1 a2 a3 a4 => putID_c r a1 a2 a3 a4)

set_option maxHeartbeats 400000 in
theorem isNought_c {I : IM} {e : Ev.E} {be : Nat} {pe : Option Addr} (he : Ev.ERep I e be pe) (htop : e.top < 18446744073709551616) : Fun Try.prog 82 #[.agg #[.int .u64 ((be : Nat) : Int), .pointer pe]] I (fun v J => v = .bool (decide (e.top = 0))) := by
  refine enter_rule 6 [(0, .agg #[.int .u64 ((be : Nat) : Int), .pointer pe])] Try.func82 rfl (by kernel_rfl) ?_
  intro w s
  refine wp_seq ?_
  refine region_rule ?_
  refine ops_rule (C := []) [] [] 2 [] 1 (fun φ1 => [(2, .bool false), (1, .pointer (some ⟨(φ1 0), 0, none⟩))]) (fun φ1 => [((φ1 0), .cells #[.int .u64 ((be : Nat) : Int), .pointer pe] 30)]) (fun φ1 => []) s trivial (fun φ1 => by kernel_rfl) ?_
  intro φ1 w1 s
  refine ops_done (by kernel_rfl) ?_
  refine wp_seq ?_
  refine region_rule ?_
  refine ops_rule (C := []) [((φ1 0), .cells #[.int .u64 ((be : Nat) : Int), .pointer pe] 30)] [] 1 [.o 0, .o 0] 0 (fun φ2 => [(3, .agg #[.int .u64 ((be : Nat) : Int), .pointer pe])]) (fun φ2 => [((φ1 0), .cells #[.int .u64 ((be : Nat) : Int), .pointer pe] 30)]) (fun φ2 => [(φ1 0), (φ1 0)]) s trivial (fun φ2 => by kernel_rfl) ?_
  intro φ2 w2 s
  refine call_rule (some 4) s (Ev.max_c he (htop)) (by kernel_rfl) ?_
  intro v3 I3 w3 le3 h3 s
  replace he := Ev.ERep.mono le3 he
  obtain rfl := h3
  refine ops_rule (C := []) [((φ1 0), .cells #[.int .u64 ((be : Nat) : Int), .pointer pe] 30)] [] 2 [] 0 (fun φ4 => [(2, .bool (((e.top : Nat) : Int) == ((0 : Nat) : Int))), (5, .bool (((e.top : Nat) : Int) == ((0 : Nat) : Int)))]) (fun φ4 => [((φ1 0), .cells #[.int .u64 ((be : Nat) : Int), .pointer pe] 30)]) (fun φ4 => []) s trivial (fun φ4 => by kernel_rfl) ?_
  intro φ4 w4 s
  rw [nat_eql (a := e.top) (b := 0)]
  refine ops_done (by kernel_rfl) ?_
  refine wp_ret ?_
  refine ret_rule (C := []) [((φ1 0), .cells #[.int .u64 ((be : Nat) : Int), .pointer pe] 30)] [] (.bool (decide (e.top = 0))) [] [] s trivial (by kernel_rfl) ?_
  exact ⟨_, _, _, rfl, s, rfl⟩

set_option maxHeartbeats 400000 in
theorem halvesKind_c {I : IM} {e e2 : Ev.E} {be be2 : Nat} {pe pe2 : Option Addr} (he : Ev.ERep I e be pe) (he2 : Ev.ERep I e2 be2 pe2) (htop : e.top < 18446744073709551616) (htop2 : e2.top < 18446744073709551616) : Fun Try.prog 51 #[.agg #[.int .u64 ((be : Nat) : Int), .pointer pe], .agg #[.int .u64 ((be2 : Nat) : Int), .pointer pe2]] I (fun v J => v = .int .u64 ((kindE e e2 : Nat) : Int)) := by
  refine enter_rule 11 [(0, .agg #[.int .u64 ((be : Nat) : Int), .pointer pe]), (1, .agg #[.int .u64 ((be2 : Nat) : Int), .pointer pe2])] Try.func51 rfl (by kernel_rfl) ?_
  intro w s
  refine wp_seq ?_
  refine region_rule ?_
  refine ops_rule (C := []) [] [] 3 [] 2 (fun φ1 => [(4, .int .u64 0), (3, .pointer (some ⟨(φ1 1), 0, none⟩)), (2, .pointer (some ⟨(φ1 0), 0, none⟩))]) (fun φ1 => [((φ1 0), .cells #[.int .u64 ((be : Nat) : Int), .pointer pe] 30), ((φ1 1), .cells #[.int .u64 ((be2 : Nat) : Int), .pointer pe2] 30)]) (fun φ1 => []) s trivial (fun φ1 => by kernel_rfl) ?_
  intro φ1 w1 s
  refine ops_done (by kernel_rfl) ?_
  refine wp_seq ?_
  refine wp_block ?_
  refine wp_seq ?_
  refine region_rule ?_
  refine ops_rule (C := []) [((φ1 0), .cells #[.int .u64 ((be : Nat) : Int), .pointer pe] 30), ((φ1 1), .cells #[.int .u64 ((be2 : Nat) : Int), .pointer pe2] 30)] [] 1 [.o 0, .o 0] 0 (fun φ2 => [(6, .agg #[.int .u64 ((be : Nat) : Int), .pointer pe])]) (fun φ2 => [((φ1 0), .cells #[.int .u64 ((be : Nat) : Int), .pointer pe] 30), ((φ1 1), .cells #[.int .u64 ((be2 : Nat) : Int), .pointer pe2] 30)]) (fun φ2 => [(φ1 0), (φ1 0)]) s trivial (fun φ2 => by kernel_rfl) ?_
  intro φ2 w2 s
  refine call_rule (some 7) s (isNought_c he (htop)) (by kernel_rfl) ?_
  intro v3 I3 w3 le3 h3 s
  replace he := Ev.ERep.mono le3 he
  replace he2 := Ev.ERep.mono le3 he2
  obtain rfl := h3
  refine ops_rule (C := []) [((φ1 0), .cells #[.int .u64 ((be : Nat) : Int), .pointer pe] 30), ((φ1 1), .cells #[.int .u64 ((be2 : Nat) : Int), .pointer pe2] 30)] [] 1 [] 0 (fun φ4 => [(5, .bool (decide (e.top = 0)))]) (fun φ4 => [((φ1 0), .cells #[.int .u64 ((be : Nat) : Int), .pointer pe] 30), ((φ1 1), .cells #[.int .u64 ((be2 : Nat) : Int), .pointer pe2] 30)]) (fun φ4 => []) s trivial (fun φ4 => by kernel_rfl) ?_
  intro φ4 w4 s
  refine ops_done (by kernel_rfl) ?_
  rcases Bool.eq_false_or_eq_true (decide (e.top = 0)) with hc5 | hc5
  ·
    rw [hc5]
    refine cond_true_rule (b := true) (by kernel_rfl) rfl ?_
    refine wp_seq ?_
    refine region_rule ?_
    refine ops_rule (C := []) [((φ1 0), .cells #[.int .u64 ((be : Nat) : Int), .pointer pe] 30), ((φ1 1), .cells #[.int .u64 ((be2 : Nat) : Int), .pointer pe2] 30)] [] 1 [] 0 (fun φ6 => [(4, .int .u64 0)]) (fun φ6 => [((φ1 0), .cells #[.int .u64 ((be : Nat) : Int), .pointer pe] 30), ((φ1 1), .cells #[.int .u64 ((be2 : Nat) : Int), .pointer pe2] 30)]) (fun φ6 => []) s trivial (fun φ6 => by kernel_rfl) ?_
    intro φ6 w6 s
    refine ops_done (by kernel_rfl) ?_
    refine wp_ret ?_
    refine ret_rule (C := []) [((φ1 0), .cells #[.int .u64 ((be : Nat) : Int), .pointer pe] 30), ((φ1 1), .cells #[.int .u64 ((be2 : Nat) : Int), .pointer pe2] 30)] [] (.int .u64 0) [] [] s trivial (by kernel_rfl) ?_
    exact ⟨_, _, _, rfl, s, (by unfold kindE; rw [if_pos (of_decide_eq_true hc5)]; rfl)⟩
  ·
    rw [hc5]
    refine cond_false_rule (b := false) (by kernel_rfl) rfl ?_
    refine wp_seq ?_
    refine region_rule ?_
    refine ops_rule (C := []) [((φ1 0), .cells #[.int .u64 ((be : Nat) : Int), .pointer pe] 30), ((φ1 1), .cells #[.int .u64 ((be2 : Nat) : Int), .pointer pe2] 30)] [] 1 [.o 1, .o 1] 0 (fun φ7 => [(9, .agg #[.int .u64 ((be2 : Nat) : Int), .pointer pe2])]) (fun φ7 => [((φ1 0), .cells #[.int .u64 ((be : Nat) : Int), .pointer pe] 30), ((φ1 1), .cells #[.int .u64 ((be2 : Nat) : Int), .pointer pe2] 30)]) (fun φ7 => [(φ1 1), (φ1 1)]) s trivial (fun φ7 => by kernel_rfl) ?_
    intro φ7 w7 s
    refine call_rule (some 10) s (isNought_c he2 (htop2)) (by kernel_rfl) ?_
    intro v8 I8 w8 le8 h8 s
    replace he := Ev.ERep.mono le8 he
    replace he2 := Ev.ERep.mono le8 he2
    obtain rfl := h8
    refine ops_rule (C := []) [((φ1 0), .cells #[.int .u64 ((be : Nat) : Int), .pointer pe] 30), ((φ1 1), .cells #[.int .u64 ((be2 : Nat) : Int), .pointer pe2] 30)] [] 1 [] 0 (fun φ9 => [(8, .bool (decide (e2.top = 0)))]) (fun φ9 => [((φ1 0), .cells #[.int .u64 ((be : Nat) : Int), .pointer pe] 30), ((φ1 1), .cells #[.int .u64 ((be2 : Nat) : Int), .pointer pe2] 30)]) (fun φ9 => []) s trivial (fun φ9 => by kernel_rfl) ?_
    intro φ9 w9 s
    refine ops_done (by kernel_rfl) ?_
    rcases Bool.eq_false_or_eq_true (decide (e2.top = 0)) with hc10 | hc10
    ·
      rw [hc10]
      refine cond_true_rule (b := true) (by kernel_rfl) rfl ?_
      refine wp_seq ?_
      refine region_rule ?_
      refine ops_rule (C := []) [((φ1 0), .cells #[.int .u64 ((be : Nat) : Int), .pointer pe] 30), ((φ1 1), .cells #[.int .u64 ((be2 : Nat) : Int), .pointer pe2] 30)] [] 1 [] 0 (fun φ11 => [(4, .int .u64 1)]) (fun φ11 => [((φ1 0), .cells #[.int .u64 ((be : Nat) : Int), .pointer pe] 30), ((φ1 1), .cells #[.int .u64 ((be2 : Nat) : Int), .pointer pe2] 30)]) (fun φ11 => []) s trivial (fun φ11 => by kernel_rfl) ?_
      intro φ11 w11 s
      refine ops_done (by kernel_rfl) ?_
      refine wp_ret ?_
      refine ret_rule (C := []) [((φ1 0), .cells #[.int .u64 ((be : Nat) : Int), .pointer pe] 30), ((φ1 1), .cells #[.int .u64 ((be2 : Nat) : Int), .pointer pe2] 30)] [] (.int .u64 1) [] [] s trivial (by kernel_rfl) ?_
      exact ⟨_, _, _, rfl, s, (by unfold kindE; rw [if_neg (of_decide_eq_false hc5)]; rw [if_pos (of_decide_eq_true hc10)]; rfl)⟩
    ·
      rw [hc10]
      refine cond_false_rule (b := false) (by kernel_rfl) rfl ?_
      refine wp_skip ?_
      refine wp_seq ?_
      refine region_rule ?_
      refine ops_rule (C := []) [((φ1 0), .cells #[.int .u64 ((be : Nat) : Int), .pointer pe] 30), ((φ1 1), .cells #[.int .u64 ((be2 : Nat) : Int), .pointer pe2] 30)] [] 1 [] 0 (fun φ12 => [(4, .int .u64 2)]) (fun φ12 => [((φ1 0), .cells #[.int .u64 ((be : Nat) : Int), .pointer pe] 30), ((φ1 1), .cells #[.int .u64 ((be2 : Nat) : Int), .pointer pe2] 30)]) (fun φ12 => []) s trivial (fun φ12 => by kernel_rfl) ?_
      intro φ12 w12 s
      refine ops_done (by kernel_rfl) ?_
      refine wp_ret ?_
      refine ret_rule (C := []) [((φ1 0), .cells #[.int .u64 ((be : Nat) : Int), .pointer pe] 30), ((φ1 1), .cells #[.int .u64 ((be2 : Nat) : Int), .pointer pe2] 30)] [] (.int .u64 2) [] [] s trivial (by kernel_rfl) ?_
      exact ⟨_, _, _, rfl, s, (by unfold kindE; rw [if_neg (of_decide_eq_false hc5)]; rw [if_neg (of_decide_eq_false hc10)]; rfl)⟩

set_option maxHeartbeats 2000000 in
theorem putHead_c {I : IM} {b cnt : Nat} {bs : List Bool} {v0 : Value} {F : List OB} (hc : cnt = bs.length) (hlen : bs.length ≤ 750000) (h : RowH 5 1 v0 (pk bs).length ((pk bs).map bV) F) {k n : Nat} (hk : k < 3) (hn : n < 18446744073709551616) : FunM Try.prog 52 #[.pointer (some ⟨b, 0, none⟩), .int .u64 ((k : Nat) : Int), .int .u64 ((n : Nat) : Int)] I ((b, .cells #[v0, .int .i64 ((cnt : Nat) : Int)] 91) :: F) (fun v J H' => ∃ (b' : OB) (F' : List OB), H' = b' :: F' ∧ b'.1 = b ∧ ∃ v', v = .tuple #[] ∧ b' = (b, .cells #[v', .int .i64 ((cnt + (headB n k).length : Nat) : Int)] 91) ∧ RowH 5 1 v' (pk (bs ++ headB n k)).length ((pk (bs ++ headB n k)).map bV) F') := by
  refine enterM_rule 25 [(0, .pointer (some ⟨b, 0, none⟩)), (1, .int .u64 ((k : Nat) : Int)), (2, .int .u64 ((n : Nat) : Int))] Try.func52 rfl (by kernel_rfl) ?_
  intro w s
  refine wp_seq ?_
  refine wp_seq ?_
  refine region_rule ?_
  refine ops_rule (C := []) [(b, .cells #[v0, .int .i64 ((cnt : Nat) : Int)] 91)] F 2 [] 0 (fun φ1 => [(7, .bool (((n : Nat) : Int) == ((0 : Nat) : Int))), (6, .int .u64 ((n : Nat) : Int))]) (fun φ1 => [(b, .cells #[v0, .int .i64 ((cnt : Nat) : Int)] 91)]) (fun φ1 => []) s trivial (fun φ1 => by kernel_rfl) ?_
  intro φ1 w1 s
  rw [nat_eql (a := n) (b := 0)]
  refine ops_done (by kernel_rfl) ?_
  rcases Bool.eq_false_or_eq_true (decide (n = 0)) with hc2 | hc2
  ·
    rw [hc2]
    refine cond_true_rule (b := true) (by kernel_rfl) rfl ?_
    refine wp_seq ?_
    refine region_rule ?_
    refine ops_rule (C := []) [(b, .cells #[v0, .int .i64 ((cnt : Nat) : Int)] 91)] F 2 [] 0 (fun φ3 => [(9, .int .u64 ((k : Nat) : Int)), (8, .pointer (some ⟨b, 0, none⟩))]) (fun φ3 => [(b, .cells #[v0, .int .i64 ((cnt : Nat) : Int)] 91)]) (fun φ3 => []) s trivial (fun φ3 => by kernel_rfl) ?_
    intro φ3 w3 s
    refine callH_rule (b := (b, .cells #[v0, .int .i64 ((cnt : Nat) : Int)] 91)) (H := [(b, .cells #[v0, .int .i64 ((cnt : Nat) : Int)] 91)]) (F := F) (Hr := []) (some 10) 0 s (by kernel_rfl) (by kernel_rfl) (put_c (b := b) (cnt := cnt) (bs := bs) (v0 := v0) (n := k) (k := 2) (by (try simp only [List.length_append, putBits_len]); omega) (by (try simp only [List.length_append, putBits_len]); omega) h (by  have hq0 := of_decide_eq_true hc2; omega) (by  have hq0 := of_decide_eq_true hc2; omega)) (by kernel_rfl) ?_
    rintro v4 I4 w4 b4 F4 le4 - h4 s
    obtain ⟨v4, rfl, rfl, hr4⟩ := h4
    refine ops_done (by kernel_rfl) ?_
    refine wp_ret ?_
    refine ret_rule (C := []) [(b, .cells #[v4, .int .i64 ((cnt + 2 : Nat) : Int)] 91)] F4 (.tuple #[]) [] [] s trivial (by kernel_rfl) ?_
    replace s := s.drop (List.Sublist.append (List.Sublist.cons₂ _ List.Sublist.slnil) (List.Sublist.refl F4))
    have hz9 : (bs ++ putBits k 2) = bs ++ headB n k := (by unfold headB; rw [if_pos (of_decide_eq_true hc2)]; (try simp only [List.append_assoc]))
    have hL9 := congrArg List.length hz9
    simp only [List.length_append, putBits_len] at hL9
    have hc9 : cnt + 2 = cnt + (headB n k).length := (by omega)
    exact ⟨_, _, _, rfl, s, ⟨_, _, rfl, rfl, _, rfl, by rw [hc9], row_cast hr4 (congrArg pk hz9)⟩⟩
  ·
    rw [hc2]
    refine cond_false_rule (b := false) (by kernel_rfl) rfl ?_
    refine wp_skip ?_
    refine wp_seq ?_
    refine region_rule ?_
    refine ops_rule (C := []) [(b, .cells #[v0, .int .i64 ((cnt : Nat) : Int)] 91)] F 1 [] 0 (fun φ5 => [(11, .pointer (some ⟨b, 0, none⟩))]) (fun φ5 => [(b, .cells #[v0, .int .i64 ((cnt : Nat) : Int)] 91)]) (fun φ5 => []) s trivial (fun φ5 => by kernel_rfl) ?_
    intro φ5 w5 s
    refine callH_rule (b := (b, .cells #[v0, .int .i64 ((cnt : Nat) : Int)] 91)) (H := [(b, .cells #[v0, .int .i64 ((cnt : Nat) : Int)] 91)]) (F := F) (Hr := []) (some 12) 0 s (by kernel_rfl) (by kernel_rfl) (put_c (b := b) (cnt := cnt) (bs := bs) (v0 := v0) (n := 3) (k := 2) (by (try simp only [List.length_append, putBits_len]); omega) (by (try simp only [List.length_append, putBits_len]); omega) h (by  have hq0 := of_decide_eq_false hc2; omega) (by  have hq0 := of_decide_eq_false hc2; omega)) (by kernel_rfl) ?_
    rintro v6 I6 w6 b6 F6 le6 - h6 s
    obtain ⟨v6, rfl, rfl, hr6⟩ := h6
    refine ops_done (by kernel_rfl) ?_
    refine wp_seq ?_
    refine wp_seq ?_
    refine region_rule ?_
    refine ops_rule (C := []) [(b, .cells #[v6, .int .i64 ((cnt + 2 : Nat) : Int)] 91)] F6 2 [] 0 (fun φ7 => [(14, .bool (((k : Nat) : Int) == ((2 : Nat) : Int))), (13, .int .u64 ((k : Nat) : Int))]) (fun φ7 => [(b, .cells #[v6, .int .i64 ((cnt + 2 : Nat) : Int)] 91)]) (fun φ7 => []) s trivial (fun φ7 => by kernel_rfl) ?_
    intro φ7 w7 s
    rw [nat_eql (a := k) (b := 2)]
    refine ops_done (by kernel_rfl) ?_
    rcases Bool.eq_false_or_eq_true (decide (k = 2)) with hc8 | hc8
    ·
      rw [hc8]
      refine cond_true_rule (b := true) (by kernel_rfl) rfl ?_
      refine region_rule ?_
      refine ops_rule (C := []) [(b, .cells #[v6, .int .i64 ((cnt + 2 : Nat) : Int)] 91)] F6 1 [] 0 (fun φ9 => [(15, .pointer (some ⟨b, 0, none⟩))]) (fun φ9 => [(b, .cells #[v6, .int .i64 ((cnt + 2 : Nat) : Int)] 91)]) (fun φ9 => []) s trivial (fun φ9 => by kernel_rfl) ?_
      intro φ9 w9 s
      refine callH_rule (b := (b, .cells #[v6, .int .i64 ((cnt + 2 : Nat) : Int)] 91)) (H := [(b, .cells #[v6, .int .i64 ((cnt + 2 : Nat) : Int)] 91)]) (F := F6) (Hr := []) (some 16) 0 s (by kernel_rfl) (by kernel_rfl) (put_c (b := b) (cnt := cnt + 2) (bs := (bs ++ putBits 3 2)) (v0 := v6) (n := 1) (k := 1) (by (try simp only [List.length_append, putBits_len]); omega) (by (try simp only [List.length_append, putBits_len]); omega) hr6 (by  have hq0 := of_decide_eq_false hc2; have hq1 := of_decide_eq_true hc8; omega) (by  have hq0 := of_decide_eq_false hc2; have hq1 := of_decide_eq_true hc8; omega)) (by kernel_rfl) ?_
      rintro v10 I10 w10 b10 F10 le10 - h10 s
      obtain ⟨v10, rfl, rfl, hr10⟩ := h10
      refine ops_done (by kernel_rfl) ?_
      refine region_rule ?_
      refine ops_rule (C := []) [(b, .cells #[v10, .int .i64 ((cnt + 2 + 1 : Nat) : Int)] 91)] F10 2 [] 0 (fun φ11 => [(23, .int .u64 ((n : Nat) : Int)), (22, .pointer (some ⟨b, 0, none⟩))]) (fun φ11 => [(b, .cells #[v10, .int .i64 ((cnt + 2 + 1 : Nat) : Int)] 91)]) (fun φ11 => []) s trivial (fun φ11 => by kernel_rfl) ?_
      intro φ11 w11 s
      refine callH_rule (b := (b, .cells #[v10, .int .i64 ((cnt + 2 + 1 : Nat) : Int)] 91)) (H := [(b, .cells #[v10, .int .i64 ((cnt + 2 + 1 : Nat) : Int)] 91)]) (F := F10) (Hr := []) (some 24) 0 s (by kernel_rfl) (by kernel_rfl) (num_c (b := b) (cnt := cnt + 2 + 1) (bs := ((bs ++ putBits 3 2) ++ putBits 1 1)) (v0 := v10) (n := n) (by (try simp only [List.length_append, putBits_len]); omega) (by (try simp only [List.length_append, putBits_len]); omega) hr10 (hn)) (by kernel_rfl) ?_
      rintro v12 I12 w12 b12 F12 le12 - h12 s
      obtain ⟨v12, rfl, rfl, hr12⟩ := h12
      refine ops_done (by kernel_rfl) ?_
      refine end_rule (C := []) [(b, .cells #[v12, .int .i64 ((cnt + 2 + 1 + (numW 62 2 n).length : Nat) : Int)] 91)] F12 (.tuple #[]) [] [] s trivial (by kernel_rfl) ?_
      replace s := s.drop (List.Sublist.append (List.Sublist.cons₂ _ List.Sublist.slnil) (List.Sublist.refl F12))
      have hz9 : (((bs ++ putBits 3 2) ++ putBits 1 1) ++ numW 62 2 n) = bs ++ headB n k := (by unfold headB; rw [if_neg (of_decide_eq_false hc2)]; rw [if_pos (of_decide_eq_true hc8)]; (try simp only [List.append_assoc]))
      have hL9 := congrArg List.length hz9
      simp only [List.length_append, putBits_len] at hL9
      have hc9 : cnt + 2 + 1 + (numW 62 2 n).length = cnt + (headB n k).length := (by omega)
      exact ⟨_, _, _, rfl, s, ⟨_, _, rfl, rfl, _, rfl, by rw [hc9], row_cast hr12 (congrArg pk hz9)⟩⟩
    ·
      rw [hc8]
      refine cond_false_rule (b := false) (by kernel_rfl) rfl ?_
      refine wp_seq ?_
      refine region_rule ?_
      refine ops_rule (C := []) [(b, .cells #[v6, .int .i64 ((cnt + 2 : Nat) : Int)] 91)] F6 1 [] 0 (fun φ13 => [(17, .pointer (some ⟨b, 0, none⟩))]) (fun φ13 => [(b, .cells #[v6, .int .i64 ((cnt + 2 : Nat) : Int)] 91)]) (fun φ13 => []) s trivial (fun φ13 => by kernel_rfl) ?_
      intro φ13 w13 s
      refine callH_rule (b := (b, .cells #[v6, .int .i64 ((cnt + 2 : Nat) : Int)] 91)) (H := [(b, .cells #[v6, .int .i64 ((cnt + 2 : Nat) : Int)] 91)]) (F := F6) (Hr := []) (some 18) 0 s (by kernel_rfl) (by kernel_rfl) (put_c (b := b) (cnt := cnt + 2) (bs := (bs ++ putBits 3 2)) (v0 := v6) (n := 0) (k := 1) (by (try simp only [List.length_append, putBits_len]); omega) (by (try simp only [List.length_append, putBits_len]); omega) hr6 (by  have hq0 := of_decide_eq_false hc2; have hq1 := of_decide_eq_false hc8; omega) (by  have hq0 := of_decide_eq_false hc2; have hq1 := of_decide_eq_false hc8; omega)) (by kernel_rfl) ?_
      rintro v14 I14 w14 b14 F14 le14 - h14 s
      obtain ⟨v14, rfl, rfl, hr14⟩ := h14
      refine ops_done (by kernel_rfl) ?_
      refine region_rule ?_
      refine ops_rule (C := []) [(b, .cells #[v14, .int .i64 ((cnt + 2 + 1 : Nat) : Int)] 91)] F14 2 [] 0 (fun φ15 => [(20, .int .u64 ((k : Nat) : Int)), (19, .pointer (some ⟨b, 0, none⟩))]) (fun φ15 => [(b, .cells #[v14, .int .i64 ((cnt + 2 + 1 : Nat) : Int)] 91)]) (fun φ15 => []) s trivial (fun φ15 => by kernel_rfl) ?_
      intro φ15 w15 s
      refine callH_rule (b := (b, .cells #[v14, .int .i64 ((cnt + 2 + 1 : Nat) : Int)] 91)) (H := [(b, .cells #[v14, .int .i64 ((cnt + 2 + 1 : Nat) : Int)] 91)]) (F := F14) (Hr := []) (some 21) 0 s (by kernel_rfl) (by kernel_rfl) (put_c (b := b) (cnt := cnt + 2 + 1) (bs := ((bs ++ putBits 3 2) ++ putBits 0 1)) (v0 := v14) (n := k) (k := 1) (by (try simp only [List.length_append, putBits_len]); omega) (by (try simp only [List.length_append, putBits_len]); omega) hr14 (by  have hq0 := of_decide_eq_false hc2; have hq1 := of_decide_eq_false hc8; omega) (by  have hq0 := of_decide_eq_false hc2; have hq1 := of_decide_eq_false hc8; omega)) (by kernel_rfl) ?_
      rintro v16 I16 w16 b16 F16 le16 - h16 s
      obtain ⟨v16, rfl, rfl, hr16⟩ := h16
      refine ops_done (by kernel_rfl) ?_
      refine region_rule ?_
      refine ops_rule (C := []) [(b, .cells #[v16, .int .i64 ((cnt + 2 + 1 + 1 : Nat) : Int)] 91)] F16 2 [] 0 (fun φ17 => [(23, .int .u64 ((n : Nat) : Int)), (22, .pointer (some ⟨b, 0, none⟩))]) (fun φ17 => [(b, .cells #[v16, .int .i64 ((cnt + 2 + 1 + 1 : Nat) : Int)] 91)]) (fun φ17 => []) s trivial (fun φ17 => by kernel_rfl) ?_
      intro φ17 w17 s
      refine callH_rule (b := (b, .cells #[v16, .int .i64 ((cnt + 2 + 1 + 1 : Nat) : Int)] 91)) (H := [(b, .cells #[v16, .int .i64 ((cnt + 2 + 1 + 1 : Nat) : Int)] 91)]) (F := F16) (Hr := []) (some 24) 0 s (by kernel_rfl) (by kernel_rfl) (num_c (b := b) (cnt := cnt + 2 + 1 + 1) (bs := (((bs ++ putBits 3 2) ++ putBits 0 1) ++ putBits k 1)) (v0 := v16) (n := n) (by (try simp only [List.length_append, putBits_len]); omega) (by (try simp only [List.length_append, putBits_len]); omega) hr16 (hn)) (by kernel_rfl) ?_
      rintro v18 I18 w18 b18 F18 le18 - h18 s
      obtain ⟨v18, rfl, rfl, hr18⟩ := h18
      refine ops_done (by kernel_rfl) ?_
      refine end_rule (C := []) [(b, .cells #[v18, .int .i64 ((cnt + 2 + 1 + 1 + (numW 62 2 n).length : Nat) : Int)] 91)] F18 (.tuple #[]) [] [] s trivial (by kernel_rfl) ?_
      replace s := s.drop (List.Sublist.append (List.Sublist.cons₂ _ List.Sublist.slnil) (List.Sublist.refl F18))
      have hz9 : ((((bs ++ putBits 3 2) ++ putBits 0 1) ++ putBits k 1) ++ numW 62 2 n) = bs ++ headB n k := (by unfold headB; rw [if_neg (of_decide_eq_false hc2)]; rw [if_neg (of_decide_eq_false hc8)]; (try simp only [List.append_assoc]))
      have hL9 := congrArg List.length hz9
      simp only [List.length_append, putBits_len] at hL9
      have hc9 : cnt + 2 + 1 + 1 + (numW 62 2 n).length = cnt + (headB n k).length := (by omega)
      exact ⟨_, _, _, rfl, s, ⟨_, _, rfl, rfl, _, rfl, by rw [hc9], row_cast hr18 (congrArg pk hz9)⟩⟩

theorem half_lt {e : Ev.E} (h : e.top < 18446744073709551616) : e.left.top < 18446744073709551616 ∧ e.right.top < 18446744073709551616 ∧ e.base < 18446744073709551616 := by
  cases e with
  | leaf n => exact ⟨show 0 < _ by omega, show 0 < _ by omega, h⟩
  | node n l r => have h1 : n + max l.top r.top < 18446744073709551616 := h; exact ⟨show l.top < _ by omega, show r.top < _ by omega, show n < _ by omega⟩

set_option maxHeartbeats 2000000 in
theorem putEvent_step {I : IM} {e : Ev.E} {be : Nat} {pe : Option Addr} (he : Ev.ERep I e be pe) (htop : e.top < 18446744073709551616) {b cnt : Nat} {bs : List Bool} {v0 : Value} {F : List OB} (hc : cnt = bs.length) (hlen : bs.length + (evB e).length ≤ 700000) (h : RowH 5 1 v0 (pk bs).length ((pk bs).map bV) F) (ihl : (e.isLeaf = false → kindE e.left e.right ≠ 0 → ∀ {J : IM} {b1 : Nat} {p1 : Option Addr} {cnt : Nat} {bs : List Bool} {v0 : Value} {F : List OB}, Ev.ERep J e.left b1 p1 → cnt = bs.length → bs.length + (evB e.left).length ≤ 700000 → RowH 5 1 v0 (pk bs).length ((pk bs).map bV) F → FunM Try.prog 23 #[.pointer (some ⟨b, 0, none⟩), .agg #[.int .u64 ((b1 : Nat) : Int), .pointer p1]] J ((b, .cells #[v0, .int .i64 ((cnt : Nat) : Int)] 91) :: F) (fun v J H' => ∃ (b' : OB) (F' : List OB), H' = b' :: F' ∧ b'.1 = b ∧ ∃ v', v = .tuple #[] ∧ b' = (b, .cells #[v', .int .i64 ((cnt + (evB e.left).length : Nat) : Int)] 91) ∧ RowH 5 1 v' (pk (bs ++ evB e.left)).length ((pk (bs ++ evB e.left)).map bV) F'))) (ihr : (e.isLeaf = false → kindE e.left e.right ≠ 1 → ∀ {J : IM} {b1 : Nat} {p1 : Option Addr} {cnt : Nat} {bs : List Bool} {v0 : Value} {F : List OB}, Ev.ERep J e.right b1 p1 → cnt = bs.length → bs.length + (evB e.right).length ≤ 700000 → RowH 5 1 v0 (pk bs).length ((pk bs).map bV) F → FunM Try.prog 23 #[.pointer (some ⟨b, 0, none⟩), .agg #[.int .u64 ((b1 : Nat) : Int), .pointer p1]] J ((b, .cells #[v0, .int .i64 ((cnt : Nat) : Int)] 91) :: F) (fun v J H' => ∃ (b' : OB) (F' : List OB), H' = b' :: F' ∧ b'.1 = b ∧ ∃ v', v = .tuple #[] ∧ b' = (b, .cells #[v', .int .i64 ((cnt + (evB e.right).length : Nat) : Int)] 91) ∧ RowH 5 1 v' (pk (bs ++ evB e.right)).length ((pk (bs ++ evB e.right)).map bV) F'))) : FunM Try.prog 23 #[.pointer (some ⟨b, 0, none⟩), .agg #[.int .u64 ((be : Nat) : Int), .pointer pe]] I ((b, .cells #[v0, .int .i64 ((cnt : Nat) : Int)] 91) :: F) (fun v J H' => ∃ (b' : OB) (F' : List OB), H' = b' :: F' ∧ b'.1 = b ∧ ∃ v', v = .tuple #[] ∧ b' = (b, .cells #[v', .int .i64 ((cnt + (evB e).length : Nat) : Int)] 91) ∧ RowH 5 1 v' (pk (bs ++ evB e)).length ((pk (bs ++ evB e)).map bV) F') := by
  have hbe := Ev.ERep.base he
  obtain ⟨htl, htr, hbn⟩ := half_lt htop
  rw [← hbe] at hbn
  refine enterM_rule 39 [(0, .pointer (some ⟨b, 0, none⟩)), (1, .agg #[.int .u64 ((be : Nat) : Int), .pointer pe])] Try.func23 rfl (by kernel_rfl) ?_
  intro w s
  refine wp_seq ?_
  refine region_rule ?_
  refine ops_rule (C := []) [(b, .cells #[v0, .int .i64 ((cnt : Nat) : Int)] 91)] F 1 [] 1 (fun φ1 => [(3, .pointer (some ⟨(φ1 0), 0, none⟩))]) (fun φ1 => [(b, .cells #[v0, .int .i64 ((cnt : Nat) : Int)] 91), ((φ1 0), .cells #[.int .u64 ((be : Nat) : Int), .pointer pe] 30)]) (fun φ1 => []) s trivial (fun φ1 => by kernel_rfl) ?_
  intro φ1 w1 s
  refine ops_done (by kernel_rfl) ?_
  refine wp_seq ?_
  refine wp_seq ?_
  refine region_rule ?_
  refine ops_rule (C := []) [(b, .cells #[v0, .int .i64 ((cnt : Nat) : Int)] 91), ((φ1 0), .cells #[.int .u64 ((be : Nat) : Int), .pointer pe] 30)] F 1 [.o 1, .o 1] 0 (fun φ2 => [(7, .agg #[.int .u64 ((be : Nat) : Int), .pointer pe])]) (fun φ2 => [(b, .cells #[v0, .int .i64 ((cnt : Nat) : Int)] 91), ((φ1 0), .cells #[.int .u64 ((be : Nat) : Int), .pointer pe] 30)]) (fun φ2 => [(φ1 0), (φ1 0)]) s trivial (fun φ2 => by kernel_rfl) ?_
  intro φ2 w2 s
  refine call_rule (some 8) s (Ev.isLeaf_c he) (by kernel_rfl) ?_
  intro v3 I3 w3 le3 h3 s
  replace he := Ev.ERep.mono le3 he
  obtain rfl := h3
  refine ops_done (by kernel_rfl) ?_
  rcases Bool.eq_false_or_eq_true (e.isLeaf) with hc4 | hc4
  ·
    rw [hc4]
    refine cond_true_rule (b := true) (by kernel_rfl) rfl ?_
    refine wp_seq ?_
    refine region_rule ?_
    refine ops_rule (C := []) [(b, .cells #[v0, .int .i64 ((cnt : Nat) : Int)] 91), ((φ1 0), .cells #[.int .u64 ((be : Nat) : Int), .pointer pe] 30)] F 1 [] 0 (fun φ5 => [(9, .pointer (some ⟨b, 0, none⟩))]) (fun φ5 => [(b, .cells #[v0, .int .i64 ((cnt : Nat) : Int)] 91), ((φ1 0), .cells #[.int .u64 ((be : Nat) : Int), .pointer pe] 30)]) (fun φ5 => []) s trivial (fun φ5 => by kernel_rfl) ?_
    intro φ5 w5 s
    refine callH_rule (b := (b, .cells #[v0, .int .i64 ((cnt : Nat) : Int)] 91)) (H := [(b, .cells #[v0, .int .i64 ((cnt : Nat) : Int)] 91), ((φ1 0), .cells #[.int .u64 ((be : Nat) : Int), .pointer pe] 30)]) (F := F) (Hr := [((φ1 0), .cells #[.int .u64 ((be : Nat) : Int), .pointer pe] 30)]) (some 10) 0 s (by kernel_rfl) (by kernel_rfl) (put_c (b := b) (cnt := cnt) (bs := bs) (v0 := v0) (n := 1) (k := 1) (by (try simp only [List.length_append, putBits_len]); omega) (by have h7 := hlen; have h6 := congrArg List.length (evB_leaf hc4); (try rw [← hbe] at h6); simp only [List.length_append, putBits_len] at h6; (try simp only [List.length_append, putBits_len]); omega) h (by   omega) (by   omega)) (by kernel_rfl) ?_
    rintro v6 I6 w6 b6 F6 le6 - h6 s
    replace he := Ev.ERep.mono le6 he
    obtain ⟨v6, rfl, rfl, hr6⟩ := h6
    refine ops_done (by kernel_rfl) ?_
    refine wp_seq ?_
    refine region_rule ?_
    refine ops_rule (C := []) [(b, .cells #[v6, .int .i64 ((cnt + 1 : Nat) : Int)] 91), ((φ1 0), .cells #[.int .u64 ((be : Nat) : Int), .pointer pe] 30)] F6 2 [.o 1, .o 1] 0 (fun φ7 => [(12, .agg #[.int .u64 ((be : Nat) : Int), .pointer pe]), (11, .pointer (some ⟨b, 0, none⟩))]) (fun φ7 => [(b, .cells #[v6, .int .i64 ((cnt + 1 : Nat) : Int)] 91), ((φ1 0), .cells #[.int .u64 ((be : Nat) : Int), .pointer pe] 30)]) (fun φ7 => [(φ1 0), (φ1 0)]) s trivial (fun φ7 => by kernel_rfl) ?_
    intro φ7 w7 s
    refine call_rule (some 13) s (Ev.base_c he) (by kernel_rfl) ?_
    intro v8 I8 w8 le8 h8 s
    replace he := Ev.ERep.mono le8 he
    obtain rfl := h8
    refine callH_rule (b := (b, .cells #[v6, .int .i64 ((cnt + 1 : Nat) : Int)] 91)) (H := [(b, .cells #[v6, .int .i64 ((cnt + 1 : Nat) : Int)] 91), ((φ1 0), .cells #[.int .u64 ((be : Nat) : Int), .pointer pe] 30)]) (F := F6) (Hr := [((φ1 0), .cells #[.int .u64 ((be : Nat) : Int), .pointer pe] 30)]) (some 14) 0 s (by kernel_rfl) (by kernel_rfl) (num_c (b := b) (cnt := cnt + 1) (bs := (bs ++ putBits 1 1)) (v0 := v6) (n := be) (by (try simp only [List.length_append, putBits_len]); omega) (by have h7 := hlen; have h6 := congrArg List.length (evB_leaf hc4); (try rw [← hbe] at h6); simp only [List.length_append, putBits_len] at h6; (try simp only [List.length_append, putBits_len]); omega) hr6 (hbn)) (by kernel_rfl) ?_
    rintro v9 I9 w9 b9 F9 le9 - h9 s
    replace he := Ev.ERep.mono le9 he
    obtain ⟨v9, rfl, rfl, hr9⟩ := h9
    refine ops_done (by kernel_rfl) ?_
    refine wp_ret ?_
    refine ret_rule (C := []) [(b, .cells #[v9, .int .i64 ((cnt + 1 + (numW 62 2 be).length : Nat) : Int)] 91), ((φ1 0), .cells #[.int .u64 ((be : Nat) : Int), .pointer pe] 30)] F9 (.tuple #[]) [] [] s trivial (by kernel_rfl) ?_
    replace s := s.drop (List.Sublist.append (List.Sublist.cons₂ _ (List.Sublist.cons _ List.Sublist.slnil)) (List.Sublist.refl F9))
    have hz9 : ((bs ++ putBits 1 1) ++ numW 62 2 be) = bs ++ evB e := by
      rw [evB_leaf hc4]
      simp [hbe]
    have hL9 := congrArg List.length hz9
    simp only [List.length_append, putBits_len] at hL9
    have hc9 : cnt + 1 + (numW 62 2 be).length = cnt + (evB e).length := (by omega)
    exact ⟨_, _, _, rfl, s, ⟨_, _, rfl, rfl, _, rfl, by rw [hc9], row_cast hr9 (congrArg pk hz9)⟩⟩
  ·
    rw [hc4]
    refine cond_false_rule (b := false) (by kernel_rfl) rfl ?_
    refine wp_skip ?_
    refine wp_seq ?_
    refine drawK_rule (C := []) ⟨(fun φ10 xs10 => [.look 0 [.o 1, .o 1] [(φ1 0), (φ1 0)], .call 49 #[.agg #[.int .u64 ((be : Nat) : Int), .pointer pe]], .look 0 [.o 1, .o 1] [(φ1 0), (φ1 0)], .call 50 #[.agg #[.int .u64 ((be : Nat) : Int), .pointer pe]], .new, .new, .store 0 [.o 2, .o 2] [(φ10 4), (φ10 4)], .store 1 [.o 3, .o 3] [(φ10 5), (φ10 5)]]), (fun φ10 xs10 => [.agg #[.int .u64 ((be : Nat) : Int), .pointer pe], .agg #[.int .u64 (((xs10 1).n 0 : Nat) : Int), .pointer ((xs10 1).p 0)], .agg #[.int .u64 ((be : Nat) : Int), .pointer pe], .agg #[.int .u64 (((xs10 3).n 0 : Nat) : Int), .pointer ((xs10 3).p 0)], .pointer (some ⟨(φ10 4), 0, none⟩), .pointer (some ⟨(φ10 5), 0, none⟩), undef, undef]), (fun φ10 xs10 => [[(b, .cells #[v0, .int .i64 ((cnt : Nat) : Int)] 91), ((φ1 0), .cells #[.int .u64 ((be : Nat) : Int), .pointer pe] 30)], [(b, .cells #[v0, .int .i64 ((cnt : Nat) : Int)] 91), ((φ1 0), .cells #[.int .u64 ((be : Nat) : Int), .pointer pe] 30)], [(b, .cells #[v0, .int .i64 ((cnt : Nat) : Int)] 91), ((φ1 0), .cells #[.int .u64 ((be : Nat) : Int), .pointer pe] 30)]]), (fun φ10 xs10 => [[default, default, default, default, .cells #[.int .u64 0, .pointer none] 30, .cells #[.int .u64 0, .pointer none] 30, default, default], [default, default, default, default, .cells #[.int .u64 (((xs10 1).n 0 : Nat) : Int), .pointer ((xs10 1).p 0)] 30, .cells #[.int .u64 0, .pointer none] 30, default, default], [default, default, default, default, .cells #[.int .u64 (((xs10 1).n 0 : Nat) : Int), .pointer ((xs10 1).p 0)] 30, .cells #[.int .u64 (((xs10 3).n 0 : Nat) : Int), .pointer ((xs10 3).p 0)] 30, default, default]]), [6, 7], [1, 3, 1, 3, 2, 2, 4, 4]⟩ (fun j => ([MP.any, ⟨fun x J => Ev.ERep J e.left (x.n 0) (x.p 0), fun le h => Ev.ERep.mono le h⟩, MP.any, ⟨fun x J => Ev.ERep J e.right (x.n 0) (x.p 0), fun le h => Ev.ERep.mono le h⟩, MP.any, MP.any, MP.any, MP.any] : List MP).getD j MP.any) F [1, 3] [] [] (fun φ10 xs10 => [[none, none, none, none, none, none, none, none], [none, none, none, none, none, none, none, none]]) (fun φ10 xs10 => [(15, .agg #[.int .u64 ((be : Nat) : Int), .pointer pe]), (16, .agg #[.int .u64 (((xs10 1).n 0 : Nat) : Int), .pointer ((xs10 1).p 0)]), (17, .agg #[.int .u64 ((be : Nat) : Int), .pointer pe]), (18, .agg #[.int .u64 (((xs10 3).n 0 : Nat) : Int), .pointer ((xs10 3).p 0)]), (4, .pointer (some ⟨(φ10 4), 0, none⟩)), (5, .pointer (some ⟨(φ10 5), 0, none⟩))]) (fun φ10 xs10 => [(b, .cells #[v0, .int .i64 ((cnt : Nat) : Int)] 91), ((φ1 0), .cells #[.int .u64 ((be : Nat) : Int), .pointer pe] 30), ((φ10 4), .cells #[.int .u64 (((xs10 1).n 0 : Nat) : Int), .pointer ((xs10 1).p 0)] 30), ((φ10 5), .cells #[.int .u64 (((xs10 3).n 0 : Nat) : Int), .pointer ((xs10 3).p 0)] 30)]) s trivial (by kernel_rfl) (by kernel_rfl) (fun _ _ => by kernel_rfl) (fun _ _ => by kernel_rfl) ⟨fun _ _ => by kernel_rfl, fun _ _ => by kernel_rfl, fun _ _ => by kernel_rfl, fun _ _ => by kernel_rfl⟩ (fun _ _ _ => by kernel_rfl) (fun _ _ => by kernel_rfl) (fun _ _ => by kernel_rfl) (fun _ _ => by kernel_rfl) (fun _ _ => by kernel_rfl) (fun _ _ => by kernel_rfl) trivial trivial (by kernel_rfl) ⟨?c10_1, ?c10_3, trivial⟩ ?k10
    case c10_1 =>
      refine kcast (A := ∀ (φ10 : Nat → Nat) (xs10 : Xs) (J1_10 : IM), I3.Le J1_10 → Fun Try.prog 49 #[.agg #[.int .u64 ((be : Nat) : Int), .pointer pe]] J1_10 (fun v J' => ∃ x : UX, v = .agg #[.int .u64 ((x.n 0 : Nat) : Int), .pointer (x.p 0)] ∧ (Ev.ERep J' e.left (x.n 0) (x.p 0)))) (by kernel_rfl) ?_
      intro φ10 xs10 J1_10 leJ
      have he := Ev.ERep.mono leJ he
      exact Fun.mono (Ev.left_c he) (fun v J' _ ⟨y0, y1, hv, g0⟩ => ⟨{ UX.d with n := fun j => y0, p := fun j => y1 }, hv, g0⟩)
    case c10_3 =>
      refine kcast (A := ∀ (φ10 : Nat → Nat) (xs10 : Xs) (J3_10 : IM), I3.Le J3_10 → (Ev.ERep J3_10 e.left ((xs10 1).n 0) ((xs10 1).p 0)) → Fun Try.prog 50 #[.agg #[.int .u64 ((be : Nat) : Int), .pointer pe]] J3_10 (fun v J' => ∃ x : UX, v = .agg #[.int .u64 ((x.n 0 : Nat) : Int), .pointer (x.p 0)] ∧ (Ev.ERep J' e.right (x.n 0) (x.p 0)))) (by kernel_rfl) ?_
      intro φ10 xs10 J3_10 leJ
      rintro h10_1_0
      have he := Ev.ERep.mono leJ he
      exact Fun.mono (Ev.right_c he) (fun v J' _ ⟨y0, y1, hv, g0⟩ => ⟨{ UX.d with n := fun j => y0, p := fun j => y1 }, hv, g0⟩)
    case k10 =>
      rintro φ10 xs10 I10 w10 le10 s h10_1_0 h10_3_0
      replace he := Ev.ERep.mono le10 he
      refine wp_seq ?_
      refine region_rule ?_
      refine ops_rule (C := []) [(b, .cells #[v0, .int .i64 ((cnt : Nat) : Int)] 91), ((φ1 0), .cells #[.int .u64 ((be : Nat) : Int), .pointer pe] 30), ((φ10 4), .cells #[.int .u64 (((xs10 1).n 0 : Nat) : Int), .pointer ((xs10 1).p 0)] 30), ((φ10 5), .cells #[.int .u64 (((xs10 3).n 0 : Nat) : Int), .pointer ((xs10 3).p 0)] 30)] F 2 [.o 2, .o 2, .o 3, .o 3] 0 (fun φ11 => [(20, .agg #[.int .u64 (((xs10 3).n 0 : Nat) : Int), .pointer ((xs10 3).p 0)]), (19, .agg #[.int .u64 (((xs10 1).n 0 : Nat) : Int), .pointer ((xs10 1).p 0)])]) (fun φ11 => [(b, .cells #[v0, .int .i64 ((cnt : Nat) : Int)] 91), ((φ1 0), .cells #[.int .u64 ((be : Nat) : Int), .pointer pe] 30), ((φ10 4), .cells #[.int .u64 (((xs10 1).n 0 : Nat) : Int), .pointer ((xs10 1).p 0)] 30), ((φ10 5), .cells #[.int .u64 (((xs10 3).n 0 : Nat) : Int), .pointer ((xs10 3).p 0)] 30)]) (fun φ11 => [(φ10 4), (φ10 4), (φ10 5), (φ10 5)]) s trivial (fun φ11 => by kernel_rfl) ?_
      intro φ11 w11 s
      refine call_rule (some 21) s (halvesKind_c h10_1_0 h10_3_0 (htl) (htr)) (by kernel_rfl) ?_
      intro v12 I12 w12 le12 h12 s
      replace he := Ev.ERep.mono le12 he
      replace h10_1_0 := Ev.ERep.mono le12 h10_1_0
      replace h10_3_0 := Ev.ERep.mono le12 h10_3_0
      obtain rfl := h12
      refine ops_rule (C := []) [(b, .cells #[v0, .int .i64 ((cnt : Nat) : Int)] 91), ((φ1 0), .cells #[.int .u64 ((be : Nat) : Int), .pointer pe] 30), ((φ10 4), .cells #[.int .u64 (((xs10 1).n 0 : Nat) : Int), .pointer ((xs10 1).p 0)] 30), ((φ10 5), .cells #[.int .u64 (((xs10 3).n 0 : Nat) : Int), .pointer ((xs10 3).p 0)] 30)] F 1 [] 0 (fun φ13 => [(6, .int .u64 ((kindE e.left e.right : Nat) : Int))]) (fun φ13 => [(b, .cells #[v0, .int .i64 ((cnt : Nat) : Int)] 91), ((φ1 0), .cells #[.int .u64 ((be : Nat) : Int), .pointer pe] 30), ((φ10 4), .cells #[.int .u64 (((xs10 1).n 0 : Nat) : Int), .pointer ((xs10 1).p 0)] 30), ((φ10 5), .cells #[.int .u64 (((xs10 3).n 0 : Nat) : Int), .pointer ((xs10 3).p 0)] 30)]) (fun φ13 => []) s trivial (fun φ13 => by kernel_rfl) ?_
      intro φ13 w13 s
      refine ops_done (by kernel_rfl) ?_
      refine wp_seq ?_
      refine region_rule ?_
      refine ops_rule (C := []) [(b, .cells #[v0, .int .i64 ((cnt : Nat) : Int)] 91), ((φ1 0), .cells #[.int .u64 ((be : Nat) : Int), .pointer pe] 30), ((φ10 4), .cells #[.int .u64 (((xs10 1).n 0 : Nat) : Int), .pointer ((xs10 1).p 0)] 30), ((φ10 5), .cells #[.int .u64 (((xs10 3).n 0 : Nat) : Int), .pointer ((xs10 3).p 0)] 30)] F 1 [] 0 (fun φ14 => [(22, .pointer (some ⟨b, 0, none⟩))]) (fun φ14 => [(b, .cells #[v0, .int .i64 ((cnt : Nat) : Int)] 91), ((φ1 0), .cells #[.int .u64 ((be : Nat) : Int), .pointer pe] 30), ((φ10 4), .cells #[.int .u64 (((xs10 1).n 0 : Nat) : Int), .pointer ((xs10 1).p 0)] 30), ((φ10 5), .cells #[.int .u64 (((xs10 3).n 0 : Nat) : Int), .pointer ((xs10 3).p 0)] 30)]) (fun φ14 => []) s trivial (fun φ14 => by kernel_rfl) ?_
      intro φ14 w14 s
      refine callH_rule (b := (b, .cells #[v0, .int .i64 ((cnt : Nat) : Int)] 91)) (H := [(b, .cells #[v0, .int .i64 ((cnt : Nat) : Int)] 91), ((φ1 0), .cells #[.int .u64 ((be : Nat) : Int), .pointer pe] 30), ((φ10 4), .cells #[.int .u64 (((xs10 1).n 0 : Nat) : Int), .pointer ((xs10 1).p 0)] 30), ((φ10 5), .cells #[.int .u64 (((xs10 3).n 0 : Nat) : Int), .pointer ((xs10 3).p 0)] 30)]) (F := F) (Hr := [((φ1 0), .cells #[.int .u64 ((be : Nat) : Int), .pointer pe] 30), ((φ10 4), .cells #[.int .u64 (((xs10 1).n 0 : Nat) : Int), .pointer ((xs10 1).p 0)] 30), ((φ10 5), .cells #[.int .u64 (((xs10 3).n 0 : Nat) : Int), .pointer ((xs10 3).p 0)] 30)]) (some 23) 0 s (by kernel_rfl) (by kernel_rfl) (put_c (b := b) (cnt := cnt) (bs := bs) (v0 := v0) (n := 0) (k := 1) (by (try simp only [List.length_append, putBits_len]); omega) (by have h7 := hlen; have h6 := congrArg List.length (evB_nd hc4); (try rw [← hbe] at h6); simp only [List.length_append, putBits_len] at h6; (try simp only [List.length_append, putBits_len]); omega) h (by   omega) (by   omega)) (by kernel_rfl) ?_
      rintro v15 I15 w15 b15 F15 le15 - h15 s
      replace he := Ev.ERep.mono le15 he
      replace h10_1_0 := Ev.ERep.mono le15 h10_1_0
      replace h10_3_0 := Ev.ERep.mono le15 h10_3_0
      obtain ⟨v15, rfl, rfl, hr15⟩ := h15
      refine ops_done (by kernel_rfl) ?_
      refine wp_seq ?_
      refine region_rule ?_
      refine ops_rule (C := []) [(b, .cells #[v15, .int .i64 ((cnt + 1 : Nat) : Int)] 91), ((φ1 0), .cells #[.int .u64 ((be : Nat) : Int), .pointer pe] 30), ((φ10 4), .cells #[.int .u64 (((xs10 1).n 0 : Nat) : Int), .pointer ((xs10 1).p 0)] 30), ((φ10 5), .cells #[.int .u64 (((xs10 3).n 0 : Nat) : Int), .pointer ((xs10 3).p 0)] 30)] F15 3 [.o 1, .o 1] 0 (fun φ16 => [(26, .agg #[.int .u64 ((be : Nat) : Int), .pointer pe]), (25, .int .u64 ((kindE e.left e.right : Nat) : Int)), (24, .pointer (some ⟨b, 0, none⟩))]) (fun φ16 => [(b, .cells #[v15, .int .i64 ((cnt + 1 : Nat) : Int)] 91), ((φ1 0), .cells #[.int .u64 ((be : Nat) : Int), .pointer pe] 30), ((φ10 4), .cells #[.int .u64 (((xs10 1).n 0 : Nat) : Int), .pointer ((xs10 1).p 0)] 30), ((φ10 5), .cells #[.int .u64 (((xs10 3).n 0 : Nat) : Int), .pointer ((xs10 3).p 0)] 30)]) (fun φ16 => [(φ1 0), (φ1 0)]) s trivial (fun φ16 => by kernel_rfl) ?_
      intro φ16 w16 s
      refine call_rule (some 27) s (Ev.base_c he) (by kernel_rfl) ?_
      intro v17 I17 w17 le17 h17 s
      replace he := Ev.ERep.mono le17 he
      replace h10_1_0 := Ev.ERep.mono le17 h10_1_0
      replace h10_3_0 := Ev.ERep.mono le17 h10_3_0
      obtain rfl := h17
      refine callH_rule (b := (b, .cells #[v15, .int .i64 ((cnt + 1 : Nat) : Int)] 91)) (H := [(b, .cells #[v15, .int .i64 ((cnt + 1 : Nat) : Int)] 91), ((φ1 0), .cells #[.int .u64 ((be : Nat) : Int), .pointer pe] 30), ((φ10 4), .cells #[.int .u64 (((xs10 1).n 0 : Nat) : Int), .pointer ((xs10 1).p 0)] 30), ((φ10 5), .cells #[.int .u64 (((xs10 3).n 0 : Nat) : Int), .pointer ((xs10 3).p 0)] 30)]) (F := F15) (Hr := [((φ1 0), .cells #[.int .u64 ((be : Nat) : Int), .pointer pe] 30), ((φ10 4), .cells #[.int .u64 (((xs10 1).n 0 : Nat) : Int), .pointer ((xs10 1).p 0)] 30), ((φ10 5), .cells #[.int .u64 (((xs10 3).n 0 : Nat) : Int), .pointer ((xs10 3).p 0)] 30)]) (some 28) 0 s (by kernel_rfl) (by kernel_rfl) (putHead_c (b := b) (cnt := cnt + 1) (bs := (bs ++ putBits 0 1)) (v0 := v15) (k := kindE e.left e.right) (n := be) (by (try simp only [List.length_append, putBits_len]); omega) (by have h7 := hlen; have h6 := congrArg List.length (evB_nd hc4); (try rw [← hbe] at h6); simp only [List.length_append, putBits_len] at h6; (try simp only [List.length_append, putBits_len]); omega) hr15 (kindE_lt _ _) (hbn)) (by kernel_rfl) ?_
      rintro v18 I18 w18 b18 F18 le18 - h18 s
      replace he := Ev.ERep.mono le18 he
      replace h10_1_0 := Ev.ERep.mono le18 h10_1_0
      replace h10_3_0 := Ev.ERep.mono le18 h10_3_0
      obtain ⟨v18, rfl, rfl, hr18⟩ := h18
      refine ops_done (by kernel_rfl) ?_
      refine wp_seq ?_
      refine wp_seq ?_
      refine region_rule ?_
      refine ops_rule (C := []) [(b, .cells #[v18, .int .i64 ((cnt + 1 + (headB be (kindE e.left e.right)).length : Nat) : Int)] 91), ((φ1 0), .cells #[.int .u64 ((be : Nat) : Int), .pointer pe] 30), ((φ10 4), .cells #[.int .u64 (((xs10 1).n 0 : Nat) : Int), .pointer ((xs10 1).p 0)] 30), ((φ10 5), .cells #[.int .u64 (((xs10 3).n 0 : Nat) : Int), .pointer ((xs10 3).p 0)] 30)] F18 2 [] 0 (fun φ19 => [(30, .bool (((kindE e.left e.right : Nat) : Int) != ((0 : Nat) : Int))), (29, .int .u64 ((kindE e.left e.right : Nat) : Int))]) (fun φ19 => [(b, .cells #[v18, .int .i64 ((cnt + 1 + (headB be (kindE e.left e.right)).length : Nat) : Int)] 91), ((φ1 0), .cells #[.int .u64 ((be : Nat) : Int), .pointer pe] 30), ((φ10 4), .cells #[.int .u64 (((xs10 1).n 0 : Nat) : Int), .pointer ((xs10 1).p 0)] 30), ((φ10 5), .cells #[.int .u64 (((xs10 3).n 0 : Nat) : Int), .pointer ((xs10 3).p 0)] 30)]) (fun φ19 => []) s trivial (fun φ19 => by kernel_rfl) ?_
      intro φ19 w19 s
      rw [nat_neq (a := (kindE e.left e.right)) (b := 0)]
      refine ops_done (by kernel_rfl) ?_
      rcases Bool.eq_false_or_eq_true (decide ((kindE e.left e.right) ≠ 0)) with hc20 | hc20
      ·
        rw [hc20]
        refine cond_true_rule (b := true) (by kernel_rfl) rfl ?_
        refine region_rule ?_
        refine ops_rule (C := []) [(b, .cells #[v18, .int .i64 ((cnt + 1 + (headB be (kindE e.left e.right)).length : Nat) : Int)] 91), ((φ1 0), .cells #[.int .u64 ((be : Nat) : Int), .pointer pe] 30), ((φ10 4), .cells #[.int .u64 (((xs10 1).n 0 : Nat) : Int), .pointer ((xs10 1).p 0)] 30), ((φ10 5), .cells #[.int .u64 (((xs10 3).n 0 : Nat) : Int), .pointer ((xs10 3).p 0)] 30)] F18 2 [.o 2, .o 2] 0 (fun φ21 => [(32, .agg #[.int .u64 (((xs10 1).n 0 : Nat) : Int), .pointer ((xs10 1).p 0)]), (31, .pointer (some ⟨b, 0, none⟩))]) (fun φ21 => [(b, .cells #[v18, .int .i64 ((cnt + 1 + (headB be (kindE e.left e.right)).length : Nat) : Int)] 91), ((φ1 0), .cells #[.int .u64 ((be : Nat) : Int), .pointer pe] 30), ((φ10 4), .cells #[.int .u64 (((xs10 1).n 0 : Nat) : Int), .pointer ((xs10 1).p 0)] 30), ((φ10 5), .cells #[.int .u64 (((xs10 3).n 0 : Nat) : Int), .pointer ((xs10 3).p 0)] 30)]) (fun φ21 => [(φ10 4), (φ10 4)]) s trivial (fun φ21 => by kernel_rfl) ?_
        intro φ21 w21 s
        refine callH_rule (b := (b, .cells #[v18, .int .i64 ((cnt + 1 + (headB be (kindE e.left e.right)).length : Nat) : Int)] 91)) (H := [(b, .cells #[v18, .int .i64 ((cnt + 1 + (headB be (kindE e.left e.right)).length : Nat) : Int)] 91), ((φ1 0), .cells #[.int .u64 ((be : Nat) : Int), .pointer pe] 30), ((φ10 4), .cells #[.int .u64 (((xs10 1).n 0 : Nat) : Int), .pointer ((xs10 1).p 0)] 30), ((φ10 5), .cells #[.int .u64 (((xs10 3).n 0 : Nat) : Int), .pointer ((xs10 3).p 0)] 30)]) (F := F18) (Hr := [((φ1 0), .cells #[.int .u64 ((be : Nat) : Int), .pointer pe] 30), ((φ10 4), .cells #[.int .u64 (((xs10 1).n 0 : Nat) : Int), .pointer ((xs10 1).p 0)] 30), ((φ10 5), .cells #[.int .u64 (((xs10 3).n 0 : Nat) : Int), .pointer ((xs10 3).p 0)] 30)]) (some 33) 0 s (by kernel_rfl) (by kernel_rfl) (ihl hc4 (of_decide_eq_true hc20) (cnt := cnt + 1 + (headB be (kindE e.left e.right)).length) (bs := ((bs ++ putBits 0 1) ++ headB be (kindE e.left e.right))) (v0 := v18) h10_1_0 (by (try simp only [List.length_append, putBits_len]); omega) (by have h7 := hlen; have h6 := congrArg List.length (evB_nd hc4); rw [if_neg (of_decide_eq_true hc20)] at h6; (try rw [← hbe] at h6); simp only [List.length_append, putBits_len] at h6; (try simp only [List.length_append, putBits_len]); omega) hr18) (by kernel_rfl) ?_
        rintro v22 I22 w22 b22 F22 le22 - h22 s
        replace he := Ev.ERep.mono le22 he
        replace h10_1_0 := Ev.ERep.mono le22 h10_1_0
        replace h10_3_0 := Ev.ERep.mono le22 h10_3_0
        obtain ⟨v22, rfl, rfl, hr22⟩ := h22
        refine ops_done (by kernel_rfl) ?_
        refine wp_seq ?_
        refine region_rule ?_
        refine ops_rule (C := []) [(b, .cells #[v22, .int .i64 ((cnt + 1 + (headB be (kindE e.left e.right)).length + (evB e.left).length : Nat) : Int)] 91), ((φ1 0), .cells #[.int .u64 ((be : Nat) : Int), .pointer pe] 30), ((φ10 4), .cells #[.int .u64 (((xs10 1).n 0 : Nat) : Int), .pointer ((xs10 1).p 0)] 30), ((φ10 5), .cells #[.int .u64 (((xs10 3).n 0 : Nat) : Int), .pointer ((xs10 3).p 0)] 30)] F22 2 [] 0 (fun φ23 => [(35, .bool (((kindE e.left e.right : Nat) : Int) != ((1 : Nat) : Int))), (34, .int .u64 ((kindE e.left e.right : Nat) : Int))]) (fun φ23 => [(b, .cells #[v22, .int .i64 ((cnt + 1 + (headB be (kindE e.left e.right)).length + (evB e.left).length : Nat) : Int)] 91), ((φ1 0), .cells #[.int .u64 ((be : Nat) : Int), .pointer pe] 30), ((φ10 4), .cells #[.int .u64 (((xs10 1).n 0 : Nat) : Int), .pointer ((xs10 1).p 0)] 30), ((φ10 5), .cells #[.int .u64 (((xs10 3).n 0 : Nat) : Int), .pointer ((xs10 3).p 0)] 30)]) (fun φ23 => []) s trivial (fun φ23 => by kernel_rfl) ?_
        intro φ23 w23 s
        rw [nat_neq (a := (kindE e.left e.right)) (b := 1)]
        refine ops_done (by kernel_rfl) ?_
        rcases Bool.eq_false_or_eq_true (decide ((kindE e.left e.right) ≠ 1)) with hc24 | hc24
        ·
          rw [hc24]
          refine cond_true_rule (b := true) (by kernel_rfl) rfl ?_
          refine region_rule ?_
          refine ops_rule (C := []) [(b, .cells #[v22, .int .i64 ((cnt + 1 + (headB be (kindE e.left e.right)).length + (evB e.left).length : Nat) : Int)] 91), ((φ1 0), .cells #[.int .u64 ((be : Nat) : Int), .pointer pe] 30), ((φ10 4), .cells #[.int .u64 (((xs10 1).n 0 : Nat) : Int), .pointer ((xs10 1).p 0)] 30), ((φ10 5), .cells #[.int .u64 (((xs10 3).n 0 : Nat) : Int), .pointer ((xs10 3).p 0)] 30)] F22 2 [.o 3, .o 3] 0 (fun φ25 => [(37, .agg #[.int .u64 (((xs10 3).n 0 : Nat) : Int), .pointer ((xs10 3).p 0)]), (36, .pointer (some ⟨b, 0, none⟩))]) (fun φ25 => [(b, .cells #[v22, .int .i64 ((cnt + 1 + (headB be (kindE e.left e.right)).length + (evB e.left).length : Nat) : Int)] 91), ((φ1 0), .cells #[.int .u64 ((be : Nat) : Int), .pointer pe] 30), ((φ10 4), .cells #[.int .u64 (((xs10 1).n 0 : Nat) : Int), .pointer ((xs10 1).p 0)] 30), ((φ10 5), .cells #[.int .u64 (((xs10 3).n 0 : Nat) : Int), .pointer ((xs10 3).p 0)] 30)]) (fun φ25 => [(φ10 5), (φ10 5)]) s trivial (fun φ25 => by kernel_rfl) ?_
          intro φ25 w25 s
          refine callH_rule (b := (b, .cells #[v22, .int .i64 ((cnt + 1 + (headB be (kindE e.left e.right)).length + (evB e.left).length : Nat) : Int)] 91)) (H := [(b, .cells #[v22, .int .i64 ((cnt + 1 + (headB be (kindE e.left e.right)).length + (evB e.left).length : Nat) : Int)] 91), ((φ1 0), .cells #[.int .u64 ((be : Nat) : Int), .pointer pe] 30), ((φ10 4), .cells #[.int .u64 (((xs10 1).n 0 : Nat) : Int), .pointer ((xs10 1).p 0)] 30), ((φ10 5), .cells #[.int .u64 (((xs10 3).n 0 : Nat) : Int), .pointer ((xs10 3).p 0)] 30)]) (F := F22) (Hr := [((φ1 0), .cells #[.int .u64 ((be : Nat) : Int), .pointer pe] 30), ((φ10 4), .cells #[.int .u64 (((xs10 1).n 0 : Nat) : Int), .pointer ((xs10 1).p 0)] 30), ((φ10 5), .cells #[.int .u64 (((xs10 3).n 0 : Nat) : Int), .pointer ((xs10 3).p 0)] 30)]) (some 38) 0 s (by kernel_rfl) (by kernel_rfl) (ihr hc4 (of_decide_eq_true hc24) (cnt := cnt + 1 + (headB be (kindE e.left e.right)).length + (evB e.left).length) (bs := (((bs ++ putBits 0 1) ++ headB be (kindE e.left e.right)) ++ evB e.left)) (v0 := v22) h10_3_0 (by (try simp only [List.length_append, putBits_len]); omega) (by have h7 := hlen; have h6 := congrArg List.length (evB_nd hc4); rw [if_neg (of_decide_eq_true hc20), if_neg (of_decide_eq_true hc24)] at h6; (try rw [← hbe] at h6); simp only [List.length_append, putBits_len] at h6; (try simp only [List.length_append, putBits_len]); omega) hr22) (by kernel_rfl) ?_
          rintro v26 I26 w26 b26 F26 le26 - h26 s
          replace he := Ev.ERep.mono le26 he
          replace h10_1_0 := Ev.ERep.mono le26 h10_1_0
          replace h10_3_0 := Ev.ERep.mono le26 h10_3_0
          obtain ⟨v26, rfl, rfl, hr26⟩ := h26
          refine ops_done (by kernel_rfl) ?_
          refine end_rule (C := []) [(b, .cells #[v26, .int .i64 ((cnt + 1 + (headB be (kindE e.left e.right)).length + (evB e.left).length + (evB e.right).length : Nat) : Int)] 91), ((φ1 0), .cells #[.int .u64 ((be : Nat) : Int), .pointer pe] 30), ((φ10 4), .cells #[.int .u64 (((xs10 1).n 0 : Nat) : Int), .pointer ((xs10 1).p 0)] 30), ((φ10 5), .cells #[.int .u64 (((xs10 3).n 0 : Nat) : Int), .pointer ((xs10 3).p 0)] 30)] F26 (.tuple #[]) [] [] s trivial (by kernel_rfl) ?_
          replace s := s.drop (List.Sublist.append (List.Sublist.cons₂ _ (List.Sublist.cons _ (List.Sublist.cons _ (List.Sublist.cons _ List.Sublist.slnil)))) (List.Sublist.refl F26))
          have hz9 : ((((bs ++ putBits 0 1) ++ headB be (kindE e.left e.right)) ++ evB e.left) ++ evB e.right) = bs ++ evB e := by
            rw [evB_nd hc4, if_neg (of_decide_eq_true hc20), if_neg (of_decide_eq_true hc24)]
            simp [hbe]
          have hL9 := congrArg List.length hz9
          simp only [List.length_append, putBits_len] at hL9
          have hc9 : cnt + 1 + (headB be (kindE e.left e.right)).length + (evB e.left).length + (evB e.right).length = cnt + (evB e).length := (by omega)
          exact ⟨_, _, _, rfl, s, ⟨_, _, rfl, rfl, _, rfl, by rw [hc9], row_cast hr26 (congrArg pk hz9)⟩⟩
        ·
          rw [hc24]
          refine cond_false_rule (b := false) (by kernel_rfl) rfl ?_
          refine wp_skip ?_
          refine end_rule (C := []) [(b, .cells #[v22, .int .i64 ((cnt + 1 + (headB be (kindE e.left e.right)).length + (evB e.left).length : Nat) : Int)] 91), ((φ1 0), .cells #[.int .u64 ((be : Nat) : Int), .pointer pe] 30), ((φ10 4), .cells #[.int .u64 (((xs10 1).n 0 : Nat) : Int), .pointer ((xs10 1).p 0)] 30), ((φ10 5), .cells #[.int .u64 (((xs10 3).n 0 : Nat) : Int), .pointer ((xs10 3).p 0)] 30)] F22 (.tuple #[]) [] [] s trivial (by kernel_rfl) ?_
          replace s := s.drop (List.Sublist.append (List.Sublist.cons₂ _ (List.Sublist.cons _ (List.Sublist.cons _ (List.Sublist.cons _ List.Sublist.slnil)))) (List.Sublist.refl F22))
          have hz9 : (((bs ++ putBits 0 1) ++ headB be (kindE e.left e.right)) ++ evB e.left) = bs ++ evB e := by
            rw [evB_nd hc4, if_neg (of_decide_eq_true hc20), if_pos (Decidable.not_not.1 (of_decide_eq_false hc24))]
            simp [hbe]
          have hL9 := congrArg List.length hz9
          simp only [List.length_append, putBits_len] at hL9
          have hc9 : cnt + 1 + (headB be (kindE e.left e.right)).length + (evB e.left).length = cnt + (evB e).length := (by omega)
          exact ⟨_, _, _, rfl, s, ⟨_, _, rfl, rfl, _, rfl, by rw [hc9], row_cast hr22 (congrArg pk hz9)⟩⟩
      ·
        rw [hc20]
        refine cond_false_rule (b := false) (by kernel_rfl) rfl ?_
        refine wp_skip ?_
        refine wp_seq ?_
        refine region_rule ?_
        refine ops_rule (C := []) [(b, .cells #[v18, .int .i64 ((cnt + 1 + (headB be (kindE e.left e.right)).length : Nat) : Int)] 91), ((φ1 0), .cells #[.int .u64 ((be : Nat) : Int), .pointer pe] 30), ((φ10 4), .cells #[.int .u64 (((xs10 1).n 0 : Nat) : Int), .pointer ((xs10 1).p 0)] 30), ((φ10 5), .cells #[.int .u64 (((xs10 3).n 0 : Nat) : Int), .pointer ((xs10 3).p 0)] 30)] F18 2 [] 0 (fun φ27 => [(35, .bool (((kindE e.left e.right : Nat) : Int) != ((1 : Nat) : Int))), (34, .int .u64 ((kindE e.left e.right : Nat) : Int))]) (fun φ27 => [(b, .cells #[v18, .int .i64 ((cnt + 1 + (headB be (kindE e.left e.right)).length : Nat) : Int)] 91), ((φ1 0), .cells #[.int .u64 ((be : Nat) : Int), .pointer pe] 30), ((φ10 4), .cells #[.int .u64 (((xs10 1).n 0 : Nat) : Int), .pointer ((xs10 1).p 0)] 30), ((φ10 5), .cells #[.int .u64 (((xs10 3).n 0 : Nat) : Int), .pointer ((xs10 3).p 0)] 30)]) (fun φ27 => []) s trivial (fun φ27 => by kernel_rfl) ?_
        intro φ27 w27 s
        rw [nat_neq (a := (kindE e.left e.right)) (b := 1)]
        refine ops_done (by kernel_rfl) ?_
        rcases Bool.eq_false_or_eq_true (decide ((kindE e.left e.right) ≠ 1)) with hc28 | hc28
        ·
          rw [hc28]
          refine cond_true_rule (b := true) (by kernel_rfl) rfl ?_
          refine region_rule ?_
          refine ops_rule (C := []) [(b, .cells #[v18, .int .i64 ((cnt + 1 + (headB be (kindE e.left e.right)).length : Nat) : Int)] 91), ((φ1 0), .cells #[.int .u64 ((be : Nat) : Int), .pointer pe] 30), ((φ10 4), .cells #[.int .u64 (((xs10 1).n 0 : Nat) : Int), .pointer ((xs10 1).p 0)] 30), ((φ10 5), .cells #[.int .u64 (((xs10 3).n 0 : Nat) : Int), .pointer ((xs10 3).p 0)] 30)] F18 2 [.o 3, .o 3] 0 (fun φ29 => [(37, .agg #[.int .u64 (((xs10 3).n 0 : Nat) : Int), .pointer ((xs10 3).p 0)]), (36, .pointer (some ⟨b, 0, none⟩))]) (fun φ29 => [(b, .cells #[v18, .int .i64 ((cnt + 1 + (headB be (kindE e.left e.right)).length : Nat) : Int)] 91), ((φ1 0), .cells #[.int .u64 ((be : Nat) : Int), .pointer pe] 30), ((φ10 4), .cells #[.int .u64 (((xs10 1).n 0 : Nat) : Int), .pointer ((xs10 1).p 0)] 30), ((φ10 5), .cells #[.int .u64 (((xs10 3).n 0 : Nat) : Int), .pointer ((xs10 3).p 0)] 30)]) (fun φ29 => [(φ10 5), (φ10 5)]) s trivial (fun φ29 => by kernel_rfl) ?_
          intro φ29 w29 s
          refine callH_rule (b := (b, .cells #[v18, .int .i64 ((cnt + 1 + (headB be (kindE e.left e.right)).length : Nat) : Int)] 91)) (H := [(b, .cells #[v18, .int .i64 ((cnt + 1 + (headB be (kindE e.left e.right)).length : Nat) : Int)] 91), ((φ1 0), .cells #[.int .u64 ((be : Nat) : Int), .pointer pe] 30), ((φ10 4), .cells #[.int .u64 (((xs10 1).n 0 : Nat) : Int), .pointer ((xs10 1).p 0)] 30), ((φ10 5), .cells #[.int .u64 (((xs10 3).n 0 : Nat) : Int), .pointer ((xs10 3).p 0)] 30)]) (F := F18) (Hr := [((φ1 0), .cells #[.int .u64 ((be : Nat) : Int), .pointer pe] 30), ((φ10 4), .cells #[.int .u64 (((xs10 1).n 0 : Nat) : Int), .pointer ((xs10 1).p 0)] 30), ((φ10 5), .cells #[.int .u64 (((xs10 3).n 0 : Nat) : Int), .pointer ((xs10 3).p 0)] 30)]) (some 38) 0 s (by kernel_rfl) (by kernel_rfl) (ihr hc4 (of_decide_eq_true hc28) (cnt := cnt + 1 + (headB be (kindE e.left e.right)).length) (bs := ((bs ++ putBits 0 1) ++ headB be (kindE e.left e.right))) (v0 := v18) h10_3_0 (by (try simp only [List.length_append, putBits_len]); omega) (by have h7 := hlen; have h6 := congrArg List.length (evB_nd hc4); rw [if_pos (Decidable.not_not.1 (of_decide_eq_false hc20)), if_neg (of_decide_eq_true hc28)] at h6; (try rw [← hbe] at h6); simp only [List.length_append, putBits_len] at h6; (try simp only [List.length_append, putBits_len]); omega) hr18) (by kernel_rfl) ?_
          rintro v30 I30 w30 b30 F30 le30 - h30 s
          replace he := Ev.ERep.mono le30 he
          replace h10_1_0 := Ev.ERep.mono le30 h10_1_0
          replace h10_3_0 := Ev.ERep.mono le30 h10_3_0
          obtain ⟨v30, rfl, rfl, hr30⟩ := h30
          refine ops_done (by kernel_rfl) ?_
          refine end_rule (C := []) [(b, .cells #[v30, .int .i64 ((cnt + 1 + (headB be (kindE e.left e.right)).length + (evB e.right).length : Nat) : Int)] 91), ((φ1 0), .cells #[.int .u64 ((be : Nat) : Int), .pointer pe] 30), ((φ10 4), .cells #[.int .u64 (((xs10 1).n 0 : Nat) : Int), .pointer ((xs10 1).p 0)] 30), ((φ10 5), .cells #[.int .u64 (((xs10 3).n 0 : Nat) : Int), .pointer ((xs10 3).p 0)] 30)] F30 (.tuple #[]) [] [] s trivial (by kernel_rfl) ?_
          replace s := s.drop (List.Sublist.append (List.Sublist.cons₂ _ (List.Sublist.cons _ (List.Sublist.cons _ (List.Sublist.cons _ List.Sublist.slnil)))) (List.Sublist.refl F30))
          have hz9 : (((bs ++ putBits 0 1) ++ headB be (kindE e.left e.right)) ++ evB e.right) = bs ++ evB e := by
            rw [evB_nd hc4, if_pos (Decidable.not_not.1 (of_decide_eq_false hc20)), if_neg (of_decide_eq_true hc28)]
            simp [hbe]
          have hL9 := congrArg List.length hz9
          simp only [List.length_append, putBits_len] at hL9
          have hc9 : cnt + 1 + (headB be (kindE e.left e.right)).length + (evB e.right).length = cnt + (evB e).length := (by omega)
          exact ⟨_, _, _, rfl, s, ⟨_, _, rfl, rfl, _, rfl, by rw [hc9], row_cast hr30 (congrArg pk hz9)⟩⟩
        ·
          rw [hc28]
          refine cond_false_rule (b := false) (by kernel_rfl) rfl ?_
          refine wp_skip ?_
          refine end_rule (C := []) [(b, .cells #[v18, .int .i64 ((cnt + 1 + (headB be (kindE e.left e.right)).length : Nat) : Int)] 91), ((φ1 0), .cells #[.int .u64 ((be : Nat) : Int), .pointer pe] 30), ((φ10 4), .cells #[.int .u64 (((xs10 1).n 0 : Nat) : Int), .pointer ((xs10 1).p 0)] 30), ((φ10 5), .cells #[.int .u64 (((xs10 3).n 0 : Nat) : Int), .pointer ((xs10 3).p 0)] 30)] F18 (.tuple #[]) [] [] s trivial (by kernel_rfl) ?_
          replace s := s.drop (List.Sublist.append (List.Sublist.cons₂ _ (List.Sublist.cons _ (List.Sublist.cons _ (List.Sublist.cons _ List.Sublist.slnil)))) (List.Sublist.refl F18))
          have hz9 : ((bs ++ putBits 0 1) ++ headB be (kindE e.left e.right)) = bs ++ evB e := by
            rw [evB_nd hc4, if_pos (Decidable.not_not.1 (of_decide_eq_false hc20)), if_pos (Decidable.not_not.1 (of_decide_eq_false hc28))]
            simp [hbe]
          have hL9 := congrArg List.length hz9
          simp only [List.length_append, putBits_len] at hL9
          have hc9 : cnt + 1 + (headB be (kindE e.left e.right)).length = cnt + (evB e).length := (by omega)
          exact ⟨_, _, _, rfl, s, ⟨_, _, rfl, rfl, _, rfl, by rw [hc9], row_cast hr18 (congrArg pk hz9)⟩⟩

theorem putEvent_c : ∀ (e : Ev.E) {I : IM} {be : Nat} {pe : Option Addr} {b cnt : Nat} {bs : List Bool} {v0 : Value} {F : List OB}, Ev.ERep I e be pe → e.top < 18446744073709551616 → cnt = bs.length → bs.length + (evB e).length ≤ 700000 → RowH 5 1 v0 (pk bs).length ((pk bs).map bV) F → FunM Try.prog 23 #[.pointer (some ⟨b, 0, none⟩), .agg #[.int .u64 ((be : Nat) : Int), .pointer pe]] I ((b, .cells #[v0, .int .i64 ((cnt : Nat) : Int)] 91) :: F) (fun v J H' => ∃ (b' : OB) (F' : List OB), H' = b' :: F' ∧ b'.1 = b ∧ ∃ v', v = .tuple #[] ∧ b' = (b, .cells #[v', .int .i64 ((cnt + (evB e).length : Nat) : Int)] 91) ∧ RowH 5 1 v' (pk (bs ++ evB e)).length ((pk (bs ++ evB e)).map bV) F')
  | .leaf n, _, _, _, _, _, _, _, _, ht, htop, hc, hlen, h => putEvent_step ht htop hc hlen h (fun q => absurd q (by simp [Ev.E.isLeaf])) (fun q => absurd q (by simp [Ev.E.isLeaf]))
  | .node n l r, _, _, _, _, _, _, _, _, ht, htop, hc, hlen, h => putEvent_step ht htop hc hlen h (fun _ _ {J} {b1} {p1} {cnt} {bs} {v0} {F} a1 a2 a3 a4 => putEvent_c l a1 (half_lt htop).1 a2 a3 a4) (fun _ _ {J} {b1} {p1} {cnt} {bs} {v0} {F} a1 a2 a3 a4 => putEvent_c r a1 (half_lt htop).2.1 a2 a3 a4)

end Go.Proofs.Ytgmigcmhnmmdkaa
