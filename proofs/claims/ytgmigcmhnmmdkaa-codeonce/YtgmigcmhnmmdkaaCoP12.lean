/- The document's Make of ids. -/
import Derived.Test.YtgmigcmhnmmdkaaCoP11
set_option linter.all false
set_option maxRecDepth 100000
namespace Go.Proofs.Ytgmigcmhnmmdkaa.Ev
open Go.RowKit Go.Sep

def BSl (I : IM) (l : List UInt8) (v : Value) : Prop := ∃ a cap, v = .slice a l.length cap ∧ l.length ≤ cap ∧ ∀ j x, l[j]? = some x → ∃ b o cs T fr, a = some ⟨b, o, none⟩ ∧ I b = some (.cells cs T fr) ∧ cs[o + j]? = some (.int .u8 ((x.toNat : Nat) : Int))
theorem BSl.mono {I J : IM} (le : I.Le J) {l : List UInt8} {v : Value} (h : BSl I l v) : BSl J l v := by
  obtain ⟨a, cap, hv, hc, hr⟩ := h
  refine ⟨a, cap, hv, hc, fun j x hj => ?_⟩
  obtain ⟨b, o, cs, T, fr, h1, h2, h3⟩ := hr j x hj
  exact ⟨b, o, cs, T, fr, h1, le _ _ h2, h3⟩
theorem bsl_nil (I : IM) : BSl I [] (.slice none 0 0) := ⟨none, 0, rfl, Nat.le_refl _, fun j x h => by simp at h⟩
theorem bsl_cons {I : IM} {x : UInt8} {l : List UInt8} {v : Value} (h : BSl I (x :: l) v) : ∃ b o cap cs T fr, v = .slice (some ⟨b, o, none⟩) (l.length + 1) cap ∧ l.length + 1 ≤ cap ∧ I b = some (.cells cs T fr) ∧ cs[o]? = some (.int .u8 ((x.toNat : Nat) : Int)) ∧
    BSl I l (.slice (if cap = 1 then some ⟨b, o, none⟩ else some ⟨b, o + 1, none⟩) l.length (cap - 1)) := by
  obtain ⟨a, cap, hv, hc, hr⟩ := h
  obtain ⟨b, o, cs, T, fr, h1, h2, h3⟩ := hr 0 x rfl
  subst h1
  refine ⟨b, o, cap, cs, T, fr, hv, hc, h2, h3, _, _, rfl, ?_, fun j y hj => ?_⟩
  · simp only [List.length_cons] at hc; omega
  · obtain ⟨b', o', cs', T', fr', e1, e2, e3⟩ := hr (j + 1) y (by simpa using hj)
    cases e1
    have hcap : ¬ cap = 1 := by
      have := (List.getElem?_eq_some_iff.1 hj).1
      simp only [List.length_cons] at hc; omega
    rw [if_neg hcap]
    exact ⟨b, o + 1, cs', T', fr', rfl, e2, by rw [show o + 1 + j = o + (j + 1) by omega]; exact e3⟩
theorem size5 (w : World) : (sizeOf 5).run Try.prog w = .ok 1 w := by kernel_rfl
theorem under22 : Try.prog.underlying 22 = some (.slice 5) := by kernel_rfl
theorem run_first {w : World} {b o n cap : Nat} : (Instr.indexAt 22 (.slice (some ⟨b, o, none⟩) (n + 1) cap) (.int .i64 0)).run Try.prog w = .ok (.pointer (some ⟨b, o, none⟩)) w := by
  have h : (0 : Int) < (n : Int) + 1 := by omega
  simp [Instr.indexAt, asIntOf, run_underlying under22, size5, h]
  rfl
theorem run_rest {w : World} {b o n cap : Nat} (hc : n + 1 ≤ cap) : (Instr.sliceAt 22 (.slice (some ⟨b, o, none⟩) (n + 1) cap) (some (.int .i64 1)) none none).run Try.prog w = .ok (.slice (if cap = 1 then some ⟨b, o, none⟩ else some ⟨b, o + 1, none⟩) n (cap - 1)) w := by
  have hb : (Instr.sliceBound (.int .i64 1) (n + 1) .sliceB).run Try.prog w = .ok 1 w := run_bound (k := 1) (by omega)
  simp [Instr.sliceAt, Instr.slice, run_underlying under22, Instr.sliceBounds, hb, size5]
  rfl
theorem run_loadB {w : World} {b o : Nat} {cs : Array Value} {T : TypeId} {fr : Nat × Nat} {v : Value} (h : w.heap[b]? = some (.cells cs T fr)) (hv : cs[o]? = some v) : (Instr.loadAt 5 (.pointer (some ⟨b, o, none⟩))).run Try.prog w = .ok v w := by
  have e : (Instr.loadAt 5 (.pointer (some ⟨b, o, none⟩))).run Try.prog w = (load ⟨b, o, none⟩).run Try.prog w := by kernel_rfl
  have hc := run_cell (a := ⟨b, o, none⟩) h rfl rfl
  rw [hv] at hc
  rw [e]; simp only [load, Sem.run, hc]
theorem rt_bit {J : IM} {k x : Nat} (h : J k = some (.cells #[.int .i64 ((x % 2 : Nat) : Int), .pointer none, .pointer none] 84)) : ∃ t : T, t.nf ∧ t.depth = 0 ∧ RT J t k := by
  have : x % 2 = 0 ∨ x % 2 = 1 := by omega
  rcases this with e | e
  · rw [e] at h; exact ⟨.zero, trivial, rfl, h⟩
  · rw [e] at h; exact ⟨.one, trivial, rfl, h⟩

set_option maxHeartbeats 2000000 in
theorem make_step {I : IM} {m : Nat} {xs : List UInt8} {v : Value} (hv : BSl I xs v) (hm9 : m ≤ 100) (ih : ¬ m = 0 → ∀ {J : IM} {xs : List UInt8} {v : Value}, BSl J xs v → Fun Try.prog 33 #[v, .int .i64 ((m - 1 : Nat) : Int)] J (fun v J => ∃ k v' t l', v = .tuple #[.pointer (some ⟨k, 0, none⟩), v'] ∧ (t.nf ∧ t.depth ≤ m - 1) ∧ RT J t k ∧ BSl J l' v')) : Fun Try.prog 33 #[v, .int .i64 ((m : Nat) : Int)] I (fun v J => ∃ k v' t l', v = .tuple #[.pointer (some ⟨k, 0, none⟩), v'] ∧ (t.nf ∧ t.depth ≤ m) ∧ RT J t k ∧ BSl J l' v') := by
  cases xs with
  | nil =>
    obtain ⟨a, cap, rfl, hcap, -⟩ := hv
    simp only [List.length_nil]
    refine enter_rule 49 [(0, .slice a 0 cap), (1, .int .i64 ((m : Nat) : Int))] Try.func33 rfl (by kernel_rfl) ?_
    intro w s
    refine wp_seq ?_
    refine region_rule ?_
    refine ops_rule (C := []) [] [] 2 [] 0 (fun φ1 => [(5, .slice none 0 0), (4, .pointer none)]) (fun φ1 => []) (fun φ1 => []) s trivial (fun φ1 => by kernel_rfl) ?_
    intro φ1 w1 s
    refine ops_done (by kernel_rfl) ?_
    refine wp_seq ?_
    refine wp_seq ?_
    refine region_rule ?_
    refine ops_rule (C := []) [] [] 3 [] 0 (fun φ2 => [(11, .bool true), (10, .int .i64 0), (9, .slice a 0 cap)]) (fun φ2 => []) (fun φ2 => []) s trivial (fun φ2 => by kernel_rfl) ?_
    intro φ2 w2 s
    refine ops_done (by kernel_rfl) ?_
    refine cond_true_rule (b := true) (by kernel_rfl) rfl ?_
    refine wp_seq ?_
    refine region_rule ?_
    refine call_rule (some 12) s (rzero_c) (by kernel_rfl) ?_
    intro v3 I3 w3 le3 h3 s
    obtain ⟨k3, rfl, h3_0⟩ := h3
    refine ops_rule (C := []) [] [] 2 [] 0 (fun φ4 => [(5, .slice none 0 0), (4, .pointer (some ⟨k3, 0, none⟩))]) (fun φ4 => []) (fun φ4 => []) s trivial (fun φ4 => by kernel_rfl) ?_
    intro φ4 w4 s
    refine ops_done (by kernel_rfl) ?_
    refine wp_ret ?_
    refine ret_rule (C := []) [] [] (.tuple #[.pointer (some ⟨k3, 0, none⟩), .slice none 0 0]) [] [] s trivial (by kernel_rfl) ?_
    exact ⟨_, _, _, rfl, s, ⟨_, _, T.zero, [], rfl, ⟨trivial, Nat.zero_le _⟩, h3_0, bsl_nil _⟩⟩
  | cons x l =>
    obtain ⟨b, o, cap, cs, T9, fr, rfl, hcap, hcs, hx, hrest⟩ := bsl_cons hv
    clear hv
    have hx8 : x.toNat < 256 := x.toNat_lt
    refine enter_rule 49 [(0, .slice (some ⟨b, o, none⟩) (l.length + 1) cap), (1, .int .i64 ((m : Nat) : Int))] Try.func33 rfl (by kernel_rfl) ?_
    intro w s
    refine wp_seq ?_
    refine region_rule ?_
    refine ops_rule (C := []) [] [] 2 [] 0 (fun φ1 => [(5, .slice none 0 0), (4, .pointer none)]) (fun φ1 => []) (fun φ1 => []) s trivial (fun φ1 => by kernel_rfl) ?_
    intro φ1 w1 s
    refine ops_done (by kernel_rfl) ?_
    refine wp_seq ?_
    refine wp_seq ?_
    refine region_rule ?_
    refine ops_rule (C := []) [] [] 3 [] 0 (fun φ2 => [(11, .bool ((((l.length + 1) : Nat) : Int) == ((0 : Nat) : Int))), (10, .int .i64 (((l.length + 1) : Nat) : Int)), (9, .slice (some ⟨b, o, none⟩) (l.length + 1) cap)]) (fun φ2 => []) (fun φ2 => []) s trivial (fun φ2 => by kernel_rfl) ?_
    intro φ2 w2 s
    rw [nat_eql (a := (l.length + 1)) (b := 0)]
    refine ops_done (by kernel_rfl) ?_
    rcases Bool.eq_false_or_eq_true (decide ((l.length + 1) = 0)) with hc3 | hc3
    ·
      exact absurd (of_decide_eq_true hc3) (by omega)
    ·
      rw [hc3]
      refine cond_false_rule (b := false) (by kernel_rfl) rfl ?_
      refine wp_skip ?_
      refine wp_seq ?_
      refine region_rule ?_
      refine ops_rule (C := []) [] [] 1 [] 0 (fun φ4 => [(13, .slice (some ⟨b, o, none⟩) (l.length + 1) cap)]) (fun φ4 => []) (fun φ4 => []) s trivial (fun φ4 => by kernel_rfl) ?_
      intro φ4 w4 s
      refine sem_rule (Instr.indexAt 22 (.slice (some ⟨b, o, none⟩) (l.length + 1) cap) (.int .i64 0)) (some 14) (.pointer (some ⟨b, o, none⟩)) (by kernel_rfl) (run_first) ?_
      refine sem_rule (Instr.loadAt 5 (.pointer (some ⟨b, o, none⟩))) (some 15) (.int .u8 ((x.toNat : Nat) : Int)) (by kernel_rfl) (run_loadB (s.sub _ _ hcs) hx) ?_
      refine ops_rule (C := []) [] [] 1 [] 0 (fun φ5 => [(6, .int .u8 ((x.toNat : Nat) : Int))]) (fun φ5 => []) (fun φ5 => []) s trivial (fun φ5 => by kernel_rfl) ?_
      intro φ5 w5 s
      refine ops_done (by kernel_rfl) ?_
      refine wp_seq ?_
      refine region_rule ?_
      refine ops_rule (C := []) [] [] 1 [] 0 (fun φ6 => [(16, .slice (some ⟨b, o, none⟩) (l.length + 1) cap)]) (fun φ6 => []) (fun φ6 => []) s trivial (fun φ6 => by kernel_rfl) ?_
      intro φ6 w6 s
      refine sem_rule (Instr.sliceAt 22 (.slice (some ⟨b, o, none⟩) (l.length + 1) cap) (some (.int .i64 1)) none none) (some 17) (.slice (if cap = 1 then some ⟨b, o, none⟩ else some ⟨b, o + 1, none⟩) l.length (cap - 1)) (by kernel_rfl) (run_rest hcap) ?_
      refine ops_rule (C := []) [] [] 1 [] 0 (fun φ7 => [(0, .slice (if cap = 1 then some ⟨b, o, none⟩ else some ⟨b, o + 1, none⟩) l.length (cap - 1))]) (fun φ7 => []) (fun φ7 => []) s trivial (fun φ7 => by kernel_rfl) ?_
      intro φ7 w7 s
      refine ops_done (by kernel_rfl) ?_
      refine wp_seq ?_
      refine wp_seq ?_
      refine region_rule ?_
      refine ops_rule (C := []) [] [] 3 [] 0 (fun φ8 => [(20, .bool (((m : Nat) : Int) == ((0 : Nat) : Int))), (19, .bool (((m : Nat) : Int) == ((0 : Nat) : Int))), (18, .int .i64 ((m : Nat) : Int))]) (fun φ8 => []) (fun φ8 => []) s trivial (fun φ8 => by kernel_rfl) ?_
      intro φ8 w8 s
      rw [nat_eql (a := m) (b := 0)]
      rcases Bool.eq_false_or_eq_true (decide (m = 0)) with hc9 | hc9
      ·
        rw [hc9]
        refine ops_rule (C := []) [] [] 4 [] 0 (fun φ10 => [(24, .bool true), (23, undef), (22, undef), (21, undef)]) (fun φ10 => []) (fun φ10 => []) s trivial (fun φ10 => by kernel_rfl) ?_
        intro φ10 w10 s
        refine ops_done (by kernel_rfl) ?_
        refine cond_true_rule (b := true) (by kernel_rfl) rfl ?_
        refine wp_seq ?_
        refine region_rule ?_
        refine ops_rule (C := []) [] [] 8 [] 1 (fun φ11 => [(5, .slice (if cap = 1 then some ⟨b, o, none⟩ else some ⟨b, o + 1, none⟩) l.length (cap - 1)), (4, .pointer (some ⟨(φ11 0), 0, none⟩)), (30, .slice (if cap = 1 then some ⟨b, o, none⟩ else some ⟨b, o + 1, none⟩) l.length (cap - 1)), (29, .pointer (some ⟨(φ11 0), 0, none⟩)), (28, .agg #[.int .i64 (IntKind.wrap .i64 (Int.tmod ((x.toNat : Nat) : Int) ((2 : Nat) : Int))), .pointer none, .pointer none]), (27, .int .i64 (IntKind.wrap .i64 (Int.tmod ((x.toNat : Nat) : Int) ((2 : Nat) : Int)))), (26, .int .u8 (Int.tmod ((x.toNat : Nat) : Int) ((2 : Nat) : Int))), (25, .int .u8 ((x.toNat : Nat) : Int))]) (fun φ11 => [((φ11 0), .cells #[.int .i64 (IntKind.wrap .i64 (Int.tmod ((x.toNat : Nat) : Int) ((2 : Nat) : Int))), .pointer none, .pointer none] 84)]) (fun φ11 => []) s trivial (fun φ11 => by kernel_rfl) ?_
        intro φ11 w11 s
        rw [nat_rem (a := x.toNat) (b := 2)] at s ⊢
        rw [nat_wrapI (a := (x.toNat % 2)) (by have hq0 := of_decide_eq_false hc3; have hq1 := of_decide_eq_true hc9; omega)] at s ⊢
        refine ops_done (by kernel_rfl) ?_
        refine wp_ret ?_
        refine ret_rule (C := []) [((φ11 0), .cells #[.int .i64 ((x.toNat % 2 : Nat) : Int), .pointer none, .pointer none] 84)] [] (.tuple #[.pointer (some ⟨(φ11 0), 0, none⟩), .slice (if cap = 1 then some ⟨b, o, none⟩ else some ⟨b, o + 1, none⟩) l.length (cap - 1)]) [] [] s trivial (by kernel_rfl) ?_
        obtain ⟨I12, le12, hk12, s⟩ := s.freezeAt 0 (φ11 0) (.cells #[.int .i64 ((x.toNat % 2 : Nat) : Int), .pointer none, .pointer none] 84) [] (by kernel_rfl) (by kernel_rfl)
        replace hrest := BSl.mono le12 hrest
        replace hcs := le12 _ _ hcs
        obtain ⟨t9, hn9, hd9, ht9⟩ := rt_bit hk12
        exact ⟨_, _, _, rfl, s, ⟨_, _, t9, _, rfl, ⟨hn9, by omega⟩, ht9, hrest⟩⟩
      ·
        rw [hc9]
        refine ops_rule (C := []) [] [] 4 [] 0 (fun φ13 => [(24, .bool (decide ((Int.tmod ((x.toNat : Nat) : Int) ((4 : Nat) : Int)) < ((2 : Nat) : Int)))), (23, .bool (decide ((Int.tmod ((x.toNat : Nat) : Int) ((4 : Nat) : Int)) < ((2 : Nat) : Int)))), (22, .int .u8 (Int.tmod ((x.toNat : Nat) : Int) ((4 : Nat) : Int))), (21, .int .u8 ((x.toNat : Nat) : Int))]) (fun φ13 => []) (fun φ13 => []) s trivial (fun φ13 => by kernel_rfl) ?_
        intro φ13 w13 s
        rw [nat_rem (a := x.toNat) (b := 4)]
        rw [nat_lss (a := (x.toNat % 4)) (b := 2)]
        refine ops_done (by kernel_rfl) ?_
        rcases Bool.eq_false_or_eq_true (decide ((x.toNat % 4) < 2)) with hc14 | hc14
        ·
          rw [hc14]
          refine cond_true_rule (b := true) (by kernel_rfl) rfl ?_
          refine wp_seq ?_
          refine region_rule ?_
          refine ops_rule (C := []) [] [] 8 [] 1 (fun φ15 => [(5, .slice (if cap = 1 then some ⟨b, o, none⟩ else some ⟨b, o + 1, none⟩) l.length (cap - 1)), (4, .pointer (some ⟨(φ15 0), 0, none⟩)), (30, .slice (if cap = 1 then some ⟨b, o, none⟩ else some ⟨b, o + 1, none⟩) l.length (cap - 1)), (29, .pointer (some ⟨(φ15 0), 0, none⟩)), (28, .agg #[.int .i64 (IntKind.wrap .i64 (Int.tmod ((x.toNat : Nat) : Int) ((2 : Nat) : Int))), .pointer none, .pointer none]), (27, .int .i64 (IntKind.wrap .i64 (Int.tmod ((x.toNat : Nat) : Int) ((2 : Nat) : Int)))), (26, .int .u8 (Int.tmod ((x.toNat : Nat) : Int) ((2 : Nat) : Int))), (25, .int .u8 ((x.toNat : Nat) : Int))]) (fun φ15 => [((φ15 0), .cells #[.int .i64 (IntKind.wrap .i64 (Int.tmod ((x.toNat : Nat) : Int) ((2 : Nat) : Int))), .pointer none, .pointer none] 84)]) (fun φ15 => []) s trivial (fun φ15 => by kernel_rfl) ?_
          intro φ15 w15 s
          rw [nat_rem (a := x.toNat) (b := 2)] at s ⊢
          rw [nat_wrapI (a := (x.toNat % 2)) (by have hq0 := of_decide_eq_false hc3; have hq1 := of_decide_eq_false hc9; have hq2 := of_decide_eq_true hc14; omega)] at s ⊢
          refine ops_done (by kernel_rfl) ?_
          refine wp_ret ?_
          refine ret_rule (C := []) [((φ15 0), .cells #[.int .i64 ((x.toNat % 2 : Nat) : Int), .pointer none, .pointer none] 84)] [] (.tuple #[.pointer (some ⟨(φ15 0), 0, none⟩), .slice (if cap = 1 then some ⟨b, o, none⟩ else some ⟨b, o + 1, none⟩) l.length (cap - 1)]) [] [] s trivial (by kernel_rfl) ?_
          obtain ⟨I16, le16, hk16, s⟩ := s.freezeAt 0 (φ15 0) (.cells #[.int .i64 ((x.toNat % 2 : Nat) : Int), .pointer none, .pointer none] 84) [] (by kernel_rfl) (by kernel_rfl)
          replace hrest := BSl.mono le16 hrest
          replace hcs := le16 _ _ hcs
          obtain ⟨t9, hn9, hd9, ht9⟩ := rt_bit hk16
          exact ⟨_, _, _, rfl, s, ⟨_, _, t9, _, rfl, ⟨hn9, by omega⟩, ht9, hrest⟩⟩
        ·
          rw [hc14]
          refine cond_false_rule (b := false) (by kernel_rfl) rfl ?_
          refine wp_skip ?_
          refine wp_seq ?_
          refine region_rule ?_
          refine ops_rule (C := []) [] [] 3 [] 0 (fun φ17 => [(34, .int .i64 (IntKind.wrap .i64 (((m : Nat) : Int) - ((1 : Nat) : Int)))), (33, .int .i64 ((m : Nat) : Int)), (32, .slice (if cap = 1 then some ⟨b, o, none⟩ else some ⟨b, o + 1, none⟩) l.length (cap - 1))]) (fun φ17 => []) (fun φ17 => []) s trivial (fun φ17 => by kernel_rfl) ?_
          intro φ17 w17 s
          rw [nat_subI (a := m) (b := 1) (by have hq0 := of_decide_eq_false hc3; have hq1 := of_decide_eq_false hc9; have hq2 := of_decide_eq_false hc14; omega) (by have hq0 := of_decide_eq_false hc3; have hq1 := of_decide_eq_false hc9; have hq2 := of_decide_eq_false hc14; omega)]
          refine call_rule (some 35) s (ih (of_decide_eq_false hc9) hrest) (by kernel_rfl) ?_
          intro v18 I18 w18 le18 h18 s
          replace hrest := BSl.mono le18 hrest
          replace hcs := le18 _ _ hcs
          obtain ⟨k18, v18, t18, l18, rfl, h18_0, h18_1, h18_2⟩ := h18
          refine ops_rule (C := []) [] [] 5 [] 0 (fun φ19 => [(0, v18), (7, .pointer (some ⟨k18, 0, none⟩)), (37, v18), (36, .pointer (some ⟨k18, 0, none⟩)), (31, .tuple #[.pointer (some ⟨k18, 0, none⟩), v18])]) (fun φ19 => []) (fun φ19 => []) s trivial (fun φ19 => by kernel_rfl) ?_
          intro φ19 w19 s
          refine ops_done (by kernel_rfl) ?_
          refine wp_seq ?_
          refine region_rule ?_
          refine ops_rule (C := []) [] [] 3 [] 0 (fun φ20 => [(41, .int .i64 (IntKind.wrap .i64 (((m : Nat) : Int) - ((1 : Nat) : Int)))), (40, .int .i64 ((m : Nat) : Int)), (39, v18)]) (fun φ20 => []) (fun φ20 => []) s trivial (fun φ20 => by kernel_rfl) ?_
          intro φ20 w20 s
          rw [nat_subI (a := m) (b := 1) (by have hq0 := of_decide_eq_false hc3; have hq1 := of_decide_eq_false hc9; have hq2 := of_decide_eq_false hc14; omega) (by have hq0 := of_decide_eq_false hc3; have hq1 := of_decide_eq_false hc9; have hq2 := of_decide_eq_false hc14; omega)]
          refine call_rule (some 42) s (ih (of_decide_eq_false hc9) h18_2) (by kernel_rfl) ?_
          intro v21 I21 w21 le21 h21 s
          replace hrest := BSl.mono le21 hrest
          replace h18_1 := RT.mono le21 h18_1
          replace h18_2 := BSl.mono le21 h18_2
          replace hcs := le21 _ _ hcs
          obtain ⟨k21, v21, t21, l21, rfl, h21_0, h21_1, h21_2⟩ := h21
          refine ops_rule (C := []) [] [] 5 [] 0 (fun φ22 => [(0, v21), (8, .pointer (some ⟨k21, 0, none⟩)), (44, v21), (43, .pointer (some ⟨k21, 0, none⟩)), (38, .tuple #[.pointer (some ⟨k21, 0, none⟩), v21])]) (fun φ22 => []) (fun φ22 => []) s trivial (fun φ22 => by kernel_rfl) ?_
          intro φ22 w22 s
          refine ops_done (by kernel_rfl) ?_
          refine wp_seq ?_
          refine region_rule ?_
          refine ops_rule (C := []) [] [] 2 [] 0 (fun φ23 => [(46, .pointer (some ⟨k21, 0, none⟩)), (45, .pointer (some ⟨k18, 0, none⟩))]) (fun φ23 => []) (fun φ23 => []) s trivial (fun φ23 => by kernel_rfl) ?_
          intro φ23 w23 s
          refine call_rule (some 47) s (rpair_c h18_1 h21_1) (by kernel_rfl) ?_
          intro v24 I24 w24 le24 h24 s
          replace hrest := BSl.mono le24 hrest
          replace h18_1 := RT.mono le24 h18_1
          replace h18_2 := BSl.mono le24 h18_2
          replace h21_1 := RT.mono le24 h21_1
          replace h21_2 := BSl.mono le24 h21_2
          replace hcs := le24 _ _ hcs
          obtain ⟨k24, rfl, h24_0⟩ := h24
          refine ops_rule (C := []) [] [] 3 [] 0 (fun φ25 => [(5, v21), (4, .pointer (some ⟨k24, 0, none⟩)), (48, v21)]) (fun φ25 => []) (fun φ25 => []) s trivial (fun φ25 => by kernel_rfl) ?_
          intro φ25 w25 s
          refine ops_done (by kernel_rfl) ?_
          refine wp_ret ?_
          refine ret_rule (C := []) [] [] (.tuple #[.pointer (some ⟨k24, 0, none⟩), v21]) [] [] s trivial (by kernel_rfl) ?_
          exact ⟨_, _, _, rfl, s, ⟨_, _, (T.mk t18 t21), _, rfl, ⟨T.nf_mk h18_0.1 h21_0.1, by have hm := of_decide_eq_false hc9; have h1 := T.mk_depth t18 t21; have h2 := h18_0.2; have h3 := h21_0.2; omega⟩, h24_0, h21_2⟩⟩

theorem make_c : ∀ (m : Nat) {I : IM} {xs : List UInt8} {v : Value}, m ≤ 100 → BSl I xs v → Fun Try.prog 33 #[v, .int .i64 ((m : Nat) : Int)] I (fun v J => ∃ k v' t l', v = .tuple #[.pointer (some ⟨k, 0, none⟩), v'] ∧ (t.nf ∧ t.depth ≤ m) ∧ RT J t k ∧ BSl J l' v')
  | 0, _, _, _, h, hv => make_step hv h (fun h => absurd rfl h)
  | m + 1, _, _, _, h, hv => make_step hv h (fun _ {J} {xs} {v} k => make_c m (by omega) k)

end Go.Proofs.Ytgmigcmhnmmdkaa.Ev

