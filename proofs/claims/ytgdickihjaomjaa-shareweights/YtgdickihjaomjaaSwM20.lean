/- The document's Make of ids. -/
import Derived.Test.YtgdickihjaomjaaSwP11
import Derived.Test.YtgdickihjaomjaaSwM14
set_option linter.all false
set_option maxRecDepth 100000
namespace Go.Proofs.Ytgdickihjaomjaa.Ev
open Go.RowKit Go.Sep

def BSl (I : IM) (l : List UInt8) (v : Value) : Prop := ∃ a cap, v = .slice a l.length cap ∧ l.length ≤ cap ∧ ∀ j x, l[j]? = some x → ∃ b o cs T fr, a = some ⟨b, o, none⟩ ∧ I b = some (.cells cs T fr) ∧ cs[o + j]? = some (.int .u8 ((x.toNat : Nat) : Int))
theorem BSl.mono {I J : IM} (le : I.Le J) {l : List UInt8} {v : Value} (h : BSl I l v) : BSl J l v := by
  obtain ⟨a, cap, hv, hc, hr⟩ := h
  refine ⟨a, cap, hv, hc, fun j x hj => ?_⟩
  obtain ⟨b, o, cs, T, fr, h1, h2, h3⟩ := hr j x hj
  exact ⟨b, o, cs, T, fr, h1, le _ _ h2, h3⟩
theorem bsl_nil (I : IM) : BSl I [] (.slice none 0 0) := ⟨none, 0, rfl, Nat.le_refl _, fun j x h => by simp at h⟩
theorem bsl_cons {I : IM} {x : UInt8} {l : List UInt8} {v : Value} (h : BSl I (x :: l) v) : ∃ b o cap cs T fr, v = .slice (some ⟨b, o, none⟩) (l.length + 1) cap ∧ l.length + 1 ≤ cap ∧ I b = some (.cells cs T fr) ∧ cs[o]? = some (.int .u8 ((x.toNat : Nat) : Int)) ∧
    BSl I l (.slice (if cap = 1 then some ⟨b, o, none⟩ else some ⟨b, o + 1, none⟩) l.length (cap - 1)) := by
  obtain ⟨a, cap, hv, hc, hr⟩ := h
  obtain ⟨b, o, cs, T, fr, h1, h2, h3⟩ := hr 0 x rfl
  subst h1
  refine ⟨b, o, cap, cs, T, fr, hv, hc, h2, h3, _, _, rfl, ?_, fun j y hj => ?_⟩
  · simp only [List.length_cons] at hc; omega
  · obtain ⟨b', o', cs', T', fr', e1, e2, e3⟩ := hr (j + 1) y (by simpa using hj)
    cases e1
    have hcap : ¬ cap = 1 := by
      have := (List.getElem?_eq_some_iff.1 hj).1
      simp only [List.length_cons] at hc; omega
    rw [if_neg hcap]
    exact ⟨b, o + 1, cs', T', fr', rfl, e2, by rw [show o + 1 + j = o + (j + 1) by omega]; exact e3⟩
theorem size5 (w : World) : (sizeOf 5).run Try.prog w = .ok 1 w := by kernel_rfl
theorem under22 : Try.prog.underlying 22 = some (.slice 5) := by kernel_rfl
theorem run_first {w : World} {b o n cap : Nat} : (Instr.indexAt 22 (.slice (some ⟨b, o, none⟩) (n + 1) cap) (.int .i64 0)).run Try.prog w = .ok (.pointer (some ⟨b, o, none⟩)) w := by
  have h : (0 : Int) < (n : Int) + 1 := by omega
  simp [Instr.indexAt, asIntOf, run_underlying under22, size5, h]
  rfl
theorem run_rest {w : World} {b o n cap : Nat} (hc : n + 1 ≤ cap) : (Instr.sliceAt 22 (.slice (some ⟨b, o, none⟩) (n + 1) cap) (some (.int .i64 1)) none none).run Try.prog w = .ok (.slice (if cap = 1 then some ⟨b, o, none⟩ else some ⟨b, o + 1, none⟩) n (cap - 1)) w := by
  have hb : (Instr.sliceBound (.int .i64 1) (n + 1) .sliceB).run Try.prog w = .ok 1 w := run_bound (k := 1) (by omega)
  simp [Instr.sliceAt, Instr.slice, run_underlying under22, Instr.sliceBounds, hb, size5]
  rfl
theorem run_loadB {w : World} {b o : Nat} {cs : Array Value} {T : TypeId} {fr : Nat × Nat} {v : Value} (h : w.heap[b]? = some (.cells cs T fr)) (hv : cs[o]? = some v) : (Instr.loadAt 5 (.pointer (some ⟨b, o, none⟩))).run Try.prog w = .ok v w := by
  have e : (Instr.loadAt 5 (.pointer (some ⟨b, o, none⟩))).run Try.prog w = (load ⟨b, o, none⟩).run Try.prog w := by kernel_rfl
  have hc := run_cell (a := ⟨b, o, none⟩) h rfl rfl
  rw [hv] at hc
  rw [e]; simp only [load, Sem.run, hc]
theorem rt_bit {J : IM} {k x : Nat} (h : J k = some (.cells #[.int .i64 ((x % 2 : Nat) : Int), .pointer none, .pointer none] 73)) : ∃ t : T, t.nf ∧ t.depth = 0 ∧ RT J t k := by
  have : x % 2 = 0 ∨ x % 2 = 1 := by omega
  rcases this with e | e
  · rw [e] at h; exact ⟨.zero, trivial, rfl, h⟩
  · rw [e] at h; exact ⟨.one, trivial, rfl, h⟩

set_option maxHeartbeats 2000000 in
theorem make_step {I : IM} {m : Nat} {xs : List UInt8} {v : Value} (hv : BSl I xs v) (hm9 : m ≤ 100) (ih : ¬ m = 0 → ∀ {J : IM} {xs : List UInt8} {v : Value}, BSl J xs v → Fun Try.prog 30 #[v, .int .i64 ((m - 1 : Nat) : Int)] J (fun v J => ∃ k v' t l', v = .tuple #[.pointer (some ⟨k, 0, none⟩), v'] ∧ (t.nf ∧ t.depth ≤ m - 1) ∧ RT J t k ∧ BSl J l' v')) : Fun Try.prog 30 #[v, .int .i64 ((m : Nat) : Int)] I (fun v J => ∃ k v' t l', v = .tuple #[.pointer (some ⟨k, 0, none⟩), v'] ∧ (t.nf ∧ t.depth ≤ m) ∧ RT J t k ∧ BSl J l' v') := by
  cases xs with
  | nil =>
    obtain ⟨a, cap, rfl, hcap, -⟩ := hv
    simp only [List.length_nil]
    refine enter_rule 49 [(0, .slice a 0 cap), (1, .int .i64 ((m : Nat) : Int))] Try.func30 rfl (by kernel_rfl) ?_
    intro w s
    refine wp_seq ?_
    refine region_rule ?_
    refine ops_rule (C := []) [] [] 2 [] 0 (fun φ1 => [(5, .slice none 0 0), (4, .pointer none)]) (fun φ1 => []) (fun φ1 => []) s trivial (fun φ1 => by kernel_rfl) ?_
    intro φ1 w1 s
    refine ops_done (by kernel_rfl) ?_
    refine wp_seq ?_
    refine wp_seq ?_
    refine region_rule ?_
    refine ops_rule (C := []) [] [] 3 [] 0 (fun φ2 => [(11, .bool true), (10, .int .i64 0), (9, .slice a 0 cap)]) (fun φ2 => []) (fun φ2 => []) s trivial (fun φ2 => by kernel_rfl) ?_
    intro φ2 w2 s
    refine ops_done (by kernel_rfl) ?_
    refine cond_true_rule (b := true) (by kernel_rfl) rfl ?_
    refine wp_seq ?_
    refine region_rule ?_
    refine call_rule (some 12) s (rzero_c) (by kernel_rfl) ?_
    intro v3 I3 w3 le3 h3 s
    obtain ⟨k3, rfl, h3_0⟩ := h3
    refine ops_rule (C := []) [] [] 2 [] 0 (fun φ4 => [(5, .slice none 0 0), (4, .pointer (some ⟨k3, 0, none⟩))]) (fun φ4 => []) (fun φ4 => []) s trivial (fun φ4 => by kernel_rfl) ?_
    intro φ4 w4 s
    refine ops_done (by kernel_rfl) ?_
    refine wp_ret ?_
    refine ret_rule (C := []) [] [] (.tuple #[.pointer (some ⟨k3, 0, none⟩), .slice none 0 0]) [] [] s trivial (by kernel_rfl) ?_
    exact ⟨_, _, _, rfl, s, ⟨_, _, T.zero, [], rfl, ⟨trivial, Nat.zero_le _⟩, h3_0, bsl_nil _⟩⟩
  | cons x l =>
    obtain ⟨b, o, cap, cs, T9, fr, rfl, hcap, hcs, hx, hrest⟩ := bsl_cons hv
    clear hv
    have hx8 : x.toNat < 256 := x.toNat_lt
    refine enter_rule 49 [(0, .slice (some ⟨b, o, none⟩) (l.length + 1) cap), (1, .int .i64 ((m : Nat) : Int))] Try.func30 rfl (by kernel_rfl) ?_
    intro w s
    refine wp_seq ?_
    refine region_rule ?_
    refine ops_rule (C := []) [] [] 2 [] 0 (fun φ1 => [(5, .slice none 0 0), (4, .pointer none)]) (fun φ1 => []) (fun φ1 => []) s trivial (fun φ1 => by kernel_rfl) ?_
    intro φ1 w1 s
    refine ops_done (by kernel_rfl) ?_
    refine wp_seq ?_
    refine wp_seq ?_
    refine region_rule ?_
    refine ops_rule (C := []) [] [] 3 [] 0 (fun φ2 => [(11, .bool ((((l.length + 1) : Nat) : Int) == ((0 : Nat) : Int))), (10, .int .i64 (((l.length + 1) : Nat) : Int)), (9, .slice (some ⟨b, o, none⟩) (l.length + 1) cap)]) (fun φ2 => []) (fun φ2 => []) s trivial (fun φ2 => by kernel_rfl) ?_
    intro φ2 w2 s
    rw [nat_eql (a := (l.length + 1)) (b := 0)]
    refine ops_done (by kernel_rfl) ?_
    rcases Bool.eq_false_or_eq_true (decide ((l.length + 1) = 0)) with hc3 | hc3
    ·
      exact absurd (of_decide_eq_true hc3) (by omega)
    ·
      rw [hc3]
      refine cond_false_rule (b := false) (by kernel_rfl) rfl ?_
      refine wp_skip ?_
      refine wp_seq ?_
      refine region_rule ?_
      refine ops_rule (C := []) [] [] 1 [] 0 (fun φ4 => [(13, .slice (some ⟨b, o, none⟩) (l.length + 1) cap)]) (fun φ4 => []) (fun φ4 => []) s trivial (fun φ4 => by kernel_rfl) ?_
      intro φ4 w4 s
      refine sem_rule (Instr.indexAt 22 (.slice (some ⟨b, o, none⟩) (l.length + 1) cap) (.int .i64 0)) (some 14) (.pointer (some ⟨b, o, none⟩)) (by kernel_rfl) (run_first) ?_
      refine sem_rule (Instr.loadAt 5 (.pointer (some ⟨b, o, none⟩))) (some 15) (.int .u8 ((x.toNat : Nat) : Int)) (by kernel_rfl) (run_loadB (s.sub _ _ hcs) hx) ?_
      refine ops_rule (C := []) [] [] 1 [] 0 (fun φ5 => [(6, .int .u8 ((x.toNat : Nat) : Int))]) (fun φ5 => []) (fun φ5 => []) s trivial (fun φ5 => by kernel_rfl) ?_
      intro φ5 w5 s
      refine ops_done (by kernel_rfl) ?_
      refine wp_seq ?_
      refine region_rule ?_
      refine ops_rule (C := []) [] [] 1 [] 0 (fun φ6 => [(16, .slice (some ⟨b, o, none⟩) (l.length + 1) cap)]) (fun φ6 => []) (fun φ6 => []) s trivial (fun φ6 => by kernel_rfl) ?_
      intro φ6 w6 s
      refine sem_rule (Instr.sliceAt 22 (.slice (some ⟨b, o, none⟩) (l.length + 1) cap) (some (.int .i64 1)) none none) (some 17) (.slice (if cap = 1 then some ⟨b, o, none⟩ else some ⟨b, o + 1, none⟩) l.length (cap - 1)) (by kernel_rfl) (run_rest hcap) ?_
      refine ops_rule (C := []) [] [] 1 [] 0 (fun φ7 => [(0, .slice (if cap = 1 then some ⟨b, o, none⟩ else some ⟨b, o + 1, none⟩) l.length (cap - 1))]) (fun φ7 => []) (fun φ7 => []) s trivial (fun φ7 => by kernel_rfl) ?_
      intro φ7 w7 s
      refine ops_done (by kernel_rfl) ?_
      refine wp_seq ?_
      refine wp_seq ?_
      refine region_rule ?_
      refine ops_rule (C := []) [] [] 3 [] 0 (fun φ8 => [(20, .bool (((m : Nat) : Int) == ((0 : Nat) : Int))), (19, .bool (((m : Nat) : Int) == ((0 : Nat) : Int))), (18, .int .i64 ((m : Nat) : Int))]) (fun φ8 => []) (fun φ8 => []) s trivial (fun φ8 => by kernel_rfl) ?_
      intro φ8 w8 s
      rw [nat_eql (a := m) (b := 0)]
      rcases Bool.eq_false_or_eq_true (decide (m = 0)) with hc9 | hc9
      ·
        rw [hc9]
        refine ops_rule (C := []) [] [] 4 [] 0 (fun φ10 => [(24, .bool true), (23, undef), (22, undef), (21, undef)]) (fun φ10 => []) (fun φ10 => []) s trivial (fun φ10 => by kernel_rfl) ?_
        intro φ10 w10 s
        refine ops_done (by kernel_rfl) ?_
        refine cond_true_rule (b := true) (by kernel_rfl) rfl ?_
        refine wp_seq ?_
        refine region_rule ?_
        refine ops_rule (C := []) [] [] 8 [] 1 (fun φ11 => [(5, .slice (if cap = 1 then some ⟨b, o, none⟩ else some ⟨b, o + 1, none⟩) l.length (cap - 1)), (4, .pointer (some ⟨(φ11 0), 0, none⟩)), (30, .slice (if cap = 1 then some ⟨b, o, none⟩ else some ⟨b, o + 1, none⟩) l.length (cap - 1)), (29, .pointer (some ⟨(φ11 0), 0, none⟩)), (28, .agg #[.int .i64 (IntKind.wrap .i64 (Int.tmod ((x.toNat : Nat) : Int) ((2 : Nat) : Int))), .pointer none, .pointer none]), (27, .int .i64 (IntKind.wrap .i64 (Int.tmod ((x.toNat : Nat) : Int) ((2 : Nat) : Int)))), (26, .int .u8 (Int.tmod ((x.toNat : Nat) : Int) ((2 : Nat) : Int))), (25, .int .u8 ((x.toNat : Nat) : Int))]) (fun φ11 => [((φ11 0), .cells #[.int .i64 (IntKind.wrap .i64 (Int.tmod ((x.toNat : Nat) : Int) ((2 : Nat) : Int))), .pointer none, .pointer none] 73)]) (fun φ11 => []) s trivial (fun φ11 => by kernel_rfl) ?_
        intro φ11 w11 s
        rw [nat_rem (a := x.toNat) (b := 2)] at s ⊢
        rw [nat_wrapI (a := (x.toNat % 2)) (by have hq0 := of_decide_eq_false hc3; have hq1 := of_decide_eq_true hc9; omega)] at s ⊢
        refine ops_done (by kernel_rfl) ?_
        refine wp_ret ?_
        refine ret_rule (C := []) [((φ11 0), .cells #[.int .i64 ((x.toNat % 2 : Nat) : Int), .pointer none, .pointer none] 73)] [] (.tuple #[.pointer (some ⟨(φ11 0), 0, none⟩), .slice (if cap = 1 then some ⟨b, o, none⟩ else some ⟨b, o + 1, none⟩) l.length (cap - 1)]) [] [] s trivial (by kernel_rfl) ?_
        obtain ⟨I12, le12, hk12, s⟩ := s.freezeAt 0 (φ11 0) (.cells #[.int .i64 ((x.toNat % 2 : Nat) : Int), .pointer none, .pointer none] 73) [] (by kernel_rfl) (by kernel_rfl)
        replace hrest := BSl.mono le12 hrest
        replace hcs := le12 _ _ hcs
        obtain ⟨t9, hn9, hd9, ht9⟩ := rt_bit hk12
        exact ⟨_, _, _, rfl, s, ⟨_, _, t9, _, rfl, ⟨hn9, by omega⟩, ht9, hrest⟩⟩
      ·
        rw [hc9]
        refine ops_rule (C := []) [] [] 4 [] 0 (fun φ13 => [(24, .bool (decide ((Int.tmod ((x.toNat : Nat) : Int) ((4 : Nat) : Int)) < ((2 : Nat) : Int)))), (23, .bool (decide ((Int.tmod ((x.toNat : Nat) : Int) ((4 : Nat) : Int)) < ((2 : Nat) : Int)))), (22, .int .u8 (Int.tmod ((x.toNat : Nat) : Int) ((4 : Nat) : Int))), (21, .int .u8 ((x.toNat : Nat) : Int))]) (fun φ13 => []) (fun φ13 => []) s trivial (fun φ13 => by kernel_rfl) ?_
        intro φ13 w13 s
        rw [nat_rem (a := x.toNat) (b := 4)]
        rw [nat_lss (a := (x.toNat % 4)) (b := 2)]
        refine ops_done (by kernel_rfl) ?_
        rcases Bool.eq_false_or_eq_true (decide ((x.toNat % 4) < 2)) with hc14 | hc14
        ·
          rw [hc14]
          refine cond_true_rule (b := true) (by kernel_rfl) rfl ?_
          refine wp_seq ?_
          refine region_rule ?_
          refine ops_rule (C := []) [] [] 8 [] 1 (fun φ15 => [(5, .slice (if cap = 1 then some ⟨b, o, none⟩ else some ⟨b, o + 1, none⟩) l.length (cap - 1)), (4, .pointer (some ⟨(φ15 0), 0, none⟩)), (30, .slice (if cap = 1 then some ⟨b, o, none⟩ else some ⟨b, o + 1, none⟩) l.length (cap - 1)), (29, .pointer (some ⟨(φ15 0), 0, none⟩)), (28, .agg #[.int .i64 (IntKind.wrap .i64 (Int.tmod ((x.toNat : Nat) : Int) ((2 : Nat) : Int))), .pointer none, .pointer none]), (27, .int .i64 (IntKind.wrap .i64 (Int.tmod ((x.toNat : Nat) : Int) ((2 : Nat) : Int)))), (26, .int .u8 (Int.tmod ((x.toNat : Nat) : Int) ((2 : Nat) : Int))), (25, .int .u8 ((x.toNat : Nat) : Int))]) (fun φ15 => [((φ15 0), .cells #[.int .i64 (IntKind.wrap .i64 (Int.tmod ((x.toNat : Nat) : Int) ((2 : Nat) : Int))), .pointer none, .pointer none] 73)]) (fun φ15 => []) s trivial (fun φ15 => by kernel_rfl) ?_
          intro φ15 w15 s
          rw [nat_rem (a := x.toNat) (b := 2)] at s ⊢
          rw [nat_wrapI (a := (x.toNat % 2)) (by have hq0 := of_decide_eq_false hc3; have hq1 := of_decide_eq_false hc9; have hq2 := of_decide_eq_true hc14; omega)] at s ⊢
          refine ops_done (by kernel_rfl) ?_
          refine wp_ret ?_
          refine ret_rule (C := []) [((φ15 0), .cells #[.int .i64 ((x.toNat % 2 : Nat) : Int), .pointer none, .pointer none] 73)] [] (.tuple #[.pointer (some ⟨(φ15 0), 0, none⟩), .slice (if cap = 1 then some ⟨b, o, none⟩ else some ⟨b, o + 1, none⟩) l.length (cap - 1)]) [] [] s trivial (by kernel_rfl) ?_
          obtain ⟨I16, le16, hk16, s⟩ := s.freezeAt 0 (φ15 0) (.cells #[.int .i64 ((x.toNat % 2 : Nat) : Int), .pointer none, .pointer none] 73) [] (by kernel_rfl) (by kernel_rfl)
          replace hrest := BSl.mono le16 hrest
          replace hcs := le16 _ _ hcs
          obtain ⟨t9, hn9, hd9, ht9⟩ := rt_bit hk16
          exact ⟨_, _, _, rfl, s, ⟨_, _, t9, _, rfl, ⟨hn9, by omega⟩, ht9, hrest⟩⟩
        ·
          rw [hc14]
          refine cond_false_rule (b := false) (by kernel_rfl) rfl ?_
          refine wp_skip ?_
          refine wp_seq ?_
          refine region_rule ?_
          refine ops_rule (C := []) [] [] 3 [] 0 (fun φ17 => [(34, .int .i64 (IntKind.wrap .i64 (((m : Nat) : Int) - ((1 : Nat) : Int)))), (33, .int .i64 ((m : Nat) : Int)), (32, .slice (if cap = 1 then some ⟨b, o, none⟩ else some ⟨b, o + 1, none⟩) l.length (cap - 1))]) (fun φ17 => []) (fun φ17 => []) s trivial (fun φ17 => by kernel_rfl) ?_
          intro φ17 w17 s
          rw [nat_subI (a := m) (b := 1) (by have hq0 := of_decide_eq_false hc3; have hq1 := of_decide_eq_false hc9; have hq2 := of_decide_eq_false hc14; omega) (by have hq0 := of_decide_eq_false hc3; have hq1 := of_decide_eq_false hc9; have hq2 := of_decide_eq_false hc14; omega)]
          refine call_rule (some 35) s (ih (of_decide_eq_false hc9) hrest) (by kernel_rfl) ?_
          intro v18 I18 w18 le18 h18 s
          replace hrest := BSl.mono le18 hrest
          replace hcs := le18 _ _ hcs
          obtain ⟨k18, v18, t18, l18, rfl, h18_0, h18_1, h18_2⟩ := h18
          refine ops_rule (C := []) [] [] 5 [] 0 (fun φ19 => [(0, v18), (7, .pointer (some ⟨k18, 0, none⟩)), (37, v18), (36, .pointer (some ⟨k18, 0, none⟩)), (31, .tuple #[.pointer (some ⟨k18, 0, none⟩), v18])]) (fun φ19 => []) (fun φ19 => []) s trivial (fun φ19 => by kernel_rfl) ?_
          intro φ19 w19 s
          refine ops_done (by kernel_rfl) ?_
          refine wp_seq ?_
          refine region_rule ?_
          refine ops_rule (C := []) [] [] 3 [] 0 (fun φ20 => [(41, .int .i64 (IntKind.wrap .i64 (((m : Nat) : Int) - ((1 : Nat) : Int)))), (40, .int .i64 ((m : Nat) : Int)), (39, v18)]) (fun φ20 => []) (fun φ20 => []) s trivial (fun φ20 => by kernel_rfl) ?_
          intro φ20 w20 s
          rw [nat_subI (a := m) (b := 1) (by have hq0 := of_decide_eq_false hc3; have hq1 := of_decide_eq_false hc9; have hq2 := of_decide_eq_false hc14; omega) (by have hq0 := of_decide_eq_false hc3; have hq1 := of_decide_eq_false hc9; have hq2 := of_decide_eq_false hc14; omega)]
          refine call_rule (some 42) s (ih (of_decide_eq_false hc9) h18_2) (by kernel_rfl) ?_
          intro v21 I21 w21 le21 h21 s
          replace hrest := BSl.mono le21 hrest
          replace h18_1 := RT.mono le21 h18_1
          replace h18_2 := BSl.mono le21 h18_2
          replace hcs := le21 _ _ hcs
          obtain ⟨k21, v21, t21, l21, rfl, h21_0, h21_1, h21_2⟩ := h21
          refine ops_rule (C := []) [] [] 5 [] 0 (fun φ22 => [(0, v21), (8, .pointer (some ⟨k21, 0, none⟩)), (44, v21), (43, .pointer (some ⟨k21, 0, none⟩)), (38, .tuple #[.pointer (some ⟨k21, 0, none⟩), v21])]) (fun φ22 => []) (fun φ22 => []) s trivial (fun φ22 => by kernel_rfl) ?_
          intro φ22 w22 s
          refine ops_done (by kernel_rfl) ?_
          refine wp_seq ?_
          refine region_rule ?_
          refine ops_rule (C := []) [] [] 2 [] 0 (fun φ23 => [(46, .pointer (some ⟨k21, 0, none⟩)), (45, .pointer (some ⟨k18, 0, none⟩))]) (fun φ23 => []) (fun φ23 => []) s trivial (fun φ23 => by kernel_rfl) ?_
          intro φ23 w23 s
          refine call_rule (some 47) s (rpair_c h18_1 h21_1) (by kernel_rfl) ?_
          intro v24 I24 w24 le24 h24 s
          replace hrest := BSl.mono le24 hrest
          replace h18_1 := RT.mono le24 h18_1
          replace h18_2 := BSl.mono le24 h18_2
          replace h21_1 := RT.mono le24 h21_1
          replace h21_2 := BSl.mono le24 h21_2
          replace hcs := le24 _ _ hcs
          obtain ⟨k24, rfl, h24_0⟩ := h24
          refine ops_rule (C := []) [] [] 3 [] 0 (fun φ25 => [(5, v21), (4, .pointer (some ⟨k24, 0, none⟩)), (48, v21)]) (fun φ25 => []) (fun φ25 => []) s trivial (fun φ25 => by kernel_rfl) ?_
          intro φ25 w25 s
          refine ops_done (by kernel_rfl) ?_
          refine wp_ret ?_
          refine ret_rule (C := []) [] [] (.tuple #[.pointer (some ⟨k24, 0, none⟩), v21]) [] [] s trivial (by kernel_rfl) ?_
          exact ⟨_, _, _, rfl, s, ⟨_, _, (T.mk t18 t21), _, rfl, ⟨T.nf_mk h18_0.1 h21_0.1, by have hm := of_decide_eq_false hc9; have h1 := T.mk_depth t18 t21; have h2 := h18_0.2; have h3 := h21_0.2; omega⟩, h24_0, h21_2⟩⟩

theorem make_c : ∀ (m : Nat) {I : IM} {xs : List UInt8} {v : Value}, m ≤ 100 → BSl I xs v → Fun Try.prog 30 #[v, .int .i64 ((m : Nat) : Int)] I (fun v J => ∃ k v' t l', v = .tuple #[.pointer (some ⟨k, 0, none⟩), v'] ∧ (t.nf ∧ t.depth ≤ m) ∧ RT J t k ∧ BSl J l' v')
  | 0, _, _, _, h, hv => make_step hv h (fun h => absurd rfl h)
  | m + 1, _, _, _, h, hv => make_step hv h (fun _ {J} {xs} {v} k => make_c m (by omega) k)

end Go.Proofs.Ytgdickihjaomjaa.Ev

/- The document's Make of events; made. -/
set_option linter.all false
set_option maxRecDepth 100000
namespace Go.Proofs.Ytgdickihjaomjaa.Ev
open Go.RowKit Go.Sep

theorem nat_quo8 {a b : Nat} (h : a < 256) : IntKind.wrap .u8 (Int.tdiv (a : Int) (b : Int)) = ((a / b : Nat) : Int) := by
  have e : Int.tdiv (a : Int) (b : Int) = ((a / b : Nat) : Int) := rfl
  have : a / b ≤ a := Nat.div_le_self a b
  rw [e]
  generalize a / b = q at this
  exact wrapU8 (by omega) (by omega)

set_option maxHeartbeats 2000000 in
theorem makeE_step {I : IM} {m : Nat} {xs : List UInt8} {v : Value} (hv : BSl I xs v) (hm9 : m ≤ 100) (ih : ¬ m = 0 → ∀ {J : IM} {xs : List UInt8} {v : Value}, BSl J xs v → Fun Try.prog 21 #[v, .int .i64 ((m - 1 : Nat) : Int)] J (fun v J => ∃ k v' t l', v = .tuple #[.pointer (some ⟨k, 0, none⟩), v'] ∧ (t.nf ∧ t.depth ≤ m - 1 ∧ t.top ≤ 7 + 3 * (m - 1)) ∧ RE J t k ∧ BSl J l' v')) : Fun Try.prog 21 #[v, .int .i64 ((m : Nat) : Int)] I (fun v J => ∃ k v' t l', v = .tuple #[.pointer (some ⟨k, 0, none⟩), v'] ∧ (t.nf ∧ t.depth ≤ m ∧ t.top ≤ 7 + 3 * m) ∧ RE J t k ∧ BSl J l' v') := by
  cases xs with
  | nil =>
    obtain ⟨a, cap, rfl, hcap, -⟩ := hv
    simp only [List.length_nil]
    refine enter_rule 53 [(0, .slice a 0 cap), (1, .int .i64 ((m : Nat) : Int))] Try.func21 rfl (by kernel_rfl) ?_
    intro w s
    refine wp_seq ?_
    refine region_rule ?_
    refine ops_rule (C := []) [] [] 2 [] 0 (fun φ1 => [(5, .slice none 0 0), (4, .pointer none)]) (fun φ1 => []) (fun φ1 => []) s trivial (fun φ1 => by kernel_rfl) ?_
    intro φ1 w1 s
    refine ops_done (by kernel_rfl) ?_
    refine wp_seq ?_
    refine wp_seq ?_
    refine region_rule ?_
    refine ops_rule (C := []) [] [] 3 [] 0 (fun φ2 => [(11, .bool true), (10, .int .i64 0), (9, .slice a 0 cap)]) (fun φ2 => []) (fun φ2 => []) s trivial (fun φ2 => by kernel_rfl) ?_
    intro φ2 w2 s
    refine ops_done (by kernel_rfl) ?_
    refine cond_true_rule (b := true) (by kernel_rfl) rfl ?_
    refine wp_seq ?_
    refine region_rule ?_
    refine call_rule (some 12) s (rleaf_c (n := 0)) (by kernel_rfl) ?_
    intro v3 I3 w3 le3 h3 s
    obtain ⟨k3, rfl, h3_0⟩ := h3
    refine ops_rule (C := []) [] [] 2 [] 0 (fun φ4 => [(5, .slice none 0 0), (4, .pointer (some ⟨k3, 0, none⟩))]) (fun φ4 => []) (fun φ4 => []) s trivial (fun φ4 => by kernel_rfl) ?_
    intro φ4 w4 s
    refine ops_done (by kernel_rfl) ?_
    refine wp_ret ?_
    refine ret_rule (C := []) [] [] (.tuple #[.pointer (some ⟨k3, 0, none⟩), .slice none 0 0]) [] [] s trivial (by kernel_rfl) ?_
    exact ⟨_, _, _, rfl, s, ⟨_, _, E.leaf 0, [], rfl, ⟨trivial, Nat.zero_le _, Nat.zero_le _⟩, h3_0, bsl_nil _⟩⟩
  | cons x l =>
    obtain ⟨b, o, cap, cs, T9, fr, rfl, hcap, hcs, hx, hrest⟩ := bsl_cons hv
    clear hv
    have hx8 : x.toNat < 256 := x.toNat_lt
    refine enter_rule 53 [(0, .slice (some ⟨b, o, none⟩) (l.length + 1) cap), (1, .int .i64 ((m : Nat) : Int))] Try.func21 rfl (by kernel_rfl) ?_
    intro w s
    refine wp_seq ?_
    refine region_rule ?_
    refine ops_rule (C := []) [] [] 2 [] 0 (fun φ1 => [(5, .slice none 0 0), (4, .pointer none)]) (fun φ1 => []) (fun φ1 => []) s trivial (fun φ1 => by kernel_rfl) ?_
    intro φ1 w1 s
    refine ops_done (by kernel_rfl) ?_
    refine wp_seq ?_
    refine wp_seq ?_
    refine region_rule ?_
    refine ops_rule (C := []) [] [] 3 [] 0 (fun φ2 => [(11, .bool ((((l.length + 1) : Nat) : Int) == ((0 : Nat) : Int))), (10, .int .i64 (((l.length + 1) : Nat) : Int)), (9, .slice (some ⟨b, o, none⟩) (l.length + 1) cap)]) (fun φ2 => []) (fun φ2 => []) s trivial (fun φ2 => by kernel_rfl) ?_
    intro φ2 w2 s
    rw [nat_eql (a := (l.length + 1)) (b := 0)]
    refine ops_done (by kernel_rfl) ?_
    rcases Bool.eq_false_or_eq_true (decide ((l.length + 1) = 0)) with hc3 | hc3
    ·
      exact absurd (of_decide_eq_true hc3) (by omega)
    ·
      rw [hc3]
      refine cond_false_rule (b := false) (by kernel_rfl) rfl ?_
      refine wp_skip ?_
      refine wp_seq ?_
      refine region_rule ?_
      refine ops_rule (C := []) [] [] 1 [] 0 (fun φ4 => [(13, .slice (some ⟨b, o, none⟩) (l.length + 1) cap)]) (fun φ4 => []) (fun φ4 => []) s trivial (fun φ4 => by kernel_rfl) ?_
      intro φ4 w4 s
      refine sem_rule (Instr.indexAt 22 (.slice (some ⟨b, o, none⟩) (l.length + 1) cap) (.int .i64 0)) (some 14) (.pointer (some ⟨b, o, none⟩)) (by kernel_rfl) (run_first) ?_
      refine sem_rule (Instr.loadAt 5 (.pointer (some ⟨b, o, none⟩))) (some 15) (.int .u8 ((x.toNat : Nat) : Int)) (by kernel_rfl) (run_loadB (s.sub _ _ hcs) hx) ?_
      refine ops_rule (C := []) [] [] 1 [] 0 (fun φ5 => [(6, .int .u8 ((x.toNat : Nat) : Int))]) (fun φ5 => []) (fun φ5 => []) s trivial (fun φ5 => by kernel_rfl) ?_
      intro φ5 w5 s
      refine ops_done (by kernel_rfl) ?_
      refine wp_seq ?_
      refine region_rule ?_
      refine ops_rule (C := []) [] [] 1 [] 0 (fun φ6 => [(16, .slice (some ⟨b, o, none⟩) (l.length + 1) cap)]) (fun φ6 => []) (fun φ6 => []) s trivial (fun φ6 => by kernel_rfl) ?_
      intro φ6 w6 s
      refine sem_rule (Instr.sliceAt 22 (.slice (some ⟨b, o, none⟩) (l.length + 1) cap) (some (.int .i64 1)) none none) (some 17) (.slice (if cap = 1 then some ⟨b, o, none⟩ else some ⟨b, o + 1, none⟩) l.length (cap - 1)) (by kernel_rfl) (run_rest hcap) ?_
      refine ops_rule (C := []) [] [] 1 [] 0 (fun φ7 => [(0, .slice (if cap = 1 then some ⟨b, o, none⟩ else some ⟨b, o + 1, none⟩) l.length (cap - 1))]) (fun φ7 => []) (fun φ7 => []) s trivial (fun φ7 => by kernel_rfl) ?_
      intro φ7 w7 s
      refine ops_done (by kernel_rfl) ?_
      refine wp_seq ?_
      refine wp_seq ?_
      refine region_rule ?_
      refine ops_rule (C := []) [] [] 3 [] 0 (fun φ8 => [(20, .bool (((m : Nat) : Int) == ((0 : Nat) : Int))), (19, .bool (((m : Nat) : Int) == ((0 : Nat) : Int))), (18, .int .i64 ((m : Nat) : Int))]) (fun φ8 => []) (fun φ8 => []) s trivial (fun φ8 => by kernel_rfl) ?_
      intro φ8 w8 s
      rw [nat_eql (a := m) (b := 0)]
      rcases Bool.eq_false_or_eq_true (decide (m = 0)) with hc9 | hc9
      ·
        rw [hc9]
        refine ops_rule (C := []) [] [] 4 [] 0 (fun φ10 => [(24, .bool true), (23, undef), (22, undef), (21, undef)]) (fun φ10 => []) (fun φ10 => []) s trivial (fun φ10 => by kernel_rfl) ?_
        intro φ10 w10 s
        refine ops_done (by kernel_rfl) ?_
        refine cond_true_rule (b := true) (by kernel_rfl) rfl ?_
        refine wp_seq ?_
        refine region_rule ?_
        refine ops_rule (C := []) [] [] 4 [] 0 (fun φ11 => [(28, .int .u64 (IntKind.wrap .u64 (Int.tmod (IntKind.wrap .u8 (Int.tdiv ((x.toNat : Nat) : Int) ((4 : Nat) : Int))) ((8 : Nat) : Int)))), (27, .int .u8 (Int.tmod (IntKind.wrap .u8 (Int.tdiv ((x.toNat : Nat) : Int) ((4 : Nat) : Int))) ((8 : Nat) : Int))), (26, .int .u8 (IntKind.wrap .u8 (Int.tdiv ((x.toNat : Nat) : Int) ((4 : Nat) : Int)))), (25, .int .u8 ((x.toNat : Nat) : Int))]) (fun φ11 => []) (fun φ11 => []) s trivial (fun φ11 => by kernel_rfl) ?_
        intro φ11 w11 s
        rw [nat_quo8 (a := x.toNat) (b := 4) (by have hq0 := of_decide_eq_false hc3; have hq1 := of_decide_eq_true hc9; omega)]
        rw [nat_rem (a := (x.toNat / 4)) (b := 8)]
        rw [nat_wrapU (a := ((x.toNat / 4) % 8)) (by have hq0 := of_decide_eq_false hc3; have hq1 := of_decide_eq_true hc9; omega)]
        refine call_rule (some 29) s (rleaf_c (n := ((x.toNat / 4) % 8))) (by kernel_rfl) ?_
        intro v12 I12 w12 le12 h12 s
        replace hrest := BSl.mono le12 hrest
        replace hcs := le12 _ _ hcs
        obtain ⟨k12, rfl, h12_0⟩ := h12
        refine ops_rule (C := []) [] [] 3 [] 0 (fun φ13 => [(5, .slice (if cap = 1 then some ⟨b, o, none⟩ else some ⟨b, o + 1, none⟩) l.length (cap - 1)), (4, .pointer (some ⟨k12, 0, none⟩)), (30, .slice (if cap = 1 then some ⟨b, o, none⟩ else some ⟨b, o + 1, none⟩) l.length (cap - 1))]) (fun φ13 => []) (fun φ13 => []) s trivial (fun φ13 => by kernel_rfl) ?_
        intro φ13 w13 s
        refine ops_done (by kernel_rfl) ?_
        refine wp_ret ?_
        refine ret_rule (C := []) [] [] (.tuple #[.pointer (some ⟨k12, 0, none⟩), .slice (if cap = 1 then some ⟨b, o, none⟩ else some ⟨b, o + 1, none⟩) l.length (cap - 1)]) [] [] s trivial (by kernel_rfl) ?_
        exact ⟨_, _, _, rfl, s, ⟨_, _, (E.leaf ((x.toNat / 4) % 8)), _, rfl, ⟨trivial, Nat.zero_le _, show ((x.toNat / 4) % 8) ≤ 7 + 3 * m by omega⟩, h12_0, hrest⟩⟩
      ·
        rw [hc9]
        refine ops_rule (C := []) [] [] 4 [] 0 (fun φ14 => [(24, .bool (decide ((Int.tmod ((x.toNat : Nat) : Int) ((4 : Nat) : Int)) < ((2 : Nat) : Int)))), (23, .bool (decide ((Int.tmod ((x.toNat : Nat) : Int) ((4 : Nat) : Int)) < ((2 : Nat) : Int)))), (22, .int .u8 (Int.tmod ((x.toNat : Nat) : Int) ((4 : Nat) : Int))), (21, .int .u8 ((x.toNat : Nat) : Int))]) (fun φ14 => []) (fun φ14 => []) s trivial (fun φ14 => by kernel_rfl) ?_
        intro φ14 w14 s
        rw [nat_rem (a := x.toNat) (b := 4)]
        rw [nat_lss (a := (x.toNat % 4)) (b := 2)]
        refine ops_done (by kernel_rfl) ?_
        rcases Bool.eq_false_or_eq_true (decide ((x.toNat % 4) < 2)) with hc15 | hc15
        ·
          rw [hc15]
          refine cond_true_rule (b := true) (by kernel_rfl) rfl ?_
          refine wp_seq ?_
          refine region_rule ?_
          refine ops_rule (C := []) [] [] 4 [] 0 (fun φ16 => [(28, .int .u64 (IntKind.wrap .u64 (Int.tmod (IntKind.wrap .u8 (Int.tdiv ((x.toNat : Nat) : Int) ((4 : Nat) : Int))) ((8 : Nat) : Int)))), (27, .int .u8 (Int.tmod (IntKind.wrap .u8 (Int.tdiv ((x.toNat : Nat) : Int) ((4 : Nat) : Int))) ((8 : Nat) : Int))), (26, .int .u8 (IntKind.wrap .u8 (Int.tdiv ((x.toNat : Nat) : Int) ((4 : Nat) : Int)))), (25, .int .u8 ((x.toNat : Nat) : Int))]) (fun φ16 => []) (fun φ16 => []) s trivial (fun φ16 => by kernel_rfl) ?_
          intro φ16 w16 s
          rw [nat_quo8 (a := x.toNat) (b := 4) (by have hq0 := of_decide_eq_false hc3; have hq1 := of_decide_eq_false hc9; have hq2 := of_decide_eq_true hc15; omega)]
          rw [nat_rem (a := (x.toNat / 4)) (b := 8)]
          rw [nat_wrapU (a := ((x.toNat / 4) % 8)) (by have hq0 := of_decide_eq_false hc3; have hq1 := of_decide_eq_false hc9; have hq2 := of_decide_eq_true hc15; omega)]
          refine call_rule (some 29) s (rleaf_c (n := ((x.toNat / 4) % 8))) (by kernel_rfl) ?_
          intro v17 I17 w17 le17 h17 s
          replace hrest := BSl.mono le17 hrest
          replace hcs := le17 _ _ hcs
          obtain ⟨k17, rfl, h17_0⟩ := h17
          refine ops_rule (C := []) [] [] 3 [] 0 (fun φ18 => [(5, .slice (if cap = 1 then some ⟨b, o, none⟩ else some ⟨b, o + 1, none⟩) l.length (cap - 1)), (4, .pointer (some ⟨k17, 0, none⟩)), (30, .slice (if cap = 1 then some ⟨b, o, none⟩ else some ⟨b, o + 1, none⟩) l.length (cap - 1))]) (fun φ18 => []) (fun φ18 => []) s trivial (fun φ18 => by kernel_rfl) ?_
          intro φ18 w18 s
          refine ops_done (by kernel_rfl) ?_
          refine wp_ret ?_
          refine ret_rule (C := []) [] [] (.tuple #[.pointer (some ⟨k17, 0, none⟩), .slice (if cap = 1 then some ⟨b, o, none⟩ else some ⟨b, o + 1, none⟩) l.length (cap - 1)]) [] [] s trivial (by kernel_rfl) ?_
          exact ⟨_, _, _, rfl, s, ⟨_, _, (E.leaf ((x.toNat / 4) % 8)), _, rfl, ⟨trivial, Nat.zero_le _, show ((x.toNat / 4) % 8) ≤ 7 + 3 * m by omega⟩, h17_0, hrest⟩⟩
        ·
          rw [hc15]
          refine cond_false_rule (b := false) (by kernel_rfl) rfl ?_
          refine wp_skip ?_
          refine wp_seq ?_
          refine region_rule ?_
          refine ops_rule (C := []) [] [] 3 [] 0 (fun φ19 => [(34, .int .i64 (IntKind.wrap .i64 (((m : Nat) : Int) - ((1 : Nat) : Int)))), (33, .int .i64 ((m : Nat) : Int)), (32, .slice (if cap = 1 then some ⟨b, o, none⟩ else some ⟨b, o + 1, none⟩) l.length (cap - 1))]) (fun φ19 => []) (fun φ19 => []) s trivial (fun φ19 => by kernel_rfl) ?_
          intro φ19 w19 s
          rw [nat_subI (a := m) (b := 1) (by have hq0 := of_decide_eq_false hc3; have hq1 := of_decide_eq_false hc9; have hq2 := of_decide_eq_false hc15; omega) (by have hq0 := of_decide_eq_false hc3; have hq1 := of_decide_eq_false hc9; have hq2 := of_decide_eq_false hc15; omega)]
          refine call_rule (some 35) s (ih (of_decide_eq_false hc9) hrest) (by kernel_rfl) ?_
          intro v20 I20 w20 le20 h20 s
          replace hrest := BSl.mono le20 hrest
          replace hcs := le20 _ _ hcs
          obtain ⟨k20, v20, t20, l20, rfl, h20_0, h20_1, h20_2⟩ := h20
          refine ops_rule (C := []) [] [] 5 [] 0 (fun φ21 => [(0, v20), (7, .pointer (some ⟨k20, 0, none⟩)), (37, v20), (36, .pointer (some ⟨k20, 0, none⟩)), (31, .tuple #[.pointer (some ⟨k20, 0, none⟩), v20])]) (fun φ21 => []) (fun φ21 => []) s trivial (fun φ21 => by kernel_rfl) ?_
          intro φ21 w21 s
          refine ops_done (by kernel_rfl) ?_
          refine wp_seq ?_
          refine region_rule ?_
          refine ops_rule (C := []) [] [] 3 [] 0 (fun φ22 => [(41, .int .i64 (IntKind.wrap .i64 (((m : Nat) : Int) - ((1 : Nat) : Int)))), (40, .int .i64 ((m : Nat) : Int)), (39, v20)]) (fun φ22 => []) (fun φ22 => []) s trivial (fun φ22 => by kernel_rfl) ?_
          intro φ22 w22 s
          rw [nat_subI (a := m) (b := 1) (by have hq0 := of_decide_eq_false hc3; have hq1 := of_decide_eq_false hc9; have hq2 := of_decide_eq_false hc15; omega) (by have hq0 := of_decide_eq_false hc3; have hq1 := of_decide_eq_false hc9; have hq2 := of_decide_eq_false hc15; omega)]
          refine call_rule (some 42) s (ih (of_decide_eq_false hc9) h20_2) (by kernel_rfl) ?_
          intro v23 I23 w23 le23 h23 s
          replace hrest := BSl.mono le23 hrest
          replace h20_1 := RE.mono le23 h20_1
          replace h20_2 := BSl.mono le23 h20_2
          replace hcs := le23 _ _ hcs
          obtain ⟨k23, v23, t23, l23, rfl, h23_0, h23_1, h23_2⟩ := h23
          refine ops_rule (C := []) [] [] 5 [] 0 (fun φ24 => [(0, v23), (8, .pointer (some ⟨k23, 0, none⟩)), (44, v23), (43, .pointer (some ⟨k23, 0, none⟩)), (38, .tuple #[.pointer (some ⟨k23, 0, none⟩), v23])]) (fun φ24 => []) (fun φ24 => []) s trivial (fun φ24 => by kernel_rfl) ?_
          intro φ24 w24 s
          refine ops_done (by kernel_rfl) ?_
          refine wp_seq ?_
          refine region_rule ?_
          refine ops_rule (C := []) [] [] 6 [] 0 (fun φ25 => [(50, .pointer (some ⟨k23, 0, none⟩)), (49, .pointer (some ⟨k20, 0, none⟩)), (48, .int .u64 (IntKind.wrap .u64 (Int.tmod (IntKind.wrap .u8 (Int.tdiv ((x.toNat : Nat) : Int) ((4 : Nat) : Int))) ((4 : Nat) : Int)))), (47, .int .u8 (Int.tmod (IntKind.wrap .u8 (Int.tdiv ((x.toNat : Nat) : Int) ((4 : Nat) : Int))) ((4 : Nat) : Int))), (46, .int .u8 (IntKind.wrap .u8 (Int.tdiv ((x.toNat : Nat) : Int) ((4 : Nat) : Int)))), (45, .int .u8 ((x.toNat : Nat) : Int))]) (fun φ25 => []) (fun φ25 => []) s trivial (fun φ25 => by kernel_rfl) ?_
          intro φ25 w25 s
          rw [nat_quo8 (a := x.toNat) (b := 4) (by have hq0 := of_decide_eq_false hc3; have hq1 := of_decide_eq_false hc9; have hq2 := of_decide_eq_false hc15; omega)]
          rw [nat_rem (a := (x.toNat / 4)) (b := 4)]
          rw [nat_wrapU (a := ((x.toNat / 4) % 4)) (by have hq0 := of_decide_eq_false hc3; have hq1 := of_decide_eq_false hc9; have hq2 := of_decide_eq_false hc15; omega)]
          refine call_rule (some 51) s (rnode_c (n := ((x.toNat / 4) % 4)) h20_1 h23_1 h20_0.1 h23_0.1 (by have h8 := h20_0.2.2; have h9 := h23_0.2.2; omega)) (by kernel_rfl) ?_
          intro v26 I26 w26 le26 h26 s
          replace hrest := BSl.mono le26 hrest
          replace h20_1 := RE.mono le26 h20_1
          replace h20_2 := BSl.mono le26 h20_2
          replace h23_1 := RE.mono le26 h23_1
          replace h23_2 := BSl.mono le26 h23_2
          replace hcs := le26 _ _ hcs
          obtain ⟨k26, rfl, h26_0⟩ := h26
          refine ops_rule (C := []) [] [] 3 [] 0 (fun φ27 => [(5, v23), (4, .pointer (some ⟨k26, 0, none⟩)), (52, v23)]) (fun φ27 => []) (fun φ27 => []) s trivial (fun φ27 => by kernel_rfl) ?_
          intro φ27 w27 s
          refine ops_done (by kernel_rfl) ?_
          refine wp_ret ?_
          refine ret_rule (C := []) [] [] (.tuple #[.pointer (some ⟨k26, 0, none⟩), v23]) [] [] s trivial (by kernel_rfl) ?_
          exact ⟨_, _, _, rfl, s, ⟨_, _, (E.mk ((x.toNat / 4) % 4) t20 t23), _, rfl, ⟨E.nf_mk h20_0.1 h23_0.1, by have hm := of_decide_eq_false hc9; have h1 := E.mk_depth ((x.toNat / 4) % 4) t20 t23; have h2 := h20_0.2.1; have h3 := h23_0.2.1; omega, by have hm := of_decide_eq_false hc9; have h1 := E.mk_top ((x.toNat / 4) % 4) t20 t23; have h2 := h20_0.2.2; have h3 := h23_0.2.2; omega⟩, h26_0, h23_2⟩⟩

theorem makeE_c : ∀ (m : Nat) {I : IM} {xs : List UInt8} {v : Value}, m ≤ 100 → BSl I xs v → Fun Try.prog 21 #[v, .int .i64 ((m : Nat) : Int)] I (fun v J => ∃ k v' t l', v = .tuple #[.pointer (some ⟨k, 0, none⟩), v'] ∧ (t.nf ∧ t.depth ≤ m ∧ t.top ≤ 7 + 3 * m) ∧ RE J t k ∧ BSl J l' v')
  | 0, _, _, _, h, hv => makeE_step hv h (fun h => absurd rfl h)
  | m + 1, _, _, _, h, hv => makeE_step hv h (fun _ {J} {xs} {v} k => makeE_c m (by omega) k)

end Go.Proofs.Ytgdickihjaomjaa.Ev

/- made: a stamp of bytes, the program's and the document's. -/
set_option linter.all false
set_option maxRecDepth 100000
namespace Go.Proofs.Ytgdickihjaomjaa.Ev
open Go.RowKit Go.Sep

theorem bsl_take {I : IM} {p : List UInt8} {a : Option Addr} {cap : Nat} (h : BSl I p (.slice a p.length cap)) : BSl I (p.take 60) (.slice a (min p.length 60) cap) := by
  obtain ⟨a', cap', hv, hc, hr⟩ := h
  cases hv
  refine ⟨a, cap, by rw [List.length_take, Nat.min_comm], by rw [List.length_take]; omega, fun j x hj => ?_⟩
  rw [List.getElem?_take] at hj
  split at hj
  · exact hr j x hj
  · cases hj
theorem map_add_zero (a : Option Addr) : a.map (·.add 0) = a := by cases a <;> rfl
theorem run_to {w : World} {a : Option Addr} {n h cap : Nat} (h1 : h ≤ cap) : (Instr.sliceAt 22 (.slice a n cap) none (some (.int .i64 ((h : Nat) : Int))) none).run Try.prog w = .ok (.slice a h cap) w := by
  have hb : (Instr.sliceBound (.int .i64 ((h : Nat) : Int)) cap .sliceAcap).run Try.prog w = .ok h w := run_bound h1
  simp [Instr.sliceAt, Instr.slice, run_underlying under22, Instr.sliceBounds, hb, size5]
  intro _
  exact map_add_zero a

end Go.Proofs.Ytgdickihjaomjaa.Ev

/- Joins of stamps; what splitting and joining keep. -/
set_option linter.all false
set_option maxRecDepth 100000
namespace Go.Proofs.Ytgdickihjaomjaa.Ev
open Go.RowKit Go.Sep

theorem disj_mk_l (a b : T) : disjT (T.mk a .zero) (T.mk b .zero) = disjT a b := by
  cases a <;> cases b <;> simp [T.mk, disjT]
theorem disj_mk_r (a b : T) : disjT (T.mk .zero a) (T.mk .zero b) = disjT a b := by
  cases a <;> cases b <;> simp [T.mk, disjT]
theorem disj_mk_b (a b : T) : disjT (T.mk a .zero) (T.mk .zero b) = true := by
  cases a <;> cases b <;> simp [T.mk, disjT]
theorem cut_disj : ∀ t : T, disjT (cutT t).1 (cutT t).2 = true
  | .zero => rfl
  | .one => rfl
  | .node l r => by
    unfold cutT
    split
    · simp only; rw [disj_mk_r]; exact cut_disj r
    · split
      · simp only; rw [disj_mk_l]; exact cut_disj l
      · simp only; rw [disj_mk_b]
theorem union_mk_l (a b : T) : unionT (T.mk a .zero) (T.mk b .zero) = T.mk (unionT a b) .zero := by
  cases a <;> cases b <;> simp [T.mk, unionT]
theorem union_mk_r (a b : T) : unionT (T.mk .zero a) (T.mk .zero b) = T.mk .zero (unionT a b) := by
  cases a <;> cases b <;> simp [T.mk, unionT]
theorem union_mk_b (a b : T) : unionT (T.mk a .zero) (T.mk .zero b) = T.mk a b := by
  cases a <;> cases b <;> simp [T.mk, unionT]
theorem isZero_eq {t : T} (h : t.isZero = true) : t = .zero := by cases t <;> simp_all [T.isZero]
theorem cut_union : ∀ {t : T}, t.nf → unionT (cutT t).1 (cutT t).2 = t
  | .zero, _ => rfl
  | .one, _ => rfl
  | .node l r, ⟨hl, hr, h⟩ => by
    unfold cutT
    split
    · rename_i hz
      simp only; rw [union_mk_r, cut_union hr, ← isZero_eq hz]; exact h
    · split
      · rename_i hz
        simp only; rw [union_mk_l, cut_union hl, ← isZero_eq hz]; exact h
      · simp only; rw [union_mk_b]; exact h
theorem split_small {t : T} (h : t.depth ≤ 15) : splitT t = ((cutT t).1, (cutT t).2, 0) := by
  have := cut_depth t
  rw [splitT, if_neg (by omega)]
theorem T.nf_cut : ∀ {t : T}, t.nf → (cutT t).1.nf ∧ (cutT t).2.nf
  | .zero, _ => ⟨trivial, trivial⟩
  | .one, _ => ⟨T.nf_mk (l := .one) (r := .zero) trivial trivial, T.nf_mk (l := .zero) (r := .one) trivial trivial⟩
  | .node l r, ⟨hl, hr, h⟩ => by
    unfold cutT
    split
    · exact ⟨T.nf_mk trivial (T.nf_cut hr).1, T.nf_mk trivial (T.nf_cut hr).2⟩
    · split
      · exact ⟨T.nf_mk (T.nf_cut hl).1 trivial, T.nf_mk (T.nf_cut hl).2 trivial⟩
      · exact ⟨T.nf_mk hl trivial, T.nf_mk trivial hr⟩
end Go.Proofs.Ytgdickihjaomjaa.Ev

/- Shares as spans: the spans of an id, how wide they are, what two have in common. -/
set_option linter.all false
namespace Go.Proofs.Ytgdickihjaomjaa.Ev
open Go.RowKit Go.Sep
/-- the spans of a part that begins at a and is 2^k wide -/
def spT : T → Nat → Nat → List (Nat × Nat)
  | .zero, _, _ => []
  | .one, a, k => [(a, 2 ^ k)]
  | .node l r, a, k => spT l a (k - 1) ++ spT r (a + 2 ^ (k - 1)) (k - 1)
/-- how many -/
def cntT : T → Nat
  | .zero => 0
  | .one => 1
  | .node l r => cntT l + cntT r
/-- how wide, together -/
def widT : T → Nat → Nat
  | .zero, _ => 0
  | .one, k => 2 ^ k
  | .node l r, k => widT l (k - 1) + widT r (k - 1)
theorem spT_length : ∀ (t : T) (a k : Nat), (spT t a k).length = cntT t
  | .zero, _, _ => rfl
  | .one, _, _ => rfl
  | .node l r, a, k => by simp only [spT, cntT, List.length_append, spT_length l, spT_length r]
def sumW (l : List (Nat × Nat)) : Nat := (l.map (·.2)).sum
theorem sumW_append (l m : List (Nat × Nat)) : sumW (l ++ m) = sumW l + sumW m := by simp [sumW]
theorem sumW_spT : ∀ (t : T) (a k : Nat), sumW (spT t a k) = widT t k
  | .zero, _, _ => rfl
  | .one, _, _ => by simp [sumW, spT, widT]
  | .node l r, a, k => by simp only [spT, widT, sumW_append, sumW_spT l, sumW_spT r]
theorem cntT_le : ∀ (t : T), cntT t ≤ 2 ^ t.depth
  | .zero => by simp [cntT]
  | .one => by simp [cntT, T.depth]
  | .node l r => by
    have h1 := cntT_le l
    have h2 := cntT_le r
    have e : (T.node l r).depth = max l.depth r.depth + 1 := by show 1 + _ = _; omega
    have h3 : 2 ^ l.depth ≤ 2 ^ max l.depth r.depth := Nat.pow_le_pow_right (by omega) (by omega)
    have h4 : 2 ^ r.depth ≤ 2 ^ max l.depth r.depth := Nat.pow_le_pow_right (by omega) (by omega)
    rw [e, Nat.pow_succ]; simp only [cntT]; omega
theorem T.left_mk (l r : T) : (T.mk l r).left = l := by cases l <;> cases r <;> rfl
theorem T.right_mk (l r : T) : (T.mk l r).right = r := by cases l <;> cases r <;> rfl
theorem T.left_depth (t : T) : t.left.depth ≤ t.depth - 1 := by cases t <;> simp only [T.left, T.depth] <;> omega
theorem T.right_depth (t : T) : t.right.depth ≤ t.depth - 1 := by cases t <;> simp only [T.right, T.depth] <;> omega
theorem T.left_nf {t : T} (h : t.nf) : t.left.nf := by cases t <;> first | exact h | exact h.1
theorem T.right_nf {t : T} (h : t.nf) : t.right.nf := by cases t <;> first | exact h | exact h.2.1
theorem union_left (a b : T) : (unionT a b).left = unionT a.left b.left := by
  cases a <;> cases b <;> first | rfl | exact T.left_mk _ _ | skip
  all_goals simp only [unionT, T.left]
  all_goals (rename_i l r; cases l <;> rfl)
theorem union_right (a b : T) : (unionT a b).right = unionT a.right b.right := by
  cases a <;> cases b <;> first | rfl | exact T.right_mk _ _ | skip
  all_goals simp only [unionT, T.right]
  all_goals (rename_i l r; cases r <;> rfl)
theorem wid_half (t : T) (k : Nat) : widT t (k + 1) = widT t.left k + widT t.right k := by
  cases t with
  | zero => rfl
  | one => simp only [widT, T.left, T.right, Nat.pow_succ]; omega
  | node l r => rfl
theorem disj_half : ∀ {a b : T}, a.nf → b.nf → disjT a b = (disjT a.left b.left && disjT a.right b.right)
  | .zero, b, _, _ => by cases b <;> rfl
  | .one, .zero, _, _ => rfl
  | .one, .one, _, _ => rfl
  | .one, .node l r, _, ⟨_, _, h⟩ => by cases l <;> cases r <;> first | rfl | (exfalso; simp [T.mk] at h)
  | .node l r, .zero, _, _ => by cases l <;> cases r <;> rfl
  | .node l r, .one, ⟨_, _, h⟩, _ => by cases l <;> cases r <;> first | rfl | (exfalso; simp [T.mk] at h)
  | .node _ _, .node _ _, _, _ => rfl
theorem dep0 {t : T} (h : t.depth ≤ 0) : t = .zero ∨ t = .one := by
  cases t with
  | zero => exact .inl rfl
  | one => exact .inr rfl
  | node l r => simp only [T.depth] at h; omega
theorem wid_le : ∀ (k : Nat) {t : T}, t.depth ≤ k → widT t k ≤ 2 ^ k
  | 0, t, h => by rcases dep0 h with rfl | rfl <;> simp [widT]
  | k + 1, t, h => by
    have l1 := T.left_depth t
    have r1 := T.right_depth t
    have h1 := wid_le k (t := t.left) (by omega)
    have h2 := wid_le k (t := t.right) (by omega)
    rw [wid_half, Nat.pow_succ]; omega
/-- the spans as the program holds them -/
def cxs (l : List (Nat × Nat)) : List Value := l.map fun s => .complex .f64 (dF s.1) (dF s.2)
theorem cxs_append (l m : List (Nat × Nat)) : cxs (l ++ m) = cxs l ++ cxs m := List.map_append
end Go.Proofs.Ytgdickihjaomjaa.Ev
/- share: the spans of an id are appended -/
set_option linter.all false
set_option maxRecDepth 100000
namespace Go.Proofs.Ytgdickihjaomjaa.Ev
open Go.RowKit Go.Sep
attribute [local irreducible] Go.wpList Go.Code.wp

set_option maxHeartbeats 1000000 in
theorem sp_zero {I : IM} {b : Bool} {p : Option Addr} {n a k : Nat} {xs : List Value} {v0 : Value} {F : List OB} (h : TRep I .zero b p) (hrow : RowH 35 1 v0 n xs F) (hlim : n + cntT .zero ≤ 100000) (ha : a + 2 ^ k ≤ 65536) : FunM Try.prog 32 #[v0, idv b p, .float .f64 (dF a), .float .f64 (dF (2 ^ k))] I F (fun v J F' => RowH 35 1 v (n + cntT .zero) (xs ++ cxs (spT .zero a k)) F') := by
  obtain ⟨rfl, rfl⟩ := h
  have hlim1 : n ≤ 100000 := by omega
  refine enterM_rule 37 [(0, v0), (1, .agg #[.bool false, .pointer none]), (2, .float .f64 (dF a)), (3, .float .f64 (dF (2 ^ k)))] Try.func32 rfl (by kernel_rfl) ?_
  intro w s
  refine wp_seq ?_
  refine region_rule ?_
  refine ops_rule (C := []) [] F 2 [] 1 (fun φ1 => [(8, .slice none 0 0), (5, .pointer (some ⟨(φ1 0), 0, none⟩))]) (fun φ1 => [((φ1 0), .cells #[.bool false, .pointer none] 26)]) (fun φ1 => []) s trivial (fun φ1 => by kernel_rfl) ?_
  intro φ1 w1 s
  refine ops_done (by kernel_rfl) ?_
  refine wp_seq ?_
  refine wp_seq ?_
  refine region_rule ?_
  refine ops_rule (C := []) [((φ1 0), .cells #[.bool false, .pointer none] 26)] F 1 [.o 0, .o 0] 0 (fun φ2 => [(10, .agg #[.bool false, .pointer none])]) (fun φ2 => [((φ1 0), .cells #[.bool false, .pointer none] 26)]) (fun φ2 => [(φ1 0), (φ1 0)]) s trivial (fun φ2 => by kernel_rfl) ?_
  intro φ2 w2 s
  refine call_rule (some 11) s (isZero_c (TRep.z _)) (by kernel_rfl) ?_
  intro v3 I3 w3 le3 h3 s
  obtain rfl := h3
  refine ops_done (by kernel_rfl) ?_
  refine cond_true_rule (b := true) (by kernel_rfl) rfl ?_
  refine wp_seq ?_
  refine region_rule ?_
  refine ops_rule (C := []) [((φ1 0), .cells #[.bool false, .pointer none] 26)] F 2 [] 0 (fun φ4 => [(8, v0), (12, v0)]) (fun φ4 => [((φ1 0), .cells #[.bool false, .pointer none] 26)]) (fun φ4 => []) s trivial (fun φ4 => by kernel_rfl) ?_
  intro φ4 w4 s
  refine ops_done (by kernel_rfl) ?_
  refine wp_ret ?_
  refine ret_rule (C := []) [((φ1 0), .cells #[.bool false, .pointer none] 26)] F (v0) [] [] s trivial (by kernel_rfl) ?_
  replace s := s.drop (List.sublist_append_right [((φ1 0), .cells #[.bool false, .pointer none] 26)] F)
  exact ⟨_, _, _, rfl, s, (by have e := hrow; simp only [spT, cntT, cxs_append, cxs, List.map_append, List.map_nil, List.map_cons, List.append_nil, List.append_assoc, Nat.add_assoc, Nat.add_zero, Nat.add_sub_cancel] at e ⊢; exact e)⟩

set_option maxHeartbeats 1000000 in
theorem sp_one {I : IM} {b : Bool} {p : Option Addr} {n a k : Nat} {xs : List Value} {v0 : Value} {F : List OB} (h : TRep I .one b p) (hrow : RowH 35 1 v0 n xs F) (hlim : n + cntT .one ≤ 100000) (ha : a + 2 ^ k ≤ 65536) : FunM Try.prog 32 #[v0, idv b p, .float .f64 (dF a), .float .f64 (dF (2 ^ k))] I F (fun v J F' => RowH 35 1 v (n + cntT .one) (xs ++ cxs (spT .one a k)) F') := by
  obtain ⟨rfl, rfl⟩ := h
  have hlim1 : n ≤ 100000 := by omega
  refine enterM_rule 37 [(0, v0), (1, .agg #[.bool true, .pointer none]), (2, .float .f64 (dF a)), (3, .float .f64 (dF (2 ^ k)))] Try.func32 rfl (by kernel_rfl) ?_
  intro w s
  refine wp_seq ?_
  refine region_rule ?_
  refine ops_rule (C := []) [] F 2 [] 1 (fun φ1 => [(8, .slice none 0 0), (5, .pointer (some ⟨(φ1 0), 0, none⟩))]) (fun φ1 => [((φ1 0), .cells #[.bool true, .pointer none] 26)]) (fun φ1 => []) s trivial (fun φ1 => by kernel_rfl) ?_
  intro φ1 w1 s
  refine ops_done (by kernel_rfl) ?_
  refine wp_seq ?_
  refine wp_seq ?_
  refine region_rule ?_
  refine ops_rule (C := []) [((φ1 0), .cells #[.bool true, .pointer none] 26)] F 1 [.o 0, .o 0] 0 (fun φ2 => [(10, .agg #[.bool true, .pointer none])]) (fun φ2 => [((φ1 0), .cells #[.bool true, .pointer none] 26)]) (fun φ2 => [(φ1 0), (φ1 0)]) s trivial (fun φ2 => by kernel_rfl) ?_
  intro φ2 w2 s
  refine call_rule (some 11) s (isZero_c (TRep.o _)) (by kernel_rfl) ?_
  intro v3 I3 w3 le3 h3 s
  obtain rfl := h3
  refine ops_done (by kernel_rfl) ?_
  refine cond_false_rule (b := false) (by kernel_rfl) rfl ?_
  refine wp_skip ?_
  refine wp_seq ?_
  refine wp_seq ?_
  refine region_rule ?_
  refine ops_rule (C := []) [((φ1 0), .cells #[.bool true, .pointer none] 26)] F 1 [.o 0, .o 0] 0 (fun φ4 => [(13, .agg #[.bool true, .pointer none])]) (fun φ4 => [((φ1 0), .cells #[.bool true, .pointer none] 26)]) (fun φ4 => [(φ1 0), (φ1 0)]) s trivial (fun φ4 => by kernel_rfl) ?_
  intro φ4 w4 s
  refine call_rule (some 14) s (isOne_c (TRep.o _)) (by kernel_rfl) ?_
  intro v5 I5 w5 le5 h5 s
  obtain rfl := h5
  refine ops_done (by kernel_rfl) ?_
  refine cond_true_rule (b := true) (by kernel_rfl) rfl ?_
  refine wp_seq ?_
  refine region_rule ?_
  refine ops_rule (C := []) [((φ1 0), .cells #[.bool true, .pointer none] 26)] F 3 [] 0 (fun φ6 => [(17, .float .f64 (dF (2 ^ k))), (16, .float .f64 (dF a)), (15, v0)]) (fun φ6 => [((φ1 0), .cells #[.bool true, .pointer none] 26)]) (fun φ6 => []) s trivial (fun φ6 => by kernel_rfl) ?_
  intro φ6 w6 s
  refine sem_rule (Builtin.complex_ #[37, 37] 35 #[.float .f64 (dF a), .float .f64 (dF (2 ^ k))]) (some 18) (.complex .f64 (dF a) (dF (2 ^ k))) (by kernel_rfl) ((by kernel_rfl : ((Builtin.complex_ #[37, 37] 35 #[.float .f64 (dF a), .float .f64 (dF (2 ^ k))]) : Sem Value).run Try.prog w6 = .ok (.complex .f64 (dF a) (dF (2 ^ k))) w6)) ?_
  refine ops_rule (C := []) [((φ1 0), .cells #[.bool true, .pointer none] 26)] F 1 [] 1 (fun φ7 => [(19, .slice (some ⟨(φ7 0), 0, none⟩) 1 1)]) (fun φ7 => [((φ1 0), .cells #[.bool true, .pointer none] 26), ((φ7 0), .cells #[.complex .f64 (dF a) (dF (2 ^ k))] 35)]) (fun φ7 => []) s trivial (fun φ7 => by kernel_rfl) ?_
  intro φ7 w7 s
  refine append_rule (H := [((φ1 0), .cells #[.bool true, .pointer none] 26), ((φ7 0), .cells #[.complex .f64 (dF a) (dF (2 ^ k))] 35)]) (F := F) 30 30 35 Try.t35 (.complex .f64 0 0) 1 16 (some 20) s Try.underlying30 (by kernel_rfl) (by kernel_rfl) (by kernel_rfl) (by kernel_rfl) (by kernel_rfl) (by decide) hrow (src_own s 1 (φ7 0) #[.complex .f64 (dF a) (dF (2 ^ k))] 35 30 35 1 1 1 [.complex .f64 (dF a) (dF (2 ^ k))] (by kernel_rfl) Try.underlying30 (by kernel_rfl) (by kernel_rfl) (by kernel_rfl)) (by simp only [maxLen]; omega) (by omega) (by kernel_rfl) ?_
  intro v8 w8 F8 s h8
  refine ops_rule (C := []) [((φ1 0), .cells #[.bool true, .pointer none] 26), ((φ7 0), .cells #[.complex .f64 (dF a) (dF (2 ^ k))] 35)] F8 1 [] 0 (fun φ9 => [(8, v8)]) (fun φ9 => [((φ1 0), .cells #[.bool true, .pointer none] 26), ((φ7 0), .cells #[.complex .f64 (dF a) (dF (2 ^ k))] 35)]) (fun φ9 => []) s trivial (fun φ9 => by kernel_rfl) ?_
  intro φ9 w9 s
  refine ops_done (by kernel_rfl) ?_
  refine wp_ret ?_
  refine ret_rule (C := []) [((φ1 0), .cells #[.bool true, .pointer none] 26), ((φ7 0), .cells #[.complex .f64 (dF a) (dF (2 ^ k))] 35)] F8 (v8) [] [] s trivial (by kernel_rfl) ?_
  replace s := s.drop (List.sublist_append_right [((φ1 0), .cells #[.bool true, .pointer none] 26), ((φ7 0), .cells #[.complex .f64 (dF a) (dF (2 ^ k))] 35)] F8)
  exact ⟨_, _, _, rfl, s, (by have e := h8; simp only [spT, cntT, cxs_append, cxs, List.map_append, List.map_nil, List.map_cons, List.append_nil, List.append_assoc, Nat.add_assoc, Nat.add_zero, Nat.add_sub_cancel] at e ⊢; exact e)⟩

set_option maxHeartbeats 2000000 in
theorem sp_node {l r : T} {I : IM} {b : Bool} {p : Option Addr} {n a k : Nat} {xs : List Value} {v0 : Value} {F : List OB} (h : TRep I (.node l r) b p) (hrow : RowH 35 1 v0 n xs F) (hlim : n + cntT (.node l r) ≤ 100000) (ha : a + 2 * 2 ^ k ≤ 65536) (ihl : ∀ {I : IM} {b : Bool} {p : Option Addr} {n : Nat} {v0 : Value} {xs : List Value} {F : List OB}, TRep I l b p → RowH 35 1 v0 n xs F → n + cntT l ≤ 100000 → FunM Try.prog 32 #[v0, idv b p, .float .f64 (dF a), .float .f64 (dF (2 ^ k))] I F (fun v J F' => RowH 35 1 v (n + cntT l) (xs ++ cxs (spT l a k)) F')) (ihr : ∀ {I : IM} {b : Bool} {p : Option Addr} {n : Nat} {v0 : Value} {xs : List Value} {F : List OB}, TRep I r b p → RowH 35 1 v0 n xs F → n + cntT r ≤ 100000 → FunM Try.prog 32 #[v0, idv b p, .float .f64 (dF (a + 2 ^ k)), .float .f64 (dF (2 ^ k))] I F (fun v J F' => RowH 35 1 v (n + cntT r) (xs ++ cxs (spT r (a + 2 ^ k) k)) F')) : FunM Try.prog 32 #[v0, idv b p, .float .f64 (dF a), .float .f64 (dF (2 * 2 ^ k))] I F (fun v J F' => RowH 35 1 v (n + cntT (.node l r)) (xs ++ cxs (spT (.node l r) a (k + 1))) F') := by
  have hn := h
  obtain ⟨rfl, k9, bl, pl, br, pr, rfl, hk, hl, hr⟩ := h
  have hlim1 : n + cntT l + cntT r ≤ 100000 := by simp only [cntT] at hlim; omega
  refine enterM_rule 37 [(0, v0), (1, .agg #[.bool false, .pointer (some ⟨k9, 0, none⟩)]), (2, .float .f64 (dF a)), (3, .float .f64 (dF (2 * 2 ^ k)))] Try.func32 rfl (by kernel_rfl) ?_
  intro w s
  refine wp_seq ?_
  refine region_rule ?_
  refine ops_rule (C := []) [] F 2 [] 1 (fun φ1 => [(8, .slice none 0 0), (5, .pointer (some ⟨(φ1 0), 0, none⟩))]) (fun φ1 => [((φ1 0), .cells #[.bool false, .pointer (some ⟨k9, 0, none⟩)] 26)]) (fun φ1 => []) s trivial (fun φ1 => by kernel_rfl) ?_
  intro φ1 w1 s
  refine ops_done (by kernel_rfl) ?_
  refine wp_seq ?_
  refine wp_seq ?_
  refine region_rule ?_
  refine ops_rule (C := []) [((φ1 0), .cells #[.bool false, .pointer (some ⟨k9, 0, none⟩)] 26)] F 1 [.o 0, .o 0] 0 (fun φ2 => [(10, .agg #[.bool false, .pointer (some ⟨k9, 0, none⟩)])]) (fun φ2 => [((φ1 0), .cells #[.bool false, .pointer (some ⟨k9, 0, none⟩)] 26)]) (fun φ2 => [(φ1 0), (φ1 0)]) s trivial (fun φ2 => by kernel_rfl) ?_
  intro φ2 w2 s
  refine call_rule (some 11) s (isZero_c hn) (by kernel_rfl) ?_
  intro v3 I3 w3 le3 h3 s
  replace hl := TRep.mono le3 hl
  replace hr := TRep.mono le3 hr
  replace hn := TRep.mono le3 hn
  replace hk := le3 _ _ hk
  obtain rfl := h3
  refine ops_done (by kernel_rfl) ?_
  refine cond_false_rule (b := false) (by kernel_rfl) rfl ?_
  refine wp_skip ?_
  refine wp_seq ?_
  refine wp_seq ?_
  refine region_rule ?_
  refine ops_rule (C := []) [((φ1 0), .cells #[.bool false, .pointer (some ⟨k9, 0, none⟩)] 26)] F 1 [.o 0, .o 0] 0 (fun φ4 => [(13, .agg #[.bool false, .pointer (some ⟨k9, 0, none⟩)])]) (fun φ4 => [((φ1 0), .cells #[.bool false, .pointer (some ⟨k9, 0, none⟩)] 26)]) (fun φ4 => [(φ1 0), (φ1 0)]) s trivial (fun φ4 => by kernel_rfl) ?_
  intro φ4 w4 s
  refine call_rule (some 14) s (isOne_c hn) (by kernel_rfl) ?_
  intro v5 I5 w5 le5 h5 s
  replace hl := TRep.mono le5 hl
  replace hr := TRep.mono le5 hr
  replace hn := TRep.mono le5 hn
  replace hk := le5 _ _ hk
  obtain rfl := h5
  refine ops_done (by kernel_rfl) ?_
  refine cond_false_rule (b := false) (by kernel_rfl) rfl ?_
  refine wp_skip ?_
  refine wp_seq ?_
  refine region_rule ?_
  refine ops_rule (C := []) [((φ1 0), .cells #[.bool false, .pointer (some ⟨k9, 0, none⟩)] 26)] F 1 [] 0 (fun φ6 => [(21, .float .f64 (dF (2 * 2 ^ k)))]) (fun φ6 => [((φ1 0), .cells #[.bool false, .pointer (some ⟨k9, 0, none⟩)] 26)]) (fun φ6 => []) s trivial (fun φ6 => by kernel_rfl) ?_
  intro φ6 w6 s
  refine sem_rule (binOp .quo 37 (.float .f64 (dF (2 * 2 ^ k))) (.float .f64 4611686018427387904)) (some 22) (.float .f64 (dF (2 ^ k))) (by kernel_rfl) (run_halfF (by   omega)) ?_
  refine ops_rule (C := []) [((φ1 0), .cells #[.bool false, .pointer (some ⟨k9, 0, none⟩)] 26)] F 1 [] 0 (fun φ7 => [(9, .float .f64 (dF (2 ^ k)))]) (fun φ7 => [((φ1 0), .cells #[.bool false, .pointer (some ⟨k9, 0, none⟩)] 26)]) (fun φ7 => []) s trivial (fun φ7 => by kernel_rfl) ?_
  intro φ7 w7 s
  refine ops_done (by kernel_rfl) ?_
  refine wp_seq ?_
  refine region_rule ?_
  refine ops_rule (C := []) [((φ1 0), .cells #[.bool false, .pointer (some ⟨k9, 0, none⟩)] 26)] F 2 [.o 0, .o 0] 0 (fun φ8 => [(24, .agg #[.bool false, .pointer (some ⟨k9, 0, none⟩)]), (23, v0)]) (fun φ8 => [((φ1 0), .cells #[.bool false, .pointer (some ⟨k9, 0, none⟩)] 26)]) (fun φ8 => [(φ1 0), (φ1 0)]) s trivial (fun φ8 => by kernel_rfl) ?_
  intro φ8 w8 s
  refine call_rule (some 25) s (tleft_c hn) (by kernel_rfl) ?_
  intro v9 I9 w9 le9 h9 s
  replace hl := TRep.mono le9 hl
  replace hr := TRep.mono le9 hr
  replace hn := TRep.mono le9 hn
  replace hk := le9 _ _ hk
  obtain ⟨b9, p9, rfl, h9_0⟩ := h9
  refine ops_rule (C := []) [((φ1 0), .cells #[.bool false, .pointer (some ⟨k9, 0, none⟩)] 26)] F 2 [] 0 (fun φ10 => [(27, .float .f64 (dF (2 ^ k))), (26, .float .f64 (dF a))]) (fun φ10 => [((φ1 0), .cells #[.bool false, .pointer (some ⟨k9, 0, none⟩)] 26)]) (fun φ10 => []) s trivial (fun φ10 => by kernel_rfl) ?_
  intro φ10 w10 s
  refine callF_rule (H := [((φ1 0), .cells #[.bool false, .pointer (some ⟨k9, 0, none⟩)] 26)]) (F := F) (some 28) s (ihl h9_0 hrow (by omega)) (by kernel_rfl) ?_
  intro v11 I11 w11 F11 le11 h11 s
  replace hl := TRep.mono le11 hl
  replace hr := TRep.mono le11 hr
  replace hn := TRep.mono le11 hn
  replace h9_0 := TRep.mono le11 h9_0
  replace hk := le11 _ _ hk
  refine ops_rule (C := []) [((φ1 0), .cells #[.bool false, .pointer (some ⟨k9, 0, none⟩)] 26)] F11 1 [] 0 (fun φ12 => [(0, v11)]) (fun φ12 => [((φ1 0), .cells #[.bool false, .pointer (some ⟨k9, 0, none⟩)] 26)]) (fun φ12 => []) s trivial (fun φ12 => by kernel_rfl) ?_
  intro φ12 w12 s
  refine ops_done (by kernel_rfl) ?_
  refine wp_seq ?_
  refine region_rule ?_
  refine ops_rule (C := []) [((φ1 0), .cells #[.bool false, .pointer (some ⟨k9, 0, none⟩)] 26)] F11 2 [.o 0, .o 0] 0 (fun φ13 => [(30, .agg #[.bool false, .pointer (some ⟨k9, 0, none⟩)]), (29, v11)]) (fun φ13 => [((φ1 0), .cells #[.bool false, .pointer (some ⟨k9, 0, none⟩)] 26)]) (fun φ13 => [(φ1 0), (φ1 0)]) s trivial (fun φ13 => by kernel_rfl) ?_
  intro φ13 w13 s
  refine call_rule (some 31) s (tright_c hn) (by kernel_rfl) ?_
  intro v14 I14 w14 le14 h14 s
  replace hl := TRep.mono le14 hl
  replace hr := TRep.mono le14 hr
  replace hn := TRep.mono le14 hn
  replace h9_0 := TRep.mono le14 h9_0
  replace hk := le14 _ _ hk
  obtain ⟨b14, p14, rfl, h14_0⟩ := h14
  refine ops_rule (C := []) [((φ1 0), .cells #[.bool false, .pointer (some ⟨k9, 0, none⟩)] 26)] F11 2 [] 0 (fun φ15 => [(33, .float .f64 (dF (2 ^ k))), (32, .float .f64 (dF a))]) (fun φ15 => [((φ1 0), .cells #[.bool false, .pointer (some ⟨k9, 0, none⟩)] 26)]) (fun φ15 => []) s trivial (fun φ15 => by kernel_rfl) ?_
  intro φ15 w15 s
  refine sem_rule (binOp .add 37 (.float .f64 (dF a)) (.float .f64 (dF (2 ^ k)))) (some 34) (.float .f64 (dF (a + (2 ^ k)))) (by kernel_rfl) (run_addF (by   omega)) ?_
  refine ops_rule (C := []) [((φ1 0), .cells #[.bool false, .pointer (some ⟨k9, 0, none⟩)] 26)] F11 1 [] 0 (fun φ16 => [(35, .float .f64 (dF (2 ^ k)))]) (fun φ16 => [((φ1 0), .cells #[.bool false, .pointer (some ⟨k9, 0, none⟩)] 26)]) (fun φ16 => []) s trivial (fun φ16 => by kernel_rfl) ?_
  intro φ16 w16 s
  refine callF_rule (H := [((φ1 0), .cells #[.bool false, .pointer (some ⟨k9, 0, none⟩)] 26)]) (F := F11) (some 36) s (ihr h14_0 h11 (by omega)) (by kernel_rfl) ?_
  intro v17 I17 w17 F17 le17 h17 s
  replace hl := TRep.mono le17 hl
  replace hr := TRep.mono le17 hr
  replace hn := TRep.mono le17 hn
  replace h9_0 := TRep.mono le17 h9_0
  replace h14_0 := TRep.mono le17 h14_0
  replace hk := le17 _ _ hk
  refine ops_rule (C := []) [((φ1 0), .cells #[.bool false, .pointer (some ⟨k9, 0, none⟩)] 26)] F17 1 [] 0 (fun φ18 => [(8, v17)]) (fun φ18 => [((φ1 0), .cells #[.bool false, .pointer (some ⟨k9, 0, none⟩)] 26)]) (fun φ18 => []) s trivial (fun φ18 => by kernel_rfl) ?_
  intro φ18 w18 s
  refine ops_done (by kernel_rfl) ?_
  refine wp_ret ?_
  refine ret_rule (C := []) [((φ1 0), .cells #[.bool false, .pointer (some ⟨k9, 0, none⟩)] 26)] F17 (v17) [] [] s trivial (by kernel_rfl) ?_
  replace s := s.drop (List.sublist_append_right [((φ1 0), .cells #[.bool false, .pointer (some ⟨k9, 0, none⟩)] 26)] F17)
  exact ⟨_, _, _, rfl, s, (by have e := h17; simp only [spT, cntT, cxs_append, cxs, List.map_append, List.map_nil, List.map_cons, List.append_nil, List.append_assoc, Nat.add_assoc, Nat.add_zero, Nat.add_sub_cancel] at e ⊢; exact e)⟩

theorem sp_c : ∀ (t : T) {I : IM} {b : Bool} {p : Option Addr} {n a k : Nat} {xs : List Value} {v0 : Value} {F : List OB}, TRep I t b p → RowH 35 1 v0 n xs F → n + cntT t ≤ 100000 → t.depth ≤ k → a + 2 ^ k ≤ 65536 →
    FunM Try.prog 32 #[v0, idv b p, .float .f64 (dF a), .float .f64 (dF (2 ^ k))] I F (fun v J F' => RowH 35 1 v (n + cntT t) (xs ++ cxs (spT t a k)) F')
  | .zero, _, _, _, _, _, _, _, _, _, h, hrow, hlim, hd, ha => sp_zero h hrow hlim ha
  | .one, _, _, _, _, _, _, _, _, _, h, hrow, hlim, hd, ha => sp_one h hrow hlim ha
  | .node l r, _, _, _, _, a, 0, _, _, _, h, hrow, hlim, hd, ha => by simp only [T.depth] at hd; omega
  | .node l r, _, _, _, _, a, k + 1, _, _, _, h, hrow, hlim, hd, ha => by
    simp only [T.depth] at hd
    rw [Nat.pow_succ'] at ha ⊢
    exact sp_node h hrow hlim ha (fun h1 h2 h3 => sp_c l h1 h2 h3 (by omega) (by omega)) (fun h1 h2 h3 => sp_c r h1 h2 h3 (by omega) (by omega))

end Go.Proofs.Ytgdickihjaomjaa.Ev
/- share: what two have in common, spans, measures -/
set_option linter.all false
set_option maxRecDepth 100000
namespace Go.Proofs.Ytgdickihjaomjaa.Ev
open Go.RowKit Go.Sep
attribute [local irreducible] Go.wpList Go.Code.wp
theorem leMono {I J K : IM} (le : I.Le J) (h : IM.Le K I) : IM.Le K J := h.trans le
def pAt (a : Option Addr) (i : Nat) : Option Addr := a.map fun x => x.add i
theorem pAt_g (g i : Nat) : pAt (some ⟨g, 0, none⟩) i = some ⟨g, i, none⟩ := congrArg some (addr_add g i)
theorem row_slice {e : TypeId} {size n : Nat} {v : Value} {xs : List Value} {F : List OB} (h : RowH e size v n xs F) : ∃ a c, v = .slice a n c := by
  rcases h.2 with ⟨rfl, rfl, _⟩ | ⟨g, cap, cur, rfl, _⟩
  · exact ⟨_, _, rfl⟩
  · exact ⟨_, _, rfl⟩
theorem row_at {e : TypeId} {size n c : Nat} {a : Option Addr} {xs : List Value} {F : List OB} (h : RowH e size (.slice a n c) n xs F) (hn : 0 < n) : ∃ g, a = some ⟨g, 0, none⟩ := by
  obtain ⟨g, cap, hv⟩ := row_some h hn
  cases hv; exact ⟨g, rfl⟩
theorem row_idx35 {w : World} {a : Option Addr} {n c i : Nat} {xs : List Value} {F : List OB} (h : RowH 35 1 (.slice a n c) n xs F) (hi : i < n) : (Instr.indexAt 30 (.slice a n c) (.int .i64 ((i : Nat) : Int))).run Try.prog w = .ok (.pointer (pAt a i)) w := by
  obtain ⟨g, rfl⟩ := row_at h (by omega)
  rw [run_idx30 hi, pAt_g]
theorem row_ld35 {w0 : World} {I0 : IM} {m : List Nat} {I : IM} {H F : List OB} {w : World} (s : St w0 I0 m I w (H ++ F)) {a : Option Addr} {n c i : Nat} {xs : List Value} {x : Value} (h : RowH 35 1 (.slice a n c) n xs F) (hi : i < n) (hx : xs[i]? = some x) :
    (Instr.loadAt 35 (.pointer (pAt a i))).run Try.prog w = .ok x w := by
  obtain ⟨g, rfl⟩ := row_at h (by omega)
  rw [pAt_g]
  exact run_load35 (row_cell s h hx)
theorem cxs_at {L : List (Nat × Nat)} {i : Nat} (h : i < L.length) : (cxs L)[i]? = some (.complex .f64 (dF (L.getD i (0, 0)).1) (dF (L.getD i (0, 0)).2)) := by
  rw [cxs, List.getElem?_map]; simp [h]
theorem run_mkC1 {w : World} {t1 t2 t3 : TypeId} {a : Nat} : (Builtin.complex_ #[t1, t2] t3 #[.float .f64 (dF a), .float .f64 4607182418800017408]).run Try.prog w = .ok (.complex .f64 (dF a) (dF 65536)) w := by rw [dF_one]; rfl
theorem sumW_take {L : List (Nat × Nat)} {i : Nat} (h : i < L.length) : sumW (L.take (i + 1)) = sumW (L.take i) + (L.getD i (0, 0)).2 := by
  have e : L.take (i + 1) = L.take i ++ [L.getD i (0, 0)] := by
    rw [List.take_add_one]; simp [h]
  rw [e, sumW_append]; simp [sumW]
theorem sumW_take_le (L : List (Nat × Nat)) (i : Nat) : sumW (L.take i) ≤ sumW L := by
  have := sumW_append (L.take i) (L.drop i)
  rw [List.take_append_drop] at this; omega
theorem sumW_getD_le (L : List (Nat × Nat)) (i : Nat) : (L.getD i (0, 0)).2 ≤ sumW L := by
  by_cases h : i < L.length
  · have h1 := sumW_take h
    have h2 := sumW_take_le L (i + 1)
    omega
  · simp [List.getD_eq_getElem?_getD, List.getElem?_eq_none (Nat.le_of_not_lt h)]

theorem sp0_c (t : T) {I : IM} {b : Bool} {p : Option Addr} (h : TRep I t b p) (hc : cntT t ≤ 100000) (hd : t.depth ≤ 16) : FunM Try.prog 32 #[.slice none 0 0, idv b p, .float .f64 0, .float .f64 4607182418800017408] I [] (fun v J F' => RowH 35 1 v (cntT t) (cxs (spT t 0 16)) F') := by
  have e := sp_c t (a := 0) (k := 16) h (RowH.nil 35 1) (by omega) hd (by decide)
  rw [dF_zero, show dF (2 ^ 16) = 4607182418800017408 from dF_one] at e
  simpa only [Nat.zero_add, List.nil_append] using e

set_option maxHeartbeats 1000000 in
theorem spans_c {I : IM} {t : T} {b : Bool} {p : Option Addr} (h : TRep I t b p) (hc : cntT t ≤ 100000) (hd : t.depth ≤ 16) : FunM Try.prog 10 #[idv b p] I [] (fun v J F' => RowH 35 1 v (cntT t) (cxs (spT t 0 16)) F') := by
  refine enterM_rule 5 [(0, .agg #[.bool b, .pointer p])] Try.func10 rfl (by kernel_rfl) ?_
  intro w s
  refine wp_seq ?_
  refine region_rule ?_
  refine ops_rule (C := []) [] [] 2 [] 1 (fun φ1 => [(2, .slice none 0 0), (1, .pointer (some ⟨(φ1 0), 0, none⟩))]) (fun φ1 => [((φ1 0), .cells #[.bool b, .pointer p] 26)]) (fun φ1 => []) s trivial (fun φ1 => by kernel_rfl) ?_
  intro φ1 w1 s
  refine ops_done (by kernel_rfl) ?_
  refine wp_seq ?_
  refine region_rule ?_
  refine ops_rule (C := []) [((φ1 0), .cells #[.bool b, .pointer p] 26)] [] 1 [.o 0, .o 0] 0 (fun φ2 => [(3, .agg #[.bool b, .pointer p])]) (fun φ2 => [((φ1 0), .cells #[.bool b, .pointer p] 26)]) (fun φ2 => [(φ1 0), (φ1 0)]) s trivial (fun φ2 => by kernel_rfl) ?_
  intro φ2 w2 s
  refine callF_rule (H := [((φ1 0), .cells #[.bool b, .pointer p] 26)]) (F := []) (some 4) s (sp0_c t h (by omega) (by omega)) (by kernel_rfl) ?_
  intro v3 I3 w3 F3 le3 h3 s
  replace h := TRep.mono le3 h
  refine ops_rule (C := []) [((φ1 0), .cells #[.bool b, .pointer p] 26)] F3 1 [] 0 (fun φ4 => [(2, v3)]) (fun φ4 => [((φ1 0), .cells #[.bool b, .pointer p] 26)]) (fun φ4 => []) s trivial (fun φ4 => by kernel_rfl) ?_
  intro φ4 w4 s
  refine ops_done (by kernel_rfl) ?_
  refine wp_ret ?_
  refine ret_rule (C := []) [((φ1 0), .cells #[.bool b, .pointer p] 26)] F3 (v3) [] [] s trivial (by kernel_rfl) ?_
  replace s := s.drop (List.sublist_append_right [((φ1 0), .cells #[.bool b, .pointer p] 26)] F3)
  exact ⟨_, _, _, rfl, s, h3⟩

set_option maxHeartbeats 1000000 in
theorem measure_c {I : IM} {t : T} {b : Bool} {p : Option Addr} (h : TRep I t b p) (hc : cntT t ≤ 100000) (hd : t.depth ≤ 16) : Fun Try.prog 16 #[idv b p] I (fun v J => v = .complex .f64 (dF (widT t 16)) (dF (cntT t * 65536))) := by
  refine enter_rule 20 [(0, .agg #[.bool b, .pointer p])] Try.func16 rfl (by kernel_rfl) ?_
  intro w s
  refine wp_seq ?_
  refine region_rule ?_
  refine ops_rule (C := []) [] [] 2 [] 1 (fun φ1 => [(2, .complex .f64 0 0), (1, .pointer (some ⟨(φ1 0), 0, none⟩))]) (fun φ1 => [((φ1 0), .cells #[.bool b, .pointer p] 26)]) (fun φ1 => []) s trivial (fun φ1 => by kernel_rfl) ?_
  intro φ1 w1 s
  refine ops_done (by kernel_rfl) ?_
  refine wp_seq ?_
  refine region_rule ?_
  refine ops_rule (C := []) [((φ1 0), .cells #[.bool b, .pointer p] 26)] [] 1 [] 0 (fun φ2 => [(3, .complex .f64 0 0)]) (fun φ2 => [((φ1 0), .cells #[.bool b, .pointer p] 26)]) (fun φ2 => []) s trivial (fun φ2 => by kernel_rfl) ?_
  intro φ2 w2 s
  refine ops_done (by kernel_rfl) ?_
  refine wp_seq ?_
  refine wp_seq ?_
  refine region_rule ?_
  refine ops_rule (C := []) [((φ1 0), .cells #[.bool b, .pointer p] 26)] [] 1 [.o 0, .o 0] 0 (fun φ3 => [(6, .agg #[.bool b, .pointer p])]) (fun φ3 => [((φ1 0), .cells #[.bool b, .pointer p] 26)]) (fun φ3 => [(φ1 0), (φ1 0)]) s trivial (fun φ3 => by kernel_rfl) ?_
  intro φ3 w3 s
  refine callF_rule (H := [((φ1 0), .cells #[.bool b, .pointer p] 26)]) (F := []) (some 7) s (spans_c h (by omega) (by omega)) (by kernel_rfl) ?_
  intro v4 I4 w4 F4 le4 h4 s
  obtain ⟨a4, c4, rfl⟩ := row_slice h4
  replace h := TRep.mono le4 h
  refine ops_rule (C := []) [((φ1 0), .cells #[.bool b, .pointer p] 26)] F4 2 [] 0 (fun φ5 => [(9, .int .i64 0), (8, .int .i64 (((cntT t) : Nat) : Int))]) (fun φ5 => [((φ1 0), .cells #[.bool b, .pointer p] 26)]) (fun φ5 => []) s trivial (fun φ5 => by kernel_rfl) ?_
  intro φ5 w5 s
  refine ops_done (by kernel_rfl) ?_
  refine wp_block ?_
  have hL6 : (spT t 0 16).length = cntT t := spT_length t 0 16
  have hW6 := sumW_spT t 0 16
  have hD6 := wid_le 16 hd
  rw [show (2 : Nat) ^ 16 = 65536 from by decide] at hD6
  have h06 : (0 : Nat) = dF 0 := dF_zero.symm
  rw [show (Value.complex .f64 0 0) = .complex .f64 (dF 0) (dF 0) from by rw [dF_zero]]
  have hle7 := IM.Le.refl I4
  refine loop_rule (fun (x : Nat × Nat × Nat) => [(0, .agg #[.bool b, .pointer p]), (1, .pointer (some ⟨(φ1 0), 0, none⟩)), (2, .complex .f64 0 0), (6, .agg #[.bool b, .pointer p]), (7, .slice a4 (cntT t) c4), (8, .int .i64 (((cntT t) : Nat) : Int)), (9, .int .i64 ((x.1 : Nat) : Int)), (3, .complex .f64 (dF x.2.1) (dF x.2.2))]) (fun (x : Nat × Nat × Nat) => [((φ1 0), .cells #[.bool b, .pointer p] 26)] ++ F4) (fun m (x : Nat × Nat × Nat) J => IM.Le I4 J ∧ x.1 + m = cntT t ∧ x.2.1 = sumW ((spT t 0 16).take x.1) ∧ x.2.2 = x.1 * 65536) (cntT t) (0, 0, 0) s (by kernel_rfl) (List.Sublist.refl _) ⟨IM.Le.refl _, Nat.zero_add _, rfl, rfl⟩ ?_
  rintro m8 ⟨i8, a8, q8⟩ I8 w8 ev8 s ⟨le8, hi8_0, hi8_1, hi8_2⟩
  try dsimp only at s hi8_0 hi8_1 hi8_2 ⊢
  replace h := TRep.mono le8 h
  replace hle7 := leMono le8 hle7
  have hs6 := sumW_take_le (spT t 0 16) i8
  have hg6 := sumW_getD_le (spT t 0 16) i8
  refine wp_seq ?_
  refine region_rule ?_
  refine ops_rule (C := []) [((φ1 0), .cells #[.bool b, .pointer p] 26)] F4 1 [] 0 (fun φ9 => [(10, .bool (decide (((i8 : Nat) : Int) < (((cntT t) : Nat) : Int))))]) (fun φ9 => [((φ1 0), .cells #[.bool b, .pointer p] 26)]) (fun φ9 => []) s trivial (fun φ9 => by kernel_rfl) ?_
  intro φ9 w9 s
  rw [nat_lss (a := i8) (b := (cntT t))]
  refine ops_done (by kernel_rfl) ?_
  refine wp_seq ?_
  rcases Bool.eq_false_or_eq_true (decide (i8 < (cntT t))) with hc10 | hc10
  ·
    rw [hc10]
    refine cond_true_rule (b := true) (by kernel_rfl) rfl ?_
    refine wp_skip ?_
    refine wp_seq ?_
    refine wp_block ?_
    refine wp_seq ?_
    refine region_rule ?_
    refine sem_rule (Instr.indexAt 30 (.slice a4 (cntT t) c4) (.int .i64 ((i8 : Nat) : Int))) (some 11) (.pointer (pAt a4 i8)) (by kernel_rfl) (row_idx35 h4 (by have hq0 := of_decide_eq_true hc10; have hL := hL6; have hW := hW6; have hD := hD6; have e1 := hi8_0; have e2 := hi8_1; have e3 := hi8_2; have e4 := hs6; have e5 := hg6; omega)) ?_
    refine sem_rule (Instr.loadAt 35 (.pointer (pAt a4 i8))) (some 12) (.complex .f64 (dF ((List.getD (spT t 0 16) i8 (0, 0)).1)) (dF ((List.getD (spT t 0 16) i8 (0, 0)).2))) (by kernel_rfl) (row_ld35 (H := [((φ1 0), .cells #[.bool b, .pointer p] 26)]) (F := F4) s h4 (by have hq0 := of_decide_eq_true hc10; have hL := hL6; have hW := hW6; have hD := hD6; have e1 := hi8_0; have e2 := hi8_1; have e3 := hi8_2; have e4 := hs6; have e5 := hg6; omega) (cxs_at (by have hq0 := of_decide_eq_true hc10; have hL := hL6; have hW := hW6; have hD := hD6; have e1 := hi8_0; have e2 := hi8_1; have e3 := hi8_2; have e4 := hs6; have e5 := hg6; omega))) ?_
    refine ops_rule (C := []) [((φ1 0), .cells #[.bool b, .pointer p] 26)] F4 1 [] 0 (fun φ11 => [(5, .complex .f64 (dF ((List.getD (spT t 0 16) i8 (0, 0)).1)) (dF ((List.getD (spT t 0 16) i8 (0, 0)).2)))]) (fun φ11 => [((φ1 0), .cells #[.bool b, .pointer p] 26)]) (fun φ11 => []) s trivial (fun φ11 => by kernel_rfl) ?_
    intro φ11 w11 s
    refine ops_done (by kernel_rfl) ?_
    refine region_rule ?_
    refine ops_rule (C := []) [((φ1 0), .cells #[.bool b, .pointer p] 26)] F4 2 [] 0 (fun φ12 => [(14, .complex .f64 (dF ((List.getD (spT t 0 16) i8 (0, 0)).1)) (dF ((List.getD (spT t 0 16) i8 (0, 0)).2))), (13, .complex .f64 (dF a8) (dF q8))]) (fun φ12 => [((φ1 0), .cells #[.bool b, .pointer p] 26)]) (fun φ12 => []) s trivial (fun φ12 => by kernel_rfl) ?_
    intro φ12 w12 s
    refine sem_rule (Builtin.imag_ #[35] 37 #[.complex .f64 (dF ((List.getD (spT t 0 16) i8 (0, 0)).1)) (dF ((List.getD (spT t 0 16) i8 (0, 0)).2))]) (some 15) (.float .f64 (dF ((List.getD (spT t 0 16) i8 (0, 0)).2))) (by kernel_rfl) ((by kernel_rfl : ((Builtin.imag_ #[35] 37 #[.complex .f64 (dF ((List.getD (spT t 0 16) i8 (0, 0)).1)) (dF ((List.getD (spT t 0 16) i8 (0, 0)).2))]) : Sem Value).run Try.prog w12 = .ok (.float .f64 (dF ((List.getD (spT t 0 16) i8 (0, 0)).2))) w12)) ?_
    refine sem_rule (Builtin.complex_ #[37, 37] 35 #[.float .f64 (dF ((List.getD (spT t 0 16) i8 (0, 0)).2)), .float .f64 4607182418800017408]) (some 16) (.complex .f64 (dF ((List.getD (spT t 0 16) i8 (0, 0)).2)) (dF 65536)) (by kernel_rfl) ((run_mkC1)) ?_
    refine sem_rule (binOp .add 35 (.complex .f64 (dF a8) (dF q8)) (.complex .f64 (dF ((List.getD (spT t 0 16) i8 (0, 0)).2)) (dF 65536))) (some 17) (.complex .f64 (dF (a8 + ((List.getD (spT t 0 16) i8 (0, 0)).2))) (dF (q8 + 65536))) (by kernel_rfl) (run_addC (by have hq0 := of_decide_eq_true hc10; have hL := hL6; have hW := hW6; have hD := hD6; have e1 := hi8_0; have e2 := hi8_1; have e3 := hi8_2; have e4 := hs6; have e5 := hg6; omega) (by have hq0 := of_decide_eq_true hc10; have hL := hL6; have hW := hW6; have hD := hD6; have e1 := hi8_0; have e2 := hi8_1; have e3 := hi8_2; have e4 := hs6; have e5 := hg6; omega)) ?_
    refine ops_rule (C := []) [((φ1 0), .cells #[.bool b, .pointer p] 26)] F4 1 [] 0 (fun φ13 => [(3, .complex .f64 (dF (a8 + ((List.getD (spT t 0 16) i8 (0, 0)).2))) (dF (q8 + 65536)))]) (fun φ13 => [((φ1 0), .cells #[.bool b, .pointer p] 26)]) (fun φ13 => []) s trivial (fun φ13 => by kernel_rfl) ?_
    intro φ13 w13 s
    refine ops_done (by kernel_rfl) ?_
    refine region_rule ?_
    refine ops_rule (C := []) [((φ1 0), .cells #[.bool b, .pointer p] 26)] F4 2 [] 0 (fun φ14 => [(9, .int .i64 (IntKind.wrap .i64 (((i8 : Nat) : Int) + ((1 : Nat) : Int)))), (18, .int .i64 (IntKind.wrap .i64 (((i8 : Nat) : Int) + ((1 : Nat) : Int))))]) (fun φ14 => [((φ1 0), .cells #[.bool b, .pointer p] 26)]) (fun φ14 => []) s trivial (fun φ14 => by kernel_rfl) ?_
    intro φ14 w14 s
    rw [nat_addI (a := i8) (b := 1) (by have hq0 := of_decide_eq_true hc10; have hL := hL6; have hW := hW6; have hD := hD6; have e1 := hi8_0; have e2 := hi8_1; have e3 := hi8_2; have e4 := hs6; have e5 := hg6; omega)]
    refine ops_done (by kernel_rfl) ?_
    exact ⟨⟨m8 - 1, (i8 + 1, a8 + (List.getD (spT t 0 16) i8 (0, 0)).2, q8 + 65536), _, _, _, by have hq0 := of_decide_eq_true hc10; have := hi8_0; omega, rfl, s, (List.Sublist.append (List.Sublist.cons₂ _ List.Sublist.slnil) (List.Sublist.refl _)), by kernel_rfl, hle7, by have hq0 := of_decide_eq_true hc10; have := hi8_0; show i8 + 1 + (m8 - 1) = cntT t; omega, by have hq0 := of_decide_eq_true hc10; have h1 := hi8_1; show a8 + (List.getD (spT t 0 16) i8 (0, 0)).2 = _; rw [sumW_take (by omega), h1], by have := hi8_2; show q8 + 65536 = (i8 + 1) * 65536; omega⟩⟩
  ·
    rw [hc10]
    refine cond_false_rule (b := false) (by kernel_rfl) rfl ?_
    refine wp_exit ?_
    refine wp_seq ?_
    refine region_rule ?_
    refine ops_rule (C := []) [((φ1 0), .cells #[.bool b, .pointer p] 26)] F4 2 [] 0 (fun φ15 => [(2, .complex .f64 (dF a8) (dF q8)), (19, .complex .f64 (dF a8) (dF q8))]) (fun φ15 => [((φ1 0), .cells #[.bool b, .pointer p] 26)]) (fun φ15 => []) s trivial (fun φ15 => by kernel_rfl) ?_
    intro φ15 w15 s
    refine ops_done (by kernel_rfl) ?_
    refine wp_ret ?_
    refine ret_rule (C := []) [((φ1 0), .cells #[.bool b, .pointer p] 26)] F4 (.complex .f64 (dF a8) (dF q8)) [] [] s trivial (by kernel_rfl) ?_
    exact ⟨_, _, _, rfl, s, (by have hL := hL6; have hW := hW6; have hD := hD6; have e1 := hi8_0; have e2 := hi8_1; have e3 := hi8_2; have e4 := hs6; have e5 := hg6; have hq0 := of_decide_eq_false hc10; have ei : i8 = cntT t := (by omega); rw [e2, e3, ei, ← hL, List.take_length, hW])⟩

end Go.Proofs.Ytgdickihjaomjaa.Ev
/- share: the document: what two have in common, spans -/
set_option linter.all false
set_option maxRecDepth 100000
namespace Go.Proofs.Ytgdickihjaomjaa.Ev
open Go.RowKit Go.Sep
attribute [local irreducible] Go.wpList Go.Code.wp
/-- spans as the document's program holds them -/
def sps (l : List (Nat × Nat)) : List Value := l.flatMap fun s => [.int .u64 ((s.1 : Nat) : Int), .int .u64 ((s.2 : Nat) : Int)]
/-- v is a slice of these spans, never written -/
def SpS (I : IM) (L : List (Nat × Nat)) (v : Value) : Prop := ∃ a cap, v = .slice a L.length cap ∧ L.length ≤ cap ∧ ∀ (j : Nat) (x : Value), (sps L)[j]? = some x → ∃ (b : Nat) (cs : Array Value) (T : TypeId) (fr : Nat × Nat), a = some ⟨b, 0, none⟩ ∧ I b = some (.cells cs T fr) ∧ cs[j]? = some x
theorem SpS.mono {I J : IM} (le : I.Le J) {L : List (Nat × Nat)} {v : Value} (h : SpS I L v) : SpS J L v := by
  obtain ⟨a, cap, hv, hc, hr⟩ := h
  refine ⟨a, cap, hv, hc, fun j x hj => ?_⟩
  obtain ⟨b, cs, T, fr, h1, h2, h3⟩ := hr j x hj
  exact ⟨b, cs, T, fr, h1, le _ _ h2, h3⟩
theorem SpS.cap {I : IM} {L : List (Nat × Nat)} {a : Option Addr} {n c : Nat} (h : SpS I L (.slice a n c)) : n = L.length ∧ L.length ≤ c := by
  obtain ⟨a', c', hv, hc, _⟩ := h
  cases hv; exact ⟨rfl, hc⟩
theorem run_half64 {w : World} {n : Nat} (h : 2 * n < 18446744073709551616) : (binOp .quo 34 (.int .u64 ((2 * n : Nat) : Int)) (.int .u64 2)).run Try.prog w = .ok (.int .u64 ((n : Nat) : Int)) w := by
  have e : (binOp .quo 34 (.int .u64 ((2 * n : Nat) : Int)) (.int .u64 2)).run Try.prog w = .ok (.int .u64 (IntKind.wrap .u64 (Int.tdiv ((2 * n : Nat) : Int) 2))) w := by kernel_rfl
  rw [e]
  have e1 : Int.tdiv ((2 * n : Nat) : Int) 2 = (n : Int) := by rw [Int.tdiv_eq_ediv_of_nonneg (by omega)]; omega
  have e2 : IntKind.wrap .u64 (n : Int) = (n : Int) := by simp only [IntKind.wrap, IntKind.signed, IntKind.bits]; simp; omega
  rw [e1, e2]
end Go.Proofs.Ytgdickihjaomjaa.Ev
/- share: how wide, made, is -/
set_option linter.all false
set_option maxRecDepth 100000
namespace Go.Proofs.Ytgdickihjaomjaa.Ev
open Go.RowKit Go.Sep
attribute [local irreducible] Go.wpList Go.Code.wp
theorem run_wholeF34 {w : World} {n : Nat} (h : n * 65536 < 2 ^ 53) : (convert 34 37 (.int .u64 ((n : Nat) : Int))).run Try.prog w = .ok (.float .f64 (dF (n * 65536))) w := by
  rw [← whole_dF h]; kernel_rfl
theorem run_eq64 {w : World} {z : Int} : (binOp .eql 34 (.int .u64 z) (.int .u64 z)).run Try.prog w = .ok (.bool true) w := by
  have h : (binOp .eql 34 (.int .u64 z) (.int .u64 z)).run Try.prog w = .ok (.bool (z == z)) w := by kernel_rfl
  rw [h, BEq.rfl]

set_option maxHeartbeats 1000000 in
theorem is_c {I : IM} {n : Nat} (hn : n ≤ 100000000) : Fun Try.prog 12 #[.float .f64 (dF n), .int .u64 ((n : Nat) : Int)] I (fun v J => v = .bool true) := by
  refine enter_rule 12 [(0, .float .f64 (dF n)), (1, .int .u64 ((n : Nat) : Int))] Try.func12 rfl (by kernel_rfl) ?_
  intro w s
  refine wp_seq ?_
  refine region_rule ?_
  refine ops_rule (C := []) [] [] 1 [] 0 (fun φ1 => [(4, .bool false)]) (fun φ1 => []) (fun φ1 => []) s trivial (fun φ1 => by kernel_rfl) ?_
  intro φ1 w1 s
  refine ops_done (by kernel_rfl) ?_
  refine wp_seq ?_
  refine region_rule ?_
  refine ops_rule (C := []) [] [] 1 [] 0 (fun φ2 => [(5, .float .f64 (dF n))]) (fun φ2 => []) (fun φ2 => []) s trivial (fun φ2 => by kernel_rfl) ?_
  intro φ2 w2 s
  refine op_rule (.int .u64 ((dF n : Nat) : Int)) (some 6) (by kernel_rfl) (fun o ho => ?_) ?_
  · cases ho
    kernel_rfl
  refine ops_rule (C := []) [] [] 1 [] 0 (fun φ3 => [(7, .int .u64 ((n : Nat) : Int))]) (fun φ3 => []) (fun φ3 => []) s trivial (fun φ3 => by kernel_rfl) ?_
  intro φ3 w3 s
  refine sem_rule (convert 34 37 (.int .u64 ((n : Nat) : Int))) (some 8) (.float .f64 (dF (n * 65536))) (by kernel_rfl) ((run_wholeF34 (by   omega))) ?_
  refine sem_rule (binOp .quo 37 (.float .f64 (dF (n * 65536))) (.float .f64 4679240012837945344)) (some 9) (.float .f64 (dF n)) (by kernel_rfl) (run_divF (by   omega)) ?_
  refine op_rule (.int .u64 ((dF n : Nat) : Int)) (some 10) (by kernel_rfl) (fun o ho => ?_) ?_
  · cases ho
    kernel_rfl
  refine sem_rule (binOp .eql 34 (.int .u64 ((dF n : Nat) : Int)) (.int .u64 ((dF n : Nat) : Int))) (some 11) (.bool true) (by kernel_rfl) (run_eq64) ?_
  refine ops_rule (C := []) [] [] 1 [] 0 (fun φ4 => [(4, .bool true)]) (fun φ4 => []) (fun φ4 => []) s trivial (fun φ4 => by kernel_rfl) ?_
  intro φ4 w4 s
  refine ops_done (by kernel_rfl) ?_
  refine wp_ret ?_
  refine ret_rule (C := []) [] [] (.bool true) [] [] s trivial (by kernel_rfl) ?_
  exact ⟨_, _, _, rfl, s, rfl⟩

set_option maxHeartbeats 2000000 in
theorem madeI_c {I : IM} {p : List UInt8} {vp : Value} (hp : BSl I p vp) : Fun Try.prog 9 #[vp] I (fun v J => ∃ b p k t, v = .tuple #[idv b p, .pointer (some ⟨k, 0, none⟩)] ∧ (t.nf ∧ t.depth ≤ 7) ∧ TRep J t b p ∧ RT J t k) := by
  have hp' := hp
  obtain ⟨pa, pc, rfl, hpc, -⟩ := hp
  have hp60 := bsl_take hp'
  clear hp'
  refine enter_rule 18 [(0, .slice pa p.length pc)] Try.func9 rfl (by kernel_rfl) ?_
  intro w s
  refine wp_seq ?_
  refine region_rule ?_
  refine ops_rule (C := []) [] [] 2 [] 1 (fun φ1 => [(3, .pointer none), (2, .pointer (some ⟨(φ1 0), 0, none⟩))]) (fun φ1 => [((φ1 0), .cells #[.bool false, .pointer none] 26)]) (fun φ1 => []) s trivial (fun φ1 => by kernel_rfl) ?_
  intro φ1 w1 s
  refine ops_done (by kernel_rfl) ?_
  refine wp_seq ?_
  refine region_rule ?_
  refine ops_rule (C := []) [((φ1 0), .cells #[.bool false, .pointer none] 26)] [] 4 [] 0 (fun φ2 => [(10, .int .i64 (if ((60 : Nat) : Int) < ((p.length : Nat) : Int) then ((60 : Nat) : Int) else ((p.length : Nat) : Int))), (9, .int .i64 ((p.length : Nat) : Int)), (8, .slice pa p.length pc), (7, .slice pa p.length pc)]) (fun φ2 => [((φ1 0), .cells #[.bool false, .pointer none] 26)]) (fun φ2 => []) s trivial (fun φ2 => by kernel_rfl) ?_
  intro φ2 w2 s
  rw [nat_min (a := p.length) (b := 60)]
  refine sem_rule (Instr.sliceAt 22 (.slice pa p.length pc) none (some (.int .i64 ((min p.length 60 : Nat) : Int))) none) (some 11) (.slice pa (min p.length 60) pc) (by kernel_rfl) (run_to (by have := hpc; omega)) ?_
  refine call_rule (some 12) s (make_c 7 (by omega) hp60) (by kernel_rfl) ?_
  intro v3 I3 w3 le3 h3 s
  replace hp60 := BSl.mono le3 hp60
  obtain ⟨k3, v3, t3, l3, rfl, h3_0, h3_1, h3_2⟩ := h3
  refine ops_rule (C := []) [((φ1 0), .cells #[.bool false, .pointer none] 26)] [] 5 [] 0 (fun φ4 => [(5, v3), (4, .pointer (some ⟨k3, 0, none⟩)), (14, v3), (13, .pointer (some ⟨k3, 0, none⟩)), (6, .tuple #[.pointer (some ⟨k3, 0, none⟩), v3])]) (fun φ4 => [((φ1 0), .cells #[.bool false, .pointer none] 26)]) (fun φ4 => []) s trivial (fun φ4 => by kernel_rfl) ?_
  intro φ4 w4 s
  refine ops_done (by kernel_rfl) ?_
  refine wp_seq ?_
  refine region_rule ?_
  refine ops_rule (C := []) [((φ1 0), .cells #[.bool false, .pointer none] 26)] [] 1 [] 0 (fun φ5 => [(15, .pointer (some ⟨k3, 0, none⟩))]) (fun φ5 => [((φ1 0), .cells #[.bool false, .pointer none] 26)]) (fun φ5 => []) s trivial (fun φ5 => by kernel_rfl) ?_
  intro φ5 w5 s
  refine call_rule (some 16) s (own_c t3 h3_0.1 (by have := h3_0.2; omega) h3_1) (by kernel_rfl) ?_
  intro v6 I6 w6 le6 h6 s
  replace hp60 := BSl.mono le6 hp60
  replace h3_1 := RT.mono le6 h3_1
  replace h3_2 := BSl.mono le6 h3_2
  obtain ⟨b6, p6, rfl, h6_0⟩ := h6
  refine ops_rule (C := []) [((φ1 0), .cells #[.bool false, .pointer none] 26)] [] 3 [.o 0, .o 0] 0 (fun φ7 => [(3, .pointer (some ⟨k3, 0, none⟩)), (17, .pointer (some ⟨k3, 0, none⟩))]) (fun φ7 => [((φ1 0), .cells #[.bool b6, .pointer p6] 26)]) (fun φ7 => [(φ1 0), (φ1 0)]) s trivial (fun φ7 => by kernel_rfl) ?_
  intro φ7 w7 s
  refine ops_done (by kernel_rfl) ?_
  refine wp_ret ?_
  refine ret_rule (C := []) [((φ1 0), .cells #[.bool b6, .pointer p6] 26)] [] (.tuple #[.agg #[.bool b6, .pointer p6], .pointer (some ⟨k3, 0, none⟩)]) [.o 0, .o 0] [(φ1 0), (φ1 0)] s trivial (by kernel_rfl) ?_
  exact ⟨_, _, _, rfl, s, ⟨_, _, _, t3, rfl, h3_0, h6_0, h3_1⟩⟩

end Go.Proofs.Ytgdickihjaomjaa.Ev
/- share: measures -/
set_option linter.all false
set_option maxRecDepth 100000
namespace Go.Proofs.Ytgdickihjaomjaa.Ev
open Go.RowKit Go.Sep
attribute [local irreducible] Go.wpList Go.Code.wp
theorem splitOk_c {I : IM} {t : T} {b : Bool} {p : Option Addr} (h : TRep I t b p) (hd : t.depth ≤ 15) : Fun Try.prog 20 #[idv b p] I (fun v J => ∃ b1 p1 b2 p2, v = .tuple #[idv b1 p1, idv b2 p2, .int .i64 0] ∧ TRep J (cutT t).1 b1 p1 ∧ TRep J (cutT t).2 b2 p2) := by
  have e := split_c h (by omega)
  rw [split_small hd] at e
  exact e
theorem run_eqF2 {w : World} {a c : Nat} (ha : a < 2 ^ 53) (h : a = c) : (binOp .eql 37 (.float .f64 (dF a)) (.float .f64 (dF c))).run Try.prog w = .ok (.bool true) w := by
  subst h
  rw [run_cmpF ha ha, decide_eq_true rfl]
theorem d8 {t : T} (h : t.nf ∧ t.depth ≤ 7) : t.depth ≤ 8 := by omega
theorem d15 {t : T} (h : t.nf ∧ t.depth ≤ 7) : t.depth ≤ 15 := by omega
theorem d17 {t : T} (h : t.nf ∧ t.depth ≤ 7) : t.depth + 1 ≤ 16 := by omega
theorem cut1_d8 {t : T} (h : t.nf ∧ t.depth ≤ 7) : (cutT t).1.depth ≤ 8 := by have := cut_depth t; omega
theorem cut2_d8 {t : T} (h : t.nf ∧ t.depth ≤ 7) : (cutT t).2.depth ≤ 8 := by have := cut_depth t; omega
theorem dle16 {t : T} (h : t.depth ≤ 8) : t.depth ≤ 16 := by omega
end Go.Proofs.Ytgdickihjaomjaa.Ev
