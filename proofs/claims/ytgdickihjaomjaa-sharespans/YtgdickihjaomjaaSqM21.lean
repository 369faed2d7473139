/- share: an id of its spans -/
import Derived.Test.YtgdickihjaomjaaSqM20
import Derived.Test.YtgdickihjaomjaaSqM19
import Derived.OpenShut
set_option linter.all false
set_option maxRecDepth 100000
namespace Go.Proofs.Ytgdickihjaomjaa.Ev
open Go.RowKit Go.Sep
attribute [local irreducible] Go.wpList Go.Code.wp
/-- a slice of spans as complex numbers, never written -/
def CSl (I : IM) (L : List (Nat × Nat)) (v : Value) : Prop := ∃ a cap, v = .slice a L.length cap ∧ L.length ≤ cap ∧ ∀ (j : Nat) (s : Nat × Nat), L[j]? = some s → ∃ (b o : Nat) (cs : Array Value) (T : TypeId) (fr : Nat × Nat), a = some ⟨b, o, none⟩ ∧ I b = some (.cells cs T fr) ∧ cs[o + j]? = some (.complex .f64 (dF s.1) (dF s.2))
theorem CSl.mono {I J : IM} (le : I.Le J) {L : List (Nat × Nat)} {v : Value} (h : CSl I L v) : CSl J L v := by
  obtain ⟨a, cap, hv, hc, hr⟩ := h
  refine ⟨a, cap, hv, hc, fun j x hj => ?_⟩
  obtain ⟨b, o, cs, T, fr, h1, h2, h3⟩ := hr j x hj
  exact ⟨b, o, cs, T, fr, h1, le _ _ h2, h3⟩
theorem CSl.open {I : IM} {L : List (Nat × Nat)} {v : Value} (h : CSl I L v) : ∃ a c, v = .slice a L.length c ∧ L.length ≤ c ∧ CSl I L (.slice a L.length c) := by
  obtain ⟨a, c, rfl, hc, hr⟩ := h
  exact ⟨a, c, rfl, hc, a, c, rfl, hc, hr⟩
theorem csl_idx {I : IM} {w : World} {L : List (Nat × Nat)} {a : Option Addr} {n c i : Nat} (h : CSl I L (.slice a n c)) (hi : i < L.length) :
    (Instr.indexAt 30 (.slice a n c) (.int .i64 ((i : Nat) : Int))).run Try.prog w = .ok (.pointer (pAt a i)) w := by
  obtain ⟨a', c', hv, hc, hr⟩ := h
  cases hv
  obtain ⟨b, o, cs, T, fr, rfl, h2, h3⟩ := hr i _ (List.getElem?_eq_getElem hi)
  have h2 : (i : Int) < (L.length : Int) := by omega
  simp [Instr.indexAt, asIntOf, run_underlying under30, size35, h2, pAt]
  intro h3; omega
theorem csl_ld {I : IM} {w : World} (hS : I.Sub w) {L : List (Nat × Nat)} {a : Option Addr} {n c i : Nat} {s : Nat × Nat} (h : CSl I L (.slice a n c)) (hs : L[i]? = some s) :
    (Instr.loadAt 35 (.pointer (pAt a i))).run Try.prog w = .ok (.complex .f64 (dF s.1) (dF s.2)) w := by
  obtain ⟨a', c', hv, hc, hr⟩ := h
  cases hv
  obtain ⟨b, o, cs, T, fr, rfl, h2, h3⟩ := hr i _ hs
  rw [show pAt (some ⟨b, o, none⟩) i = some ⟨b, o + i, none⟩ from congrArg some (addr_addO b o i)]
  have hc := run_cell (a := ⟨b, o + i, none⟩) (hS _ _ h2) rfl rfl
  rw [h3] at hc
  have e : (Instr.loadAt 35 (.pointer (some ⟨b, o + i, none⟩))).run Try.prog w = (load ⟨b, o + i, none⟩).run Try.prog w := by kernel_rfl
  rw [e]; simp only [load, Sem.run, hc]
theorem getD_at {L : List (Nat × Nat)} {i : Nat} (h : i < L.length) : L[i]? = some (L.getD i (0, 0)) := by simp [h]
theorem run_rest30 {w : World} {b o n cap : Nat} (hc : n + 1 ≤ cap) : (Instr.sliceAt 30 (.slice (some ⟨b, o, none⟩) (n + 1) cap) (some (.int .i64 1)) none none).run Try.prog w = .ok (.slice (if cap = 1 then some ⟨b, o, none⟩ else some ⟨b, o + 1, none⟩) n (cap - 1)) w := by
  have hb : (Instr.sliceBound (.int .i64 1) (n + 1) .sliceB).run Try.prog w = .ok 1 w := run_bound (k := 1) (by omega)
  simp [Instr.sliceAt, Instr.slice, run_underlying under30, Instr.sliceBounds, hb, size35]
  rfl
theorem csl_cons {I : IM} {x : Nat × Nat} {l : List (Nat × Nat)} {v : Value} (h : CSl I (x :: l) v) : ∃ b o cap, v = .slice (some ⟨b, o, none⟩) (l.length + 1) cap ∧ l.length + 1 ≤ cap ∧
    CSl I l (.slice (if cap = 1 then some ⟨b, o, none⟩ else some ⟨b, o + 1, none⟩) l.length (cap - 1)) := by
  obtain ⟨a, cap, hv, hc, hr⟩ := h
  obtain ⟨b, o, cs, T, fr, h1, h2, h3⟩ := hr 0 x rfl
  subst h1
  refine ⟨b, o, cap, hv, hc, _, _, rfl, ?_, fun j y hj => ?_⟩
  · simp only [List.length_cons] at hc; omega
  · obtain ⟨b', o', cs', T', fr', e1, e2, e3⟩ := hr (j + 1) y (by simpa using hj)
    cases e1
    have hcap : ¬ cap = 1 := by
      have := (List.getElem?_eq_some_iff.1 hj).1
      simp only [List.length_cons] at hc; omega
    rw [if_neg hcap]
    exact ⟨b, o + 1, cs', T', fr', rfl, e2, by rw [show o + 1 + j = o + (j + 1) by omega]; exact e3⟩
theorem freeze_rowC {w0 : World} {I0 : IM} {m : List Nat} {I : IM} {w : World} {H F : List OB} {L : List (Nat × Nat)} {v : Value} {n : Nat} (s : St w0 I0 m I w (H ++ F)) (h : RowH 35 1 v n (cxs L) F) :
    ∃ I', I.Le I' ∧ CSl I' L v ∧ St w0 I0 m I' w H := by
  have hl : L.length = n := by have := h.1; rw [cxs_length] at this; omega
  rcases h.2 with ⟨rfl, rfl, rfl⟩ | ⟨g, cap, cur, rfl, rfl, hnc, hcm, hcs, ht⟩
  · have : L = [] := List.eq_nil_of_length_eq_zero hl
    subst this
    exact ⟨I, IM.Le.refl I, ⟨none, 0, rfl, Nat.le_refl _, fun j x h => by cases h⟩, by simpa using s⟩
  · have s2 := (s.perm (H' := (g, .cells cur 35) :: H) (by exact List.perm_append_comm))
    refine ⟨_, IM.le_add (s2.free (g, .cells cur 35) (by simp)) _, ?_, s2.freeze⟩
    refine ⟨some ⟨g, 0, none⟩, cap, congrArg (fun q => Value.slice (some ⟨g, 0, none⟩) q cap) hl.symm, by omega, fun j x hj => ⟨g, 0, cur, 35, (0, 0), rfl, IM.add_self _ _ _, ?_⟩⟩
    have hj2 : (cxs L)[j]? = some (.complex .f64 (dF x.1) (dF x.2)) := by rw [cxs, List.getElem?_map, hj]; rfl
    rw [← ht, List.getElem?_take] at hj2
    rw [Nat.zero_add]
    split at hj2
    · simpa using hj2
    · cases hj2
theorem spansF_c {t : T} {I : IM} {b : Bool} {p : Option Addr} (h : TRep I t b p) (hc : cntT t ≤ 100000) (hd : t.depth ≤ 16) : Fun Try.prog 10 #[idv b p] I (fun v J => ∃ a c, v = .slice a (cntT t) c ∧ CSl J (spT t 0 16) (.slice a (cntT t) c)) := by
  intro w hw
  refine (spans_c h hc hd w hw (Owns.nil I w)).mono ?_
  rintro en w' ⟨v, I', H', he, s, hr⟩
  obtain ⟨J, le, hb, s2⟩ := freeze_rowC (H := []) s hr
  obtain ⟨a, c, rfl, hc, hb⟩ := hb.open
  rw [spT_length] at hb he
  exact ⟨_, J, [], he, s2, a, c, rfl, hb⟩
theorem sp_head : ∀ {t : T} {a k : Nat}, t.nf → t.isZero = false → t.depth ≤ k → ∃ s L, spT t a k = s :: L ∧ a ≤ s.1 ∧ s.1 < a + 2 ^ k ∧ (t.isOne = false → s.2 < 2 ^ k) ∧ s.2 ≤ 2 ^ k
  | .zero, _, _, _, h, _ => by cases h
  | .one, a, k, _, _, _ => ⟨(a, 2 ^ k), [], rfl, Nat.le_refl _, (by have := Nat.two_pow_pos k; show a < _; omega), (fun h => by cases h), Nat.le_refl _⟩
  | .node l r, a, 0, _, _, hd => by simp only [T.depth] at hd; omega
  | .node l r, a, k + 1, ⟨hl, hr, hm⟩, _, hd => by
    simp only [T.depth] at hd
    have e := Nat.pow_succ 2 k
    have hp := Nat.two_pow_pos k
    by_cases z : l.isZero = true
    · have : l = .zero := isZero_eq z
      subst this
      by_cases z2 : r.isZero = true
      · have : r = .zero := isZero_eq z2
        subst this
        cases hm
      · obtain ⟨s, L, h1, h2, h3, h4, h5⟩ := sp_head (a := a + 2 ^ k) (k := k) hr (by simpa using z2) (by omega)
        exact ⟨s, L, by simp only [spT, Nat.add_sub_cancel, List.nil_append]; exact h1, by omega, by omega, fun _ => by omega, by omega⟩
    · obtain ⟨s, L, h1, h2, h3, h4, h5⟩ := sp_head (a := a) (k := k) hl (by simpa using z) (by omega)
      exact ⟨s, L ++ spT r (a + 2 ^ k) k, by simp only [spT, Nat.add_sub_cancel, h1, List.cons_append], h2, by omega, fun _ => by omega, by omega⟩
theorem run_leFT {w : World} {a b : Nat} (ha : a < 2 ^ 53) (hb : b < 2 ^ 53) (h : a ≤ b) : (binOp .leq 37 (.float .f64 (dF a)) (.float .f64 (dF b))).run Try.prog w = .ok (.bool true) w := by rw [run_leF ha hb, decide_eq_true h]
theorem run_ltFT {w : World} {a b : Nat} (ha : a < 2 ^ 53) (hb : b < 2 ^ 53) (h : a < b) : (binOp .lss 37 (.float .f64 (dF a)) (.float .f64 (dF b))).run Try.prog w = .ok (.bool true) w := by rw [run_ltF ha hb, decide_eq_true h]
theorem run_ltFF {w : World} {a b : Nat} (ha : a < 2 ^ 53) (hb : b < 2 ^ 53) (h : ¬ a < b) : (binOp .lss 37 (.float .f64 (dF a)) (.float .f64 (dF b))).run Try.prog w = .ok (.bool false) w := by rw [run_ltF ha hb, decide_eq_false h]
theorem run_eqCF {w : World} {a b c d : Nat} (ha : a < 2 ^ 53) (hb : b < 2 ^ 53) (hc : c < 2 ^ 53) (hd : d < 2 ^ 53) (h : ¬ b = d) : (binOp .eql 35 (.complex .f64 (dF a) (dF b)) (.complex .f64 (dF c) (dF d))).run Try.prog w = .ok (.bool false) w := by
  rw [run_cmpC ha hb hc hd, decide_eq_false h, Bool.and_false]

set_option maxHeartbeats 1000000 in
theorem bd_nil {I : IM} {a k d c0 : Nat} {a0 : Option Addr} (hv : CSl I [] (.slice a0 0 c0)) : Fun Try.prog 34 #[.slice a0 0 c0, .float .f64 (dF a), .float .f64 (dF (2 ^ k)), .int .i64 ((d : Nat) : Int)] I (fun v J => ∃ b p v2, v = .tuple #[idv b p, v2] ∧ TRep J T.zero b p ∧ CSl J [] v2) := by
  refine enter_rule 83 [(0, .slice a0 0 c0), (1, .float .f64 (dF a)), (2, .float .f64 (dF (2 ^ k))), (3, .int .i64 ((d : Nat) : Int))] Try.func34 rfl (by kernel_rfl) ?_
  intro w s
  refine wp_seq ?_
  refine region_rule ?_
  refine ops_rule (C := []) [] [] 2 [] 1 (fun φ1 => [(9, .slice none 0 0), (8, .pointer (some ⟨(φ1 0), 0, none⟩))]) (fun φ1 => [((φ1 0), .cells #[.bool false, .pointer none] 26)]) (fun φ1 => []) s trivial (fun φ1 => by kernel_rfl) ?_
  intro φ1 w1 s
  refine ops_done (by kernel_rfl) ?_
  refine wp_seq ?_
  refine wp_seq ?_
  refine region_rule ?_
  refine ops_rule (C := []) [((φ1 0), .cells #[.bool false, .pointer none] 26)] [] 22 [] 0 (fun φ2 => [(36, .bool true), (35, undef), (34, undef), (33, undef), (32, undef), (31, undef), (30, undef), (29, undef), (28, undef), (27, undef), (26, undef), (25, undef), (24, undef), (23, undef), (22, undef), (21, undef), (20, undef), (19, undef), (18, .bool true), (17, .bool true), (16, .int .i64 0), (15, .slice a0 0 c0)]) (fun φ2 => [((φ1 0), .cells #[.bool false, .pointer none] 26)]) (fun φ2 => []) s trivial (fun φ2 => by kernel_rfl) ?_
  intro φ2 w2 s
  refine ops_done (by kernel_rfl) ?_
  refine cond_true_rule (b := true) (by kernel_rfl) rfl ?_
  refine wp_seq ?_
  refine region_rule ?_
  refine call_rule (some 37) s (tzero_c) (by kernel_rfl) ?_
  intro v3 I3 w3 le3 h3 s
  replace hv := CSl.mono le3 hv
  obtain rfl := h3
  refine ops_rule (C := []) [((φ1 0), .cells #[.bool false, .pointer none] 26)] [] 3 [.o 0, .o 0] 0 (fun φ4 => [(9, .slice a0 0 c0), (38, .slice a0 0 c0)]) (fun φ4 => [((φ1 0), .cells #[.bool false, .pointer none] 26)]) (fun φ4 => [(φ1 0), (φ1 0)]) s trivial (fun φ4 => by kernel_rfl) ?_
  intro φ4 w4 s
  refine ops_done (by kernel_rfl) ?_
  refine wp_ret ?_
  refine ret_rule (C := []) [((φ1 0), .cells #[.bool false, .pointer none] 26)] [] (.tuple #[.agg #[.bool false, .pointer none], .slice a0 0 c0]) [.o 0, .o 0] [(φ1 0), (φ1 0)] s trivial (by kernel_rfl) ?_
  exact ⟨_, _, _, rfl, s, ⟨_, _, _, rfl, (TRep.z _), hv⟩⟩

set_option maxHeartbeats 1000000 in
theorem bd_zero {I : IM} {a k d : Nat} {L : List (Nat × Nat)} {y : Nat × Nat} {v : Value} (hv : CSl I (y :: L) v) (hk : 2 ^ k ≤ 65536) (ha : a + 2 ^ k ≤ 65536) (h1 : a + 2 ^ k ≤ y.1) (h2 : y.1 ≤ 65536) (h3 : y.2 ≤ 65536) : Fun Try.prog 34 #[v, .float .f64 (dF a), .float .f64 (dF (2 ^ k)), .int .i64 ((d : Nat) : Int)] I (fun v J => ∃ b p v2, v = .tuple #[idv b p, v2] ∧ TRep J T.zero b p ∧ CSl J (y :: L) v2) := by
  have hv9 := hv
  obtain ⟨b0, o0, cap, rfl, hcap, hrest⟩ := csl_cons hv9
  clear hv9
  have hp := Nat.two_pow_pos k
  refine enter_rule 83 [(0, .slice (some ⟨b0, o0, none⟩) (L.length + 1) cap), (1, .float .f64 (dF a)), (2, .float .f64 (dF (2 ^ k))), (3, .int .i64 ((d : Nat) : Int))] Try.func34 rfl (by kernel_rfl) ?_
  intro w s
  refine wp_seq ?_
  refine region_rule ?_
  refine ops_rule (C := []) [] [] 2 [] 1 (fun φ1 => [(9, .slice none 0 0), (8, .pointer (some ⟨(φ1 0), 0, none⟩))]) (fun φ1 => [((φ1 0), .cells #[.bool false, .pointer none] 26)]) (fun φ1 => []) s trivial (fun φ1 => by kernel_rfl) ?_
  intro φ1 w1 s
  refine ops_done (by kernel_rfl) ?_
  refine wp_seq ?_
  refine wp_seq ?_
  refine region_rule ?_
  refine ops_rule (C := []) [((φ1 0), .cells #[.bool false, .pointer none] 26)] [] 4 [] 0 (fun φ2 => [(18, .bool ((((L.length + 1) : Nat) : Int) == ((0 : Nat) : Int))), (17, .bool ((((L.length + 1) : Nat) : Int) == ((0 : Nat) : Int))), (16, .int .i64 (((L.length + 1) : Nat) : Int)), (15, .slice (some ⟨b0, o0, none⟩) (L.length + 1) cap)]) (fun φ2 => [((φ1 0), .cells #[.bool false, .pointer none] 26)]) (fun φ2 => []) s trivial (fun φ2 => by kernel_rfl) ?_
  intro φ2 w2 s
  rw [nat_eql (a := (L.length + 1)) (b := 0)]
  rcases Bool.eq_false_or_eq_true (decide ((L.length + 1) = 0)) with hc3 | hc3
  ·
    exact absurd (of_decide_eq_true hc3) (by omega)
  ·
    rw [hc3]
    refine ops_rule (C := []) [((φ1 0), .cells #[.bool false, .pointer none] 26)] [] 2 [] 0 (fun φ4 => [(20, .slice (some ⟨b0, o0, none⟩) (L.length + 1) cap), (19, .float .f64 (dF a))]) (fun φ4 => [((φ1 0), .cells #[.bool false, .pointer none] 26)]) (fun φ4 => []) s trivial (fun φ4 => by kernel_rfl) ?_
    intro φ4 w4 s
    refine sem_rule (Instr.indexAt 30 (.slice (some ⟨b0, o0, none⟩) (L.length + 1) cap) (.int .i64 (((0 : Nat) : Nat) : Int))) (some 21) (.pointer (pAt (some ⟨b0, o0, none⟩) 0)) (by kernel_rfl) (csl_idx hv (by simp only [List.length_cons]; omega)) ?_
    refine sem_rule (Instr.loadAt 35 (.pointer (pAt (some ⟨b0, o0, none⟩) 0))) (some 22) (.complex .f64 (dF y.1) (dF y.2)) (by kernel_rfl) (csl_ld (i := 0) s.sub hv rfl) ?_
    refine sem_rule (Builtin.real_ #[35] 37 #[.complex .f64 (dF y.1) (dF y.2)]) (some 23) (.float .f64 (dF y.1)) (by kernel_rfl) ((by kernel_rfl : ((Builtin.real_ #[35] 37 #[.complex .f64 (dF y.1) (dF y.2)]) : Sem Value).run Try.prog w4 = .ok (.float .f64 (dF y.1)) w4)) ?_
    refine sem_rule (binOp .leq 37 (.float .f64 (dF a)) (.float .f64 (dF y.1))) (some 24) (.bool true) (by kernel_rfl) (run_leFT (by omega) (by omega) (by omega)) ?_
    refine ops_rule (C := []) [((φ1 0), .cells #[.bool false, .pointer none] 26)] [] 2 [] 0 (fun φ5 => [(26, .slice (some ⟨b0, o0, none⟩) (L.length + 1) cap), (25, .bool true)]) (fun φ5 => [((φ1 0), .cells #[.bool false, .pointer none] 26)]) (fun φ5 => []) s trivial (fun φ5 => by kernel_rfl) ?_
    intro φ5 w5 s
    refine sem_rule (Instr.indexAt 30 (.slice (some ⟨b0, o0, none⟩) (L.length + 1) cap) (.int .i64 (((0 : Nat) : Nat) : Int))) (some 27) (.pointer (pAt (some ⟨b0, o0, none⟩) 0)) (by kernel_rfl) (csl_idx hv (by simp only [List.length_cons]; omega)) ?_
    refine sem_rule (Instr.loadAt 35 (.pointer (pAt (some ⟨b0, o0, none⟩) 0))) (some 28) (.complex .f64 (dF y.1) (dF y.2)) (by kernel_rfl) (csl_ld (i := 0) s.sub hv rfl) ?_
    refine sem_rule (Builtin.real_ #[35] 37 #[.complex .f64 (dF y.1) (dF y.2)]) (some 29) (.float .f64 (dF y.1)) (by kernel_rfl) ((by kernel_rfl : ((Builtin.real_ #[35] 37 #[.complex .f64 (dF y.1) (dF y.2)]) : Sem Value).run Try.prog w5 = .ok (.float .f64 (dF y.1)) w5)) ?_
    refine ops_rule (C := []) [((φ1 0), .cells #[.bool false, .pointer none] 26)] [] 2 [] 0 (fun φ6 => [(31, .float .f64 (dF (2 ^ k))), (30, .float .f64 (dF a))]) (fun φ6 => [((φ1 0), .cells #[.bool false, .pointer none] 26)]) (fun φ6 => []) s trivial (fun φ6 => by kernel_rfl) ?_
    intro φ6 w6 s
    refine sem_rule (binOp .add 37 (.float .f64 (dF a)) (.float .f64 (dF (2 ^ k)))) (some 32) (.float .f64 (dF (a + (2 ^ k)))) (by kernel_rfl) (run_addF (by have hq0 := of_decide_eq_false hc3;  omega)) ?_
    refine sem_rule (binOp .lss 37 (.float .f64 (dF y.1)) (.float .f64 (dF (a + (2 ^ k))))) (some 33) (.bool false) (by kernel_rfl) (run_ltFF (by omega) (by omega) (by omega)) ?_
    refine ops_rule (C := []) [((φ1 0), .cells #[.bool false, .pointer none] 26)] [] 3 [] 0 (fun φ7 => [(36, .bool true), (35, .bool true), (34, .bool false)]) (fun φ7 => [((φ1 0), .cells #[.bool false, .pointer none] 26)]) (fun φ7 => []) s trivial (fun φ7 => by kernel_rfl) ?_
    intro φ7 w7 s
    refine ops_done (by kernel_rfl) ?_
    refine cond_true_rule (b := true) (by kernel_rfl) rfl ?_
    refine wp_seq ?_
    refine region_rule ?_
    refine call_rule (some 37) s (tzero_c) (by kernel_rfl) ?_
    intro v8 I8 w8 le8 h8 s
    replace hv := CSl.mono le8 hv
    replace hrest := CSl.mono le8 hrest
    obtain rfl := h8
    refine ops_rule (C := []) [((φ1 0), .cells #[.bool false, .pointer none] 26)] [] 3 [.o 0, .o 0] 0 (fun φ9 => [(9, .slice (some ⟨b0, o0, none⟩) (L.length + 1) cap), (38, .slice (some ⟨b0, o0, none⟩) (L.length + 1) cap)]) (fun φ9 => [((φ1 0), .cells #[.bool false, .pointer none] 26)]) (fun φ9 => [(φ1 0), (φ1 0)]) s trivial (fun φ9 => by kernel_rfl) ?_
    intro φ9 w9 s
    refine ops_done (by kernel_rfl) ?_
    refine wp_ret ?_
    refine ret_rule (C := []) [((φ1 0), .cells #[.bool false, .pointer none] 26)] [] (.tuple #[.agg #[.bool false, .pointer none], .slice (some ⟨b0, o0, none⟩) (L.length + 1) cap]) [.o 0, .o 0] [(φ1 0), (φ1 0)] s trivial (by kernel_rfl) ?_
    exact ⟨_, _, _, rfl, s, ⟨_, _, _, rfl, (TRep.z _), hv⟩⟩

set_option maxHeartbeats 1000000 in
theorem bd_one {I : IM} {a k d : Nat} {L : List (Nat × Nat)} {v : Value} (hv : CSl I ((a, 2 ^ k) :: L) v) (hk : 2 ^ k ≤ 65536) (ha : a + 2 ^ k ≤ 65536) : Fun Try.prog 34 #[v, .float .f64 (dF a), .float .f64 (dF (2 ^ k)), .int .i64 ((d : Nat) : Int)] I (fun v J => ∃ b p v2, v = .tuple #[idv b p, v2] ∧ TRep J T.one b p ∧ CSl J L v2) := by
  have hv9 := hv
  obtain ⟨b0, o0, cap, rfl, hcap, hrest⟩ := csl_cons hv9
  clear hv9
  have hp := Nat.two_pow_pos k
  refine enter_rule 83 [(0, .slice (some ⟨b0, o0, none⟩) (L.length + 1) cap), (1, .float .f64 (dF a)), (2, .float .f64 (dF (2 ^ k))), (3, .int .i64 ((d : Nat) : Int))] Try.func34 rfl (by kernel_rfl) ?_
  intro w s
  refine wp_seq ?_
  refine region_rule ?_
  refine ops_rule (C := []) [] [] 2 [] 1 (fun φ1 => [(9, .slice none 0 0), (8, .pointer (some ⟨(φ1 0), 0, none⟩))]) (fun φ1 => [((φ1 0), .cells #[.bool false, .pointer none] 26)]) (fun φ1 => []) s trivial (fun φ1 => by kernel_rfl) ?_
  intro φ1 w1 s
  refine ops_done (by kernel_rfl) ?_
  refine wp_seq ?_
  refine wp_seq ?_
  refine region_rule ?_
  refine ops_rule (C := []) [((φ1 0), .cells #[.bool false, .pointer none] 26)] [] 4 [] 0 (fun φ2 => [(18, .bool ((((L.length + 1) : Nat) : Int) == ((0 : Nat) : Int))), (17, .bool ((((L.length + 1) : Nat) : Int) == ((0 : Nat) : Int))), (16, .int .i64 (((L.length + 1) : Nat) : Int)), (15, .slice (some ⟨b0, o0, none⟩) (L.length + 1) cap)]) (fun φ2 => [((φ1 0), .cells #[.bool false, .pointer none] 26)]) (fun φ2 => []) s trivial (fun φ2 => by kernel_rfl) ?_
  intro φ2 w2 s
  rw [nat_eql (a := (L.length + 1)) (b := 0)]
  rcases Bool.eq_false_or_eq_true (decide ((L.length + 1) = 0)) with hc3 | hc3
  ·
    exact absurd (of_decide_eq_true hc3) (by omega)
  ·
    rw [hc3]
    refine ops_rule (C := []) [((φ1 0), .cells #[.bool false, .pointer none] 26)] [] 2 [] 0 (fun φ4 => [(20, .slice (some ⟨b0, o0, none⟩) (L.length + 1) cap), (19, .float .f64 (dF a))]) (fun φ4 => [((φ1 0), .cells #[.bool false, .pointer none] 26)]) (fun φ4 => []) s trivial (fun φ4 => by kernel_rfl) ?_
    intro φ4 w4 s
    refine sem_rule (Instr.indexAt 30 (.slice (some ⟨b0, o0, none⟩) (L.length + 1) cap) (.int .i64 (((0 : Nat) : Nat) : Int))) (some 21) (.pointer (pAt (some ⟨b0, o0, none⟩) 0)) (by kernel_rfl) (csl_idx hv (by simp only [List.length_cons]; omega)) ?_
    refine sem_rule (Instr.loadAt 35 (.pointer (pAt (some ⟨b0, o0, none⟩) 0))) (some 22) (.complex .f64 (dF a) (dF (2 ^ k))) (by kernel_rfl) (csl_ld (i := 0) s.sub hv rfl) ?_
    refine sem_rule (Builtin.real_ #[35] 37 #[.complex .f64 (dF a) (dF (2 ^ k))]) (some 23) (.float .f64 (dF a)) (by kernel_rfl) ((by kernel_rfl : ((Builtin.real_ #[35] 37 #[.complex .f64 (dF a) (dF (2 ^ k))]) : Sem Value).run Try.prog w4 = .ok (.float .f64 (dF a)) w4)) ?_
    refine sem_rule (binOp .leq 37 (.float .f64 (dF a)) (.float .f64 (dF a))) (some 24) (.bool true) (by kernel_rfl) (run_leFT (by omega) (by omega) (by omega)) ?_
    refine ops_rule (C := []) [((φ1 0), .cells #[.bool false, .pointer none] 26)] [] 2 [] 0 (fun φ5 => [(26, .slice (some ⟨b0, o0, none⟩) (L.length + 1) cap), (25, .bool true)]) (fun φ5 => [((φ1 0), .cells #[.bool false, .pointer none] 26)]) (fun φ5 => []) s trivial (fun φ5 => by kernel_rfl) ?_
    intro φ5 w5 s
    refine sem_rule (Instr.indexAt 30 (.slice (some ⟨b0, o0, none⟩) (L.length + 1) cap) (.int .i64 (((0 : Nat) : Nat) : Int))) (some 27) (.pointer (pAt (some ⟨b0, o0, none⟩) 0)) (by kernel_rfl) (csl_idx hv (by simp only [List.length_cons]; omega)) ?_
    refine sem_rule (Instr.loadAt 35 (.pointer (pAt (some ⟨b0, o0, none⟩) 0))) (some 28) (.complex .f64 (dF a) (dF (2 ^ k))) (by kernel_rfl) (csl_ld (i := 0) s.sub hv rfl) ?_
    refine sem_rule (Builtin.real_ #[35] 37 #[.complex .f64 (dF a) (dF (2 ^ k))]) (some 29) (.float .f64 (dF a)) (by kernel_rfl) ((by kernel_rfl : ((Builtin.real_ #[35] 37 #[.complex .f64 (dF a) (dF (2 ^ k))]) : Sem Value).run Try.prog w5 = .ok (.float .f64 (dF a)) w5)) ?_
    refine ops_rule (C := []) [((φ1 0), .cells #[.bool false, .pointer none] 26)] [] 2 [] 0 (fun φ6 => [(31, .float .f64 (dF (2 ^ k))), (30, .float .f64 (dF a))]) (fun φ6 => [((φ1 0), .cells #[.bool false, .pointer none] 26)]) (fun φ6 => []) s trivial (fun φ6 => by kernel_rfl) ?_
    intro φ6 w6 s
    refine sem_rule (binOp .add 37 (.float .f64 (dF a)) (.float .f64 (dF (2 ^ k)))) (some 32) (.float .f64 (dF (a + (2 ^ k)))) (by kernel_rfl) (run_addF (by have hq0 := of_decide_eq_false hc3;  omega)) ?_
    refine sem_rule (binOp .lss 37 (.float .f64 (dF a)) (.float .f64 (dF (a + (2 ^ k))))) (some 33) (.bool true) (by kernel_rfl) (run_ltFT (by omega) (by omega) (by omega)) ?_
    refine ops_rule (C := []) [((φ1 0), .cells #[.bool false, .pointer none] 26)] [] 3 [] 0 (fun φ7 => [(36, .bool false), (35, .bool false), (34, .bool true)]) (fun φ7 => [((φ1 0), .cells #[.bool false, .pointer none] 26)]) (fun φ7 => []) s trivial (fun φ7 => by kernel_rfl) ?_
    intro φ7 w7 s
    refine ops_done (by kernel_rfl) ?_
    refine cond_false_rule (b := false) (by kernel_rfl) rfl ?_
    refine wp_skip ?_
    refine wp_seq ?_
    refine wp_seq ?_
    refine region_rule ?_
    refine ops_rule (C := []) [((φ1 0), .cells #[.bool false, .pointer none] 26)] [] 1 [] 0 (fun φ8 => [(39, .slice (some ⟨b0, o0, none⟩) (L.length + 1) cap)]) (fun φ8 => [((φ1 0), .cells #[.bool false, .pointer none] 26)]) (fun φ8 => []) s trivial (fun φ8 => by kernel_rfl) ?_
    intro φ8 w8 s
    refine sem_rule (Instr.indexAt 30 (.slice (some ⟨b0, o0, none⟩) (L.length + 1) cap) (.int .i64 (((0 : Nat) : Nat) : Int))) (some 40) (.pointer (pAt (some ⟨b0, o0, none⟩) 0)) (by kernel_rfl) (csl_idx hv (by simp only [List.length_cons]; omega)) ?_
    refine sem_rule (Instr.loadAt 35 (.pointer (pAt (some ⟨b0, o0, none⟩) 0))) (some 41) (.complex .f64 (dF a) (dF (2 ^ k))) (by kernel_rfl) (csl_ld (i := 0) s.sub hv rfl) ?_
    refine ops_rule (C := []) [((φ1 0), .cells #[.bool false, .pointer none] 26)] [] 2 [] 0 (fun φ9 => [(43, .float .f64 (dF (2 ^ k))), (42, .float .f64 (dF a))]) (fun φ9 => [((φ1 0), .cells #[.bool false, .pointer none] 26)]) (fun φ9 => []) s trivial (fun φ9 => by kernel_rfl) ?_
    intro φ9 w9 s
    refine sem_rule (Builtin.complex_ #[37, 37] 35 #[.float .f64 (dF a), .float .f64 (dF (2 ^ k))]) (some 44) (.complex .f64 (dF a) (dF (2 ^ k))) (by kernel_rfl) ((by kernel_rfl : ((Builtin.complex_ #[37, 37] 35 #[.float .f64 (dF a), .float .f64 (dF (2 ^ k))]) : Sem Value).run Try.prog w9 = .ok (.complex .f64 (dF a) (dF (2 ^ k))) w9)) ?_
    refine sem_rule (binOp .eql 35 (.complex .f64 (dF a) (dF (2 ^ k))) (.complex .f64 (dF a) (dF (2 ^ k)))) (some 45) (.bool true) (by kernel_rfl) (run_eqC2 (by omega) (by omega)) ?_
    refine ops_done (by kernel_rfl) ?_
    refine cond_true_rule (b := true) (by kernel_rfl) rfl ?_
    refine wp_seq ?_
    refine draw_rule (C := []) ⟨(fun φ10 xs10 => [.call 27 #[], .look 0 [] [], .ran (Instr.sliceAt 30 (.slice (some ⟨b0, o0, none⟩) (L.length + 1) cap) (some (.int .i64 1)) none none), .store 0 [.o 0, .o 0] [(φ1 0), (φ1 0)], .look 1 [] []]), (fun φ10 xs10 => [.agg #[.bool true, .pointer none], .slice (some ⟨b0, o0, none⟩) (L.length + 1) cap, .slice (if cap = 1 then some ⟨b0, o0, none⟩ else some ⟨b0, o0 + 1, none⟩) L.length (cap - 1), undef, .slice (if cap = 1 then some ⟨b0, o0, none⟩ else some ⟨b0, o0 + 1, none⟩) L.length (cap - 1)]), (fun φ10 xs10 => [[((φ1 0), .cells #[.bool false, .pointer none] 26)], [((φ1 0), .cells #[.bool true, .pointer none] 26)]]), (fun φ10 xs10 => [[default, default, default, default, default], [default, default, default, default, default]]), [3], [3, 1, 6, 4, 1]⟩ (fun j => ([MP.any, MP.any, MP.any, MP.any, MP.any] : List MP).getD j MP.any) [0] [] [2] (fun φ10 xs10 => [[none, none, none, none, none]]) (fun φ10 xs10 => [(46, .agg #[.bool true, .pointer none]), (47, .slice (some ⟨b0, o0, none⟩) (L.length + 1) cap), (48, .slice (if cap = 1 then some ⟨b0, o0, none⟩ else some ⟨b0, o0 + 1, none⟩) L.length (cap - 1)), (9, .slice (if cap = 1 then some ⟨b0, o0, none⟩ else some ⟨b0, o0 + 1, none⟩) L.length (cap - 1))]) (fun φ10 xs10 => [((φ1 0), .cells #[.bool true, .pointer none] 26)]) s trivial (by kernel_rfl) (by kernel_rfl) (fun _ _ => by kernel_rfl) (fun _ _ => by kernel_rfl) ⟨fun _ _ => by kernel_rfl, fun _ _ => by kernel_rfl, fun _ _ => by kernel_rfl, fun _ _ => by kernel_rfl⟩ (fun _ _ _ => by kernel_rfl) (fun _ _ => by kernel_rfl) (fun _ _ => by kernel_rfl) (fun _ _ => by kernel_rfl) (fun _ _ => by kernel_rfl) (fun _ _ => by kernel_rfl) trivial ⟨kcast (A := ∀ (φ10 : Nat → Nat) (xs10 : Xs) (J : IM) (w : World), I.Le J → J.Sub w → ((Instr.sliceAt 30 (.slice (some ⟨b0, o0, none⟩) (L.length + 1) cap) (some (.int .i64 1)) none none) : Sem Value).run Try.prog w = .ok (.slice (if cap = 1 then some ⟨b0, o0, none⟩ else some ⟨b0, o0 + 1, none⟩) L.length (cap - 1)) w) (by kernel_rfl) (fun φ10 xs10 J w hJ hS => run_rest30 hcap), trivial⟩ (by kernel_rfl) ⟨?c10_0, trivial⟩ ?k10
    case c10_0 =>
      refine kcast (A := ∀ (φ10 : Nat → Nat) (xs10 : Xs) (J0_10 : IM), I.Le J0_10 → Fun Try.prog 27 #[] J0_10 (fun v J' => ∃ x : UX, v = .agg #[.bool true, .pointer none] ∧ (True))) (by kernel_rfl) ?_
      intro φ10 xs10 J0_10 leJ
      exact Fun.mono (tone_c) (fun v J' _ h => ⟨UX.d, h, trivial⟩)
    case k10 =>
      rintro φ10 xs10 I10 w10 le10 s _
      replace hv := CSl.mono le10 hv
      replace hrest := CSl.mono le10 hrest
      refine wp_ret ?_
      refine ret_rule (C := []) [((φ1 0), .cells #[.bool true, .pointer none] 26)] [] (.tuple #[.agg #[.bool true, .pointer none], .slice (if cap = 1 then some ⟨b0, o0, none⟩ else some ⟨b0, o0 + 1, none⟩) L.length (cap - 1)]) [.o 0, .o 0] [(φ1 0), (φ1 0)] s trivial (by kernel_rfl) ?_
      exact ⟨_, _, _, rfl, s, ⟨_, _, _, rfl, (TRep.o _), hrest⟩⟩

set_option maxHeartbeats 1000000 in
theorem bd_node {I : IM} {a k d : Nat} {L M R : List (Nat × Nat)} {y : Nat × Nat} {l r : T} {v : Value} (hv : CSl I (y :: L) v) (hk : 2 * 2 ^ k ≤ 65536) (ha : a + 2 * 2 ^ k ≤ 65536) (h1 : a ≤ y.1) (h2 : y.1 < a + 2 * 2 ^ k) (h3 : y.2 < 2 * 2 ^ k) (hd : d ≤ 15) (hpd : (T.mk l r).depth ≤ 16) (hdl : l.depth ≤ 16) (hdr : r.depth ≤ 16) (ihl : ∀ {J : IM} {v : Value}, CSl J (y :: L) v → Fun Try.prog 34 #[v, .float .f64 (dF a), .float .f64 (dF (2 ^ k)), .int .i64 ((d + 1 : Nat) : Int)] J (fun v J => ∃ b p v2, v = .tuple #[idv b p, v2] ∧ TRep J l b p ∧ CSl J M v2)) (ihr : ∀ {J : IM} {v : Value}, CSl J M v → Fun Try.prog 34 #[v, .float .f64 (dF (a + 2 ^ k)), .float .f64 (dF (2 ^ k)), .int .i64 ((d + 1 : Nat) : Int)] J (fun v J => ∃ b p v2, v = .tuple #[idv b p, v2] ∧ TRep J r b p ∧ CSl J R v2)) : Fun Try.prog 34 #[v, .float .f64 (dF a), .float .f64 (dF (2 * 2 ^ k)), .int .i64 ((d : Nat) : Int)] I (fun v J => ∃ b p v2, v = .tuple #[idv b p, v2] ∧ TRep J (T.mk l r) b p ∧ CSl J R v2) := by
  have hv9 := hv
  obtain ⟨b0, o0, cap, rfl, hcap, hrest⟩ := csl_cons hv9
  clear hv9
  refine enter_rule 83 [(0, .slice (some ⟨b0, o0, none⟩) (L.length + 1) cap), (1, .float .f64 (dF a)), (2, .float .f64 (dF (2 * 2 ^ k))), (3, .int .i64 ((d : Nat) : Int))] Try.func34 rfl (by kernel_rfl) ?_
  intro w s
  refine wp_seq ?_
  refine region_rule ?_
  refine ops_rule (C := []) [] [] 2 [] 1 (fun φ1 => [(9, .slice none 0 0), (8, .pointer (some ⟨(φ1 0), 0, none⟩))]) (fun φ1 => [((φ1 0), .cells #[.bool false, .pointer none] 26)]) (fun φ1 => []) s trivial (fun φ1 => by kernel_rfl) ?_
  intro φ1 w1 s
  refine ops_done (by kernel_rfl) ?_
  refine wp_seq ?_
  refine wp_seq ?_
  refine region_rule ?_
  refine ops_rule (C := []) [((φ1 0), .cells #[.bool false, .pointer none] 26)] [] 4 [] 0 (fun φ2 => [(18, .bool ((((L.length + 1) : Nat) : Int) == ((0 : Nat) : Int))), (17, .bool ((((L.length + 1) : Nat) : Int) == ((0 : Nat) : Int))), (16, .int .i64 (((L.length + 1) : Nat) : Int)), (15, .slice (some ⟨b0, o0, none⟩) (L.length + 1) cap)]) (fun φ2 => [((φ1 0), .cells #[.bool false, .pointer none] 26)]) (fun φ2 => []) s trivial (fun φ2 => by kernel_rfl) ?_
  intro φ2 w2 s
  rw [nat_eql (a := (L.length + 1)) (b := 0)]
  rcases Bool.eq_false_or_eq_true (decide ((L.length + 1) = 0)) with hc3 | hc3
  ·
    exact absurd (of_decide_eq_true hc3) (by omega)
  ·
    rw [hc3]
    refine ops_rule (C := []) [((φ1 0), .cells #[.bool false, .pointer none] 26)] [] 2 [] 0 (fun φ4 => [(20, .slice (some ⟨b0, o0, none⟩) (L.length + 1) cap), (19, .float .f64 (dF a))]) (fun φ4 => [((φ1 0), .cells #[.bool false, .pointer none] 26)]) (fun φ4 => []) s trivial (fun φ4 => by kernel_rfl) ?_
    intro φ4 w4 s
    refine sem_rule (Instr.indexAt 30 (.slice (some ⟨b0, o0, none⟩) (L.length + 1) cap) (.int .i64 (((0 : Nat) : Nat) : Int))) (some 21) (.pointer (pAt (some ⟨b0, o0, none⟩) 0)) (by kernel_rfl) (csl_idx hv (by simp only [List.length_cons]; omega)) ?_
    refine sem_rule (Instr.loadAt 35 (.pointer (pAt (some ⟨b0, o0, none⟩) 0))) (some 22) (.complex .f64 (dF y.1) (dF y.2)) (by kernel_rfl) (csl_ld (i := 0) s.sub hv rfl) ?_
    refine sem_rule (Builtin.real_ #[35] 37 #[.complex .f64 (dF y.1) (dF y.2)]) (some 23) (.float .f64 (dF y.1)) (by kernel_rfl) ((by kernel_rfl : ((Builtin.real_ #[35] 37 #[.complex .f64 (dF y.1) (dF y.2)]) : Sem Value).run Try.prog w4 = .ok (.float .f64 (dF y.1)) w4)) ?_
    refine sem_rule (binOp .leq 37 (.float .f64 (dF a)) (.float .f64 (dF y.1))) (some 24) (.bool true) (by kernel_rfl) (run_leFT (by omega) (by omega) (by omega)) ?_
    refine ops_rule (C := []) [((φ1 0), .cells #[.bool false, .pointer none] 26)] [] 2 [] 0 (fun φ5 => [(26, .slice (some ⟨b0, o0, none⟩) (L.length + 1) cap), (25, .bool true)]) (fun φ5 => [((φ1 0), .cells #[.bool false, .pointer none] 26)]) (fun φ5 => []) s trivial (fun φ5 => by kernel_rfl) ?_
    intro φ5 w5 s
    refine sem_rule (Instr.indexAt 30 (.slice (some ⟨b0, o0, none⟩) (L.length + 1) cap) (.int .i64 (((0 : Nat) : Nat) : Int))) (some 27) (.pointer (pAt (some ⟨b0, o0, none⟩) 0)) (by kernel_rfl) (csl_idx hv (by simp only [List.length_cons]; omega)) ?_
    refine sem_rule (Instr.loadAt 35 (.pointer (pAt (some ⟨b0, o0, none⟩) 0))) (some 28) (.complex .f64 (dF y.1) (dF y.2)) (by kernel_rfl) (csl_ld (i := 0) s.sub hv rfl) ?_
    refine sem_rule (Builtin.real_ #[35] 37 #[.complex .f64 (dF y.1) (dF y.2)]) (some 29) (.float .f64 (dF y.1)) (by kernel_rfl) ((by kernel_rfl : ((Builtin.real_ #[35] 37 #[.complex .f64 (dF y.1) (dF y.2)]) : Sem Value).run Try.prog w5 = .ok (.float .f64 (dF y.1)) w5)) ?_
    refine ops_rule (C := []) [((φ1 0), .cells #[.bool false, .pointer none] 26)] [] 2 [] 0 (fun φ6 => [(31, .float .f64 (dF (2 * 2 ^ k))), (30, .float .f64 (dF a))]) (fun φ6 => [((φ1 0), .cells #[.bool false, .pointer none] 26)]) (fun φ6 => []) s trivial (fun φ6 => by kernel_rfl) ?_
    intro φ6 w6 s
    refine sem_rule (binOp .add 37 (.float .f64 (dF a)) (.float .f64 (dF (2 * 2 ^ k)))) (some 32) (.float .f64 (dF (a + (2 * 2 ^ k)))) (by kernel_rfl) (run_addF (by have hq0 := of_decide_eq_false hc3;  omega)) ?_
    refine sem_rule (binOp .lss 37 (.float .f64 (dF y.1)) (.float .f64 (dF (a + (2 * 2 ^ k))))) (some 33) (.bool true) (by kernel_rfl) (run_ltFT (by omega) (by omega) (by omega)) ?_
    refine ops_rule (C := []) [((φ1 0), .cells #[.bool false, .pointer none] 26)] [] 3 [] 0 (fun φ7 => [(36, .bool false), (35, .bool false), (34, .bool true)]) (fun φ7 => [((φ1 0), .cells #[.bool false, .pointer none] 26)]) (fun φ7 => []) s trivial (fun φ7 => by kernel_rfl) ?_
    intro φ7 w7 s
    refine ops_done (by kernel_rfl) ?_
    refine cond_false_rule (b := false) (by kernel_rfl) rfl ?_
    refine wp_skip ?_
    refine wp_seq ?_
    refine wp_seq ?_
    refine region_rule ?_
    refine ops_rule (C := []) [((φ1 0), .cells #[.bool false, .pointer none] 26)] [] 1 [] 0 (fun φ8 => [(39, .slice (some ⟨b0, o0, none⟩) (L.length + 1) cap)]) (fun φ8 => [((φ1 0), .cells #[.bool false, .pointer none] 26)]) (fun φ8 => []) s trivial (fun φ8 => by kernel_rfl) ?_
    intro φ8 w8 s
    refine sem_rule (Instr.indexAt 30 (.slice (some ⟨b0, o0, none⟩) (L.length + 1) cap) (.int .i64 (((0 : Nat) : Nat) : Int))) (some 40) (.pointer (pAt (some ⟨b0, o0, none⟩) 0)) (by kernel_rfl) (csl_idx hv (by simp only [List.length_cons]; omega)) ?_
    refine sem_rule (Instr.loadAt 35 (.pointer (pAt (some ⟨b0, o0, none⟩) 0))) (some 41) (.complex .f64 (dF y.1) (dF y.2)) (by kernel_rfl) (csl_ld (i := 0) s.sub hv rfl) ?_
    refine ops_rule (C := []) [((φ1 0), .cells #[.bool false, .pointer none] 26)] [] 2 [] 0 (fun φ9 => [(43, .float .f64 (dF (2 * 2 ^ k))), (42, .float .f64 (dF a))]) (fun φ9 => [((φ1 0), .cells #[.bool false, .pointer none] 26)]) (fun φ9 => []) s trivial (fun φ9 => by kernel_rfl) ?_
    intro φ9 w9 s
    refine sem_rule (Builtin.complex_ #[37, 37] 35 #[.float .f64 (dF a), .float .f64 (dF (2 * 2 ^ k))]) (some 44) (.complex .f64 (dF a) (dF (2 * 2 ^ k))) (by kernel_rfl) ((by kernel_rfl : ((Builtin.complex_ #[37, 37] 35 #[.float .f64 (dF a), .float .f64 (dF (2 * 2 ^ k))]) : Sem Value).run Try.prog w9 = .ok (.complex .f64 (dF a) (dF (2 * 2 ^ k))) w9)) ?_
    refine sem_rule (binOp .eql 35 (.complex .f64 (dF y.1) (dF y.2)) (.complex .f64 (dF a) (dF (2 * 2 ^ k)))) (some 45) (.bool false) (by kernel_rfl) (run_eqCF (by omega) (by omega) (by omega) (by omega) (by omega)) ?_
    refine ops_done (by kernel_rfl) ?_
    refine cond_false_rule (b := false) (by kernel_rfl) rfl ?_
    refine wp_skip ?_
    refine wp_seq ?_
    refine wp_seq ?_
    refine region_rule ?_
    refine ops_rule (C := []) [((φ1 0), .cells #[.bool false, .pointer none] 26)] [] 2 [] 0 (fun φ10 => [(50, .bool (((d : Nat) : Int) == ((16 : Nat) : Int))), (49, .int .i64 ((d : Nat) : Int))]) (fun φ10 => [((φ1 0), .cells #[.bool false, .pointer none] 26)]) (fun φ10 => []) s trivial (fun φ10 => by kernel_rfl) ?_
    intro φ10 w10 s
    rw [nat_eql (a := d) (b := 16)]
    refine ops_done (by kernel_rfl) ?_
    rcases Bool.eq_false_or_eq_true (decide (d = 16)) with hc11 | hc11
    ·
      exact absurd (of_decide_eq_true hc11) (by omega)
    ·
      rw [hc11]
      refine cond_false_rule (b := false) (by kernel_rfl) rfl ?_
      refine wp_skip ?_
      refine wp_seq ?_
      refine region_rule ?_
      refine ops_rule (C := []) [((φ1 0), .cells #[.bool false, .pointer none] 26)] [] 1 [] 0 (fun φ12 => [(53, .float .f64 (dF (2 * 2 ^ k)))]) (fun φ12 => [((φ1 0), .cells #[.bool false, .pointer none] 26)]) (fun φ12 => []) s trivial (fun φ12 => by kernel_rfl) ?_
      intro φ12 w12 s
      refine sem_rule (binOp .quo 37 (.float .f64 (dF (2 * 2 ^ k))) (.float .f64 4611686018427387904)) (some 54) (.float .f64 (dF (2 ^ k))) (by kernel_rfl) (run_halfF (by have hq0 := of_decide_eq_false hc3; have hq1 := of_decide_eq_false hc11;  omega)) ?_
      refine ops_rule (C := []) [((φ1 0), .cells #[.bool false, .pointer none] 26)] [] 1 [] 0 (fun φ13 => [(10, .float .f64 (dF (2 ^ k)))]) (fun φ13 => [((φ1 0), .cells #[.bool false, .pointer none] 26)]) (fun φ13 => []) s trivial (fun φ13 => by kernel_rfl) ?_
      intro φ13 w13 s
      refine ops_done (by kernel_rfl) ?_
      refine wp_seq ?_
      refine region_rule ?_
      refine ops_rule (C := []) [((φ1 0), .cells #[.bool false, .pointer none] 26)] [] 5 [] 0 (fun φ14 => [(60, .int .i64 (IntKind.wrap .i64 (((d : Nat) : Int) + ((1 : Nat) : Int)))), (59, .int .i64 ((d : Nat) : Int)), (58, .float .f64 (dF (2 ^ k))), (57, .float .f64 (dF a)), (56, .slice (some ⟨b0, o0, none⟩) (L.length + 1) cap)]) (fun φ14 => [((φ1 0), .cells #[.bool false, .pointer none] 26)]) (fun φ14 => []) s trivial (fun φ14 => by kernel_rfl) ?_
      intro φ14 w14 s
      rw [nat_addI (a := d) (b := 1) (by omega)]
      refine call_rule (some 61) s (ihl hv) (by kernel_rfl) ?_
      intro v15 I15 w15 le15 h15 s
      replace hv := CSl.mono le15 hv
      replace hrest := CSl.mono le15 hrest
      obtain ⟨b15, p15, v15, rfl, h15_0, h15_1⟩ := h15
      refine ops_rule (C := []) [((φ1 0), .cells #[.bool false, .pointer none] 26)] [] 6 [.o 1, .o 1] 1 (fun φ16 => [(0, v15), (11, .pointer (some ⟨(φ16 0), 0, none⟩)), (63, v15), (62, .agg #[.bool b15, .pointer p15]), (55, .tuple #[.agg #[.bool b15, .pointer p15], v15])]) (fun φ16 => [((φ1 0), .cells #[.bool false, .pointer none] 26), ((φ16 0), .cells #[.bool b15, .pointer p15] 26)]) (fun φ16 => [(φ16 0), (φ16 0)]) s trivial (fun φ16 => by kernel_rfl) ?_
      intro φ16 w16 s
      refine ops_done (by kernel_rfl) ?_
      refine wp_seq ?_
      refine region_rule ?_
      refine ops_rule (C := []) [((φ1 0), .cells #[.bool false, .pointer none] 26), ((φ16 0), .cells #[.bool b15, .pointer p15] 26)] [] 3 [] 0 (fun φ17 => [(67, .float .f64 (dF (2 ^ k))), (66, .float .f64 (dF a)), (65, v15)]) (fun φ17 => [((φ1 0), .cells #[.bool false, .pointer none] 26), ((φ16 0), .cells #[.bool b15, .pointer p15] 26)]) (fun φ17 => []) s trivial (fun φ17 => by kernel_rfl) ?_
      intro φ17 w17 s
      refine sem_rule (binOp .add 37 (.float .f64 (dF a)) (.float .f64 (dF (2 ^ k)))) (some 68) (.float .f64 (dF (a + (2 ^ k)))) (by kernel_rfl) (run_addF (by have hq0 := of_decide_eq_false hc3; have hq1 := of_decide_eq_false hc11;  omega)) ?_
      refine ops_rule (C := []) [((φ1 0), .cells #[.bool false, .pointer none] 26), ((φ16 0), .cells #[.bool b15, .pointer p15] 26)] [] 3 [] 0 (fun φ18 => [(71, .int .i64 (IntKind.wrap .i64 (((d : Nat) : Int) + ((1 : Nat) : Int)))), (70, .int .i64 ((d : Nat) : Int)), (69, .float .f64 (dF (2 ^ k)))]) (fun φ18 => [((φ1 0), .cells #[.bool false, .pointer none] 26), ((φ16 0), .cells #[.bool b15, .pointer p15] 26)]) (fun φ18 => []) s trivial (fun φ18 => by kernel_rfl) ?_
      intro φ18 w18 s
      rw [nat_addI (a := d) (b := 1) (by omega)]
      refine call_rule (some 72) s (ihr h15_1) (by kernel_rfl) ?_
      intro v19 I19 w19 le19 h19 s
      replace hv := CSl.mono le19 hv
      replace hrest := CSl.mono le19 hrest
      replace h15_0 := TRep.mono le19 h15_0
      replace h15_1 := CSl.mono le19 h15_1
      obtain ⟨b19, p19, v19, rfl, h19_0, h19_1⟩ := h19
      refine ops_rule (C := []) [((φ1 0), .cells #[.bool false, .pointer none] 26), ((φ16 0), .cells #[.bool b15, .pointer p15] 26)] [] 6 [.o 2, .o 2] 1 (fun φ20 => [(0, v19), (12, .pointer (some ⟨(φ20 0), 0, none⟩)), (74, v19), (73, .agg #[.bool b19, .pointer p19]), (64, .tuple #[.agg #[.bool b19, .pointer p19], v19])]) (fun φ20 => [((φ1 0), .cells #[.bool false, .pointer none] 26), ((φ16 0), .cells #[.bool b15, .pointer p15] 26), ((φ20 0), .cells #[.bool b19, .pointer p19] 26)]) (fun φ20 => [(φ20 0), (φ20 0)]) s trivial (fun φ20 => by kernel_rfl) ?_
      intro φ20 w20 s
      refine ops_done (by kernel_rfl) ?_
      refine wp_seq ?_
      refine region_rule ?_
      refine ops_rule (C := []) [((φ1 0), .cells #[.bool false, .pointer none] 26), ((φ16 0), .cells #[.bool b15, .pointer p15] 26), ((φ20 0), .cells #[.bool b19, .pointer p19] 26)] [] 2 [.o 1, .o 1, .o 2, .o 2] 0 (fun φ21 => [(77, .agg #[.bool b19, .pointer p19]), (76, .agg #[.bool b15, .pointer p15])]) (fun φ21 => [((φ1 0), .cells #[.bool false, .pointer none] 26), ((φ16 0), .cells #[.bool b15, .pointer p15] 26), ((φ20 0), .cells #[.bool b19, .pointer p19] 26)]) (fun φ21 => [(φ16 0), (φ16 0), (φ20 0), (φ20 0)]) s trivial (fun φ21 => by kernel_rfl) ?_
      intro φ21 w21 s
      refine call_rule (some 78) s (pairOk_c h15_0 h19_0 hpd (by omega) (by omega)) (by kernel_rfl) ?_
      intro v22 I22 w22 le22 h22 s
      replace hv := CSl.mono le22 hv
      replace hrest := CSl.mono le22 hrest
      replace h15_0 := TRep.mono le22 h15_0
      replace h15_1 := CSl.mono le22 h15_1
      replace h19_0 := TRep.mono le22 h19_0
      replace h19_1 := CSl.mono le22 h19_1
      obtain ⟨b22, p22, rfl, h22_0⟩ := h22
      refine ops_rule (C := []) [((φ1 0), .cells #[.bool false, .pointer none] 26), ((φ16 0), .cells #[.bool b15, .pointer p15] 26), ((φ20 0), .cells #[.bool b19, .pointer p19] 26)] [] 6 [.o 3, .o 3] 1 (fun φ23 => [(14, .int .i64 0), (13, .pointer (some ⟨(φ23 0), 0, none⟩)), (80, .int .i64 0), (79, .agg #[.bool b22, .pointer p22]), (75, .tuple #[.agg #[.bool b22, .pointer p22], .int .i64 0])]) (fun φ23 => [((φ1 0), .cells #[.bool false, .pointer none] 26), ((φ16 0), .cells #[.bool b15, .pointer p15] 26), ((φ20 0), .cells #[.bool b19, .pointer p19] 26), ((φ23 0), .cells #[.bool b22, .pointer p22] 26)]) (fun φ23 => [(φ23 0), (φ23 0)]) s trivial (fun φ23 => by kernel_rfl) ?_
      intro φ23 w23 s
      refine ops_done (by kernel_rfl) ?_
      refine wp_seq ?_
      refine region_rule ?_
      refine ops_rule (C := []) [((φ1 0), .cells #[.bool false, .pointer none] 26), ((φ16 0), .cells #[.bool b15, .pointer p15] 26), ((φ20 0), .cells #[.bool b19, .pointer p19] 26), ((φ23 0), .cells #[.bool b22, .pointer p22] 26)] [] 4 [.o 3, .o 3, .o 0, .o 0] 0 (fun φ24 => [(9, v19), (82, v19), (81, .agg #[.bool b22, .pointer p22])]) (fun φ24 => [((φ1 0), .cells #[.bool b22, .pointer p22] 26), ((φ16 0), .cells #[.bool b15, .pointer p15] 26), ((φ20 0), .cells #[.bool b19, .pointer p19] 26), ((φ23 0), .cells #[.bool b22, .pointer p22] 26)]) (fun φ24 => [(φ23 0), (φ23 0), (φ1 0), (φ1 0)]) s trivial (fun φ24 => by kernel_rfl) ?_
      intro φ24 w24 s
      refine ops_done (by kernel_rfl) ?_
      refine wp_ret ?_
      refine ret_rule (C := []) [((φ1 0), .cells #[.bool b22, .pointer p22] 26), ((φ16 0), .cells #[.bool b15, .pointer p15] 26), ((φ20 0), .cells #[.bool b19, .pointer p19] 26), ((φ23 0), .cells #[.bool b22, .pointer p22] 26)] [] (.tuple #[.agg #[.bool b22, .pointer p22], v19]) [.o 0, .o 0] [(φ1 0), (φ1 0)] s trivial (by kernel_rfl) ?_
      exact ⟨_, _, _, rfl, s, ⟨_, _, _, rfl, h22_0, h19_1⟩⟩

def ahead (x : Nat) : List (Nat × Nat) → Prop
  | [] => True
  | s :: _ => x ≤ s.1 ∧ s.1 ≤ 65536 ∧ s.2 ≤ 65536
set_option maxHeartbeats 2000000 in
theorem build_c : ∀ (t : T) (R : List (Nat × Nat)) {I : IM} {a k d : Nat} {v : Value}, t.nf → t.depth ≤ k → d + k = 16 → a + 2 ^ k ≤ 65536 → ahead (a + 2 ^ k) R → CSl I (spT t a k ++ R) v →
    Fun Try.prog 34 #[v, .float .f64 (dF a), .float .f64 (dF (2 ^ k)), .int .i64 ((d : Nat) : Int)] I (fun v J => ∃ b p v2, v = .tuple #[idv b p, v2] ∧ TRep J t b p ∧ CSl J R v2)
  | .zero, [], _, a, k, d, _, _, _, hdk, ha, hR, hv => by
    obtain ⟨a0, c0, rfl, -, hv⟩ := hv.open
    exact bd_nil hv
  | .zero, s :: R, _, a, k, d, _, _, _, hdk, ha, hR, hv => bd_zero hv (by omega) ha hR.1 hR.2.1 hR.2.2
  | .one, R, _, a, k, d, _, _, _, hdk, ha, hR, hv => bd_one hv (by omega) ha
  | .node l r, R, _, a, 0, d, _, _, hd, hdk, ha, hR, hv => by simp only [T.depth] at hd; omega
  | .node l r, R, _, a, k + 1, d, v, hn, hd, hdk, ha, hR, hv => by
    obtain ⟨s, L, e, h1, h2, h3, h5⟩ := sp_head (a := a) hn rfl hd
    have e2 : spT (T.node l r) a (k + 1) ++ R = spT l a k ++ (spT r (a + 2 ^ k) k ++ R) := by simp only [spT, Nat.add_sub_cancel, List.append_assoc]
    have hm : T.mk l r = .node l r := hn.2.2
    have h4 := h3 rfl
    rw [Nat.pow_succ'] at h2 h4 ha hR ⊢
    have hd9 := hd
    simp only [T.depth] at hd
    have hp := Nat.two_pow_pos k
    have hR2 : ahead (a + 2 ^ k) (spT r (a + 2 ^ k) k ++ R) := by
      by_cases z : r.isZero = true
      · have : r = .zero := isZero_eq z
        subst this
        show ahead (a + 2 ^ k) R
        cases R with
        | nil => trivial
        | cons x R => exact ⟨by have := hR.1; omega, hR.2⟩
      · obtain ⟨x, L2, q, q1, q2, q3, q4⟩ := sp_head (a := a + 2 ^ k) (k := k) hn.2.1 (by simpa using z) (by omega)
        rw [q]
        exact ⟨q1, by omega, by omega⟩
    have hsL : s :: (L ++ R) = spT l a k ++ (spT r (a + 2 ^ k) k ++ R) := by rw [← e2, e]; rfl
    rw [e2, ← hsL] at hv
    have hd15 : d ≤ 15 := by omega
    have hdk2 : d + 1 + k = 16 := by omega
    have hk2 : 2 * 2 ^ k ≤ 65536 := by omega
    have := bd_node (d := d) (k := k) (a := a) (l := l) (r := r) (M := spT r (a + 2 ^ k) k ++ R) (R := R) hv hk2 ha h1 h2 h4 hd15 (by rw [hm]; simp only [T.depth]; omega) (by omega) (by omega)
      (fun h => build_c l (spT r (a + 2 ^ k) k ++ R) (a := a) (k := k) (d := d + 1) hn.1 (by omega) hdk2 (by omega) hR2 (by rw [← hsL]; exact h))
      (fun h => build_c r R (a := a + 2 ^ k) (k := k) (d := d + 1) hn.2.1 (by omega) hdk2 (by omega) (by rw [show a + 2 ^ k + 2 ^ k = a + 2 * 2 ^ k by omega]; exact hR) h)
    rw [hm] at this
    exact this
theorem build0_c {t : T} {I : IM} {v : Value} (hn : t.nf) (hd : t.depth ≤ 16) (hv : CSl I (spT t 0 16) v) : Fun Try.prog 34 #[v, .float .f64 0, .float .f64 4607182418800017408, .int .i64 0] I (fun v J => ∃ b p v2, v = .tuple #[idv b p, v2] ∧ TRep J t b p ∧ CSl J [] v2) := by
  have h := build_c t [] (a := 0) (k := 16) (d := 0) (I := I) (v := v) hn hd rfl (by decide) trivial (by rw [List.append_nil]; exact hv)
  rw [dF_zero, show dF (2 ^ 16) = 4607182418800017408 from dF_one] at h
  exact h

end Go.Proofs.Ytgdickihjaomjaa.Ev
/- share: spans, the law -/
set_option linter.all false
set_option maxRecDepth 100000
namespace Go.Proofs.Ytgdickihjaomjaa.Ev
open Go.RowKit Go.Sep
attribute [local irreducible] Go.wpList Go.Code.wp
theorem sameSelf_c {I : IM} {A : T} {ba bb : Bool} {pa pb : Option Addr} (hA : TRep I A ba pa) (hB : TRep I A bb pb) : Fun Try.prog 14 #[idv ba pa, idv bb pb] I (fun v J => v = .bool true) := by
  have e := idsame_c hA hB
  rw [cover_self] at e
  exact e
theorem sps_some {I : IM} {L : List (Nat × Nat)} {a : Option Addr} {n c i : Nat} (h : SpS I L (.slice a n c)) (hi : i < L.length) : ∃ b cs T fr, a = some ⟨b, 0, none⟩ ∧ I b = some (.cells cs T fr) ∧ cs[i * 2]? = some (.int .u64 (((L.getD i (0, 0)).1 : Nat) : Int)) ∧ cs[i * 2 + 1]? = some (.int .u64 (((L.getD i (0, 0)).2 : Nat) : Int)) := by
  obtain ⟨a', c', hv, hc, hr⟩ := h
  cases hv
  obtain ⟨b, cs, T, fr, rfl, h2, h3⟩ := hr _ _ (sps_at hi).1
  obtain ⟨b', cs', T', fr', e1, e2, h4⟩ := hr _ _ (sps_at hi).2
  cases e1
  rw [h2] at e2
  cases e2
  exact ⟨b, cs, T, fr, rfl, h2, h3, h4⟩
theorem run_fldA {w : World} {b q : Nat} : (Instr.fieldAt 39 (.pointer (some ⟨b, q, none⟩)) 0).run Try.prog w = .ok (.pointer (some ⟨b, q, none⟩)) w := by kernel_rfl
theorem run_fldB {w : World} {b q : Nat} : (Instr.fieldAt 39 (.pointer (some ⟨b, q, none⟩)) 1).run Try.prog w = .ok (.pointer (some ⟨b, q + 1, none⟩)) w := by kernel_rfl
theorem run_fld0 {I : IM} {w : World} {L : List (Nat × Nat)} {a : Option Addr} {n c i : Nat} (h : SpS I L (.slice a n c)) (hi : i < L.length) : (Instr.fieldAt 39 (.pointer (pAt a (i * 2))) 0).run Try.prog w = .ok (.pointer (pAt a (i * 2))) w := by
  obtain ⟨b, cs, T, fr, rfl, -⟩ := sps_some h hi
  rw [pAt_g]; exact run_fldA
theorem run_fld1 {I : IM} {w : World} {L : List (Nat × Nat)} {a : Option Addr} {n c i : Nat} (h : SpS I L (.slice a n c)) (hi : i < L.length) : (Instr.fieldAt 39 (.pointer (pAt a (i * 2))) 1).run Try.prog w = .ok (.pointer (pAt a (i * 2 + 1))) w := by
  obtain ⟨b, cs, T, fr, rfl, -⟩ := sps_some h hi
  rw [pAt_g, pAt_g]; exact run_fldB
theorem run_ldA {w : World} {b q : Nat} {x : Value} (h : w.cell? ⟨b, q, none⟩ = some x) : (Instr.loadAt 34 (.pointer (some ⟨b, q, none⟩))).run Try.prog w = .ok x w := by
  have e : (Instr.loadAt 34 (.pointer (some ⟨b, q, none⟩))).run Try.prog w = (load ⟨b, q, none⟩).run Try.prog w := by kernel_rfl
  rw [e]; simp only [load, Sem.run, h]
theorem run_fl0 {I : IM} {w : World} (hS : I.Sub w) {L : List (Nat × Nat)} {a : Option Addr} {n c i : Nat} (h : SpS I L (.slice a n c)) (hi : i < L.length) : (Instr.loadAt 34 (.pointer (pAt a (i * 2)))).run Try.prog w = .ok (.int .u64 (((L.getD i (0, 0)).1 : Nat) : Int)) w := by
  obtain ⟨b, cs, T, fr, rfl, h2, h3, h4⟩ := sps_some h hi
  rw [pAt_g]
  exact run_ldA (by rw [run_cell (a := ⟨b, i * 2, none⟩) (hS _ _ h2) rfl rfl]; exact h3)
theorem run_fl1 {I : IM} {w : World} (hS : I.Sub w) {L : List (Nat × Nat)} {a : Option Addr} {n c i : Nat} (h : SpS I L (.slice a n c)) (hi : i < L.length) : (Instr.loadAt 34 (.pointer (pAt a (i * 2 + 1)))).run Try.prog w = .ok (.int .u64 (((L.getD i (0, 0)).2 : Nat) : Int)) w := by
  obtain ⟨b, cs, T, fr, rfl, h2, h3, h4⟩ := sps_some h hi
  rw [pAt_g]
  exact run_ldA (by rw [run_cell (a := ⟨b, i * 2 + 1, none⟩) (hS _ _ h2) rfl rfl]; exact h4)
theorem sp_bd {t : T} (hd : t.depth ≤ 16) (i : Nat) : ((spT t 0 16).getD i (0, 0)).1 ≤ 65536 ∧ ((spT t 0 16).getD i (0, 0)).2 ≤ 65536 := by
  by_cases h : i < (spT t 0 16).length
  · have hm : (spT t 0 16).getD i (0, 0) ∈ spT t 0 16 := by
      have e : (spT t 0 16).getD i (0, 0) = (spT t 0 16)[i] := by simp [h]
      rw [e]; exact List.getElem_mem h
    have := spT_in hd hm
    omega
  · simp [List.getD_eq_getElem?_getD, List.getElem?_eq_none (Nat.le_of_not_lt h)]

set_option maxHeartbeats 1000000 in
theorem equalC_c {I : IM} {L : List (Nat × Nat)} {a0 a1 : Option Addr} {c0 c1 : Nat} (h0 : CSl I L (.slice a0 L.length c0)) (h1 : CSl I L (.slice a1 L.length c1)) (hb9 : ∀ i, (L.getD i (0, 0)).1 ≤ 65536 ∧ (L.getD i (0, 0)).2 ≤ 65536) (hl9 : L.length ≤ 100000) : Fun Try.prog 35 #[.slice a0 L.length c0, .slice a1 L.length c1] I (fun v J => v = .bool true) := by
  refine enter_rule 26 [(0, .slice a0 L.length c0), (1, .slice a1 L.length c1)] Try.func35 rfl (by kernel_rfl) ?_
  intro w s
  refine wp_seq ?_
  refine region_rule ?_
  refine ops_rule (C := []) [] [] 1 [] 0 (fun φ1 => [(4, .bool false)]) (fun φ1 => []) (fun φ1 => []) s trivial (fun φ1 => by kernel_rfl) ?_
  intro φ1 w1 s
  refine ops_done (by kernel_rfl) ?_
  refine wp_seq ?_
  refine wp_seq ?_
  refine region_rule ?_
  refine ops_rule (C := []) [] [] 5 [] 0 (fun φ2 => [(10, .bool (((L.length : Nat) : Int) != ((L.length : Nat) : Int))), (9, .int .i64 ((L.length : Nat) : Int)), (8, .slice a1 L.length c1), (7, .int .i64 ((L.length : Nat) : Int)), (6, .slice a0 L.length c0)]) (fun φ2 => []) (fun φ2 => []) s trivial (fun φ2 => by kernel_rfl) ?_
  intro φ2 w2 s
  rw [(nat_neq (a := L.length) (b := L.length)).trans (decide_eq_false (fun q => q rfl))]
  refine ops_done (by kernel_rfl) ?_
  refine cond_false_rule (b := false) (by kernel_rfl) rfl ?_
  refine wp_skip ?_
  refine wp_seq ?_
  refine wp_seq ?_
  refine region_rule ?_
  refine ops_rule (C := []) [] [] 3 [] 0 (fun φ3 => [(13, .int .i64 0), (12, .int .i64 ((L.length : Nat) : Int)), (11, .slice a0 L.length c0)]) (fun φ3 => []) (fun φ3 => []) s trivial (fun φ3 => by kernel_rfl) ?_
  intro φ3 w3 s
  refine ops_done (by kernel_rfl) ?_
  refine wp_block ?_
  have hle4 := IM.Le.refl I
  refine loop_rule (fun (x : Nat) => [(0, .slice a0 L.length c0), (1, .slice a1 L.length c1), (4, .bool false), (11, .slice a0 L.length c0), (12, .int .i64 ((L.length : Nat) : Int)), (13, .int .i64 ((x : Nat) : Int))]) (fun (x : Nat) => []) (fun m (x : Nat) J => IM.Le I J ∧ x + m = L.length) (L.length) 0 s (by kernel_rfl) List.Sublist.slnil ⟨IM.Le.refl _, Nat.zero_add _⟩ ?_
  rintro m5 i5 I5 w5 ev5 s ⟨le5, hi5_0⟩
  try dsimp only at s hi5_0 ⊢
  replace h0 := CSl.mono le5 h0
  replace h1 := CSl.mono le5 h1
  replace hle4 := leMono le5 hle4
  refine wp_seq ?_
  refine region_rule ?_
  refine ops_rule (C := []) [] [] 1 [] 0 (fun φ6 => [(14, .bool (decide (((i5 : Nat) : Int) < ((L.length : Nat) : Int))))]) (fun φ6 => []) (fun φ6 => []) s trivial (fun φ6 => by kernel_rfl) ?_
  intro φ6 w6 s
  rw [nat_lss (a := i5) (b := L.length)]
  refine ops_done (by kernel_rfl) ?_
  refine wp_seq ?_
  rcases Bool.eq_false_or_eq_true (decide (i5 < L.length)) with hc7 | hc7
  ·
    rw [hc7]
    refine cond_true_rule (b := true) (by kernel_rfl) rfl ?_
    refine wp_skip ?_
    refine wp_seq ?_
    refine wp_block ?_
    refine wp_seq ?_
    refine region_rule ?_
    refine ops_rule (C := []) [] [] 2 [] 0 (fun φ8 => [(5, .int .i64 ((i5 : Nat) : Int)), (15, .int .i64 ((i5 : Nat) : Int))]) (fun φ8 => []) (fun φ8 => []) s trivial (fun φ8 => by kernel_rfl) ?_
    intro φ8 w8 s
    refine ops_done (by kernel_rfl) ?_
    refine wp_seq ?_
    refine draw_rule (C := []) ⟨(fun φ9 xs9 => [.look 0 [] [], .look 0 [] [], .ran (Instr.indexAt 30 (.slice a0 L.length c0) (.int .i64 ((i5 : Nat) : Int))), .ran (Instr.loadAt 35 (.pointer (pAt a0 i5))), .look 0 [] [], .look 0 [] [], .ran (Instr.indexAt 30 (.slice a1 L.length c1) (.int .i64 ((i5 : Nat) : Int))), .ran (Instr.loadAt 35 (.pointer (pAt a1 i5))), .ran (binOp .neq 35 (.complex .f64 (dF ((List.getD L i5 (0, 0)).1)) (dF ((List.getD L i5 (0, 0)).2))) (.complex .f64 (dF ((List.getD L i5 (0, 0)).1)) (dF ((List.getD L i5 (0, 0)).2))))]), (fun φ9 xs9 => [.slice a0 L.length c0, .int .i64 ((i5 : Nat) : Int), .pointer (pAt a0 i5), .complex .f64 (dF ((List.getD L i5 (0, 0)).1)) (dF ((List.getD L i5 (0, 0)).2)), .slice a1 L.length c1, .int .i64 ((i5 : Nat) : Int), .pointer (pAt a1 i5), .complex .f64 (dF ((List.getD L i5 (0, 0)).1)) (dF ((List.getD L i5 (0, 0)).2)), .bool false]), (fun φ9 xs9 => [[]]), (fun φ9 xs9 => [[default, default, default, default, default, default, default, default, default]]), [], [1, 1, 6, 6, 1, 1, 6, 6, 6]⟩ (fun j => ([MP.any, MP.any, MP.any, MP.any, MP.any, MP.any, MP.any, MP.any, MP.any] : List MP).getD j MP.any) [] [] [2, 3, 6, 7, 8] (fun φ9 xs9 => []) (fun φ9 xs9 => [(16, .slice a0 L.length c0), (17, .int .i64 ((i5 : Nat) : Int)), (18, .pointer (pAt a0 i5)), (19, .complex .f64 (dF ((List.getD L i5 (0, 0)).1)) (dF ((List.getD L i5 (0, 0)).2))), (20, .slice a1 L.length c1), (21, .int .i64 ((i5 : Nat) : Int)), (22, .pointer (pAt a1 i5)), (23, .complex .f64 (dF ((List.getD L i5 (0, 0)).1)) (dF ((List.getD L i5 (0, 0)).2))), (24, .bool false)]) (fun φ9 xs9 => []) s trivial (by kernel_rfl) (by kernel_rfl) (fun _ _ => by kernel_rfl) (fun _ _ => by kernel_rfl) ⟨fun _ _ => by kernel_rfl, fun _ _ => by kernel_rfl, fun _ _ => by kernel_rfl, fun _ _ => by kernel_rfl⟩ (fun _ _ _ => by kernel_rfl) (fun _ _ => by kernel_rfl) (fun _ _ => by kernel_rfl) (fun _ _ => by kernel_rfl) (fun _ _ => by kernel_rfl) (fun _ _ => by kernel_rfl) trivial ⟨kcast (A := ∀ (φ9 : Nat → Nat) (xs9 : Xs) (J : IM) (w : World), I5.Le J → J.Sub w → ((Instr.indexAt 30 (.slice a0 L.length c0) (.int .i64 ((i5 : Nat) : Int))) : Sem Value).run Try.prog w = .ok (.pointer (pAt a0 i5)) w) (by kernel_rfl) (fun φ9 xs9 J w hJ hS => csl_idx (CSl.mono hJ h0) (by have hq0 := of_decide_eq_true hc7; have e1 := hi5_0; omega)), ⟨kcast (A := ∀ (φ9 : Nat → Nat) (xs9 : Xs) (J : IM) (w : World), I5.Le J → J.Sub w → ((Instr.loadAt 35 (.pointer (pAt a0 i5))) : Sem Value).run Try.prog w = .ok (.complex .f64 (dF ((List.getD L i5 (0, 0)).1)) (dF ((List.getD L i5 (0, 0)).2))) w) (by kernel_rfl) (fun φ9 xs9 J w hJ hS => csl_ld hS (CSl.mono hJ h0) (getD_at (by have hq0 := of_decide_eq_true hc7; have e1 := hi5_0; omega))), ⟨kcast (A := ∀ (φ9 : Nat → Nat) (xs9 : Xs) (J : IM) (w : World), I5.Le J → J.Sub w → ((Instr.indexAt 30 (.slice a1 L.length c1) (.int .i64 ((i5 : Nat) : Int))) : Sem Value).run Try.prog w = .ok (.pointer (pAt a1 i5)) w) (by kernel_rfl) (fun φ9 xs9 J w hJ hS => csl_idx (CSl.mono hJ h1) (by have hq0 := of_decide_eq_true hc7; have e1 := hi5_0; omega)), ⟨kcast (A := ∀ (φ9 : Nat → Nat) (xs9 : Xs) (J : IM) (w : World), I5.Le J → J.Sub w → ((Instr.loadAt 35 (.pointer (pAt a1 i5))) : Sem Value).run Try.prog w = .ok (.complex .f64 (dF ((List.getD L i5 (0, 0)).1)) (dF ((List.getD L i5 (0, 0)).2))) w) (by kernel_rfl) (fun φ9 xs9 J w hJ hS => csl_ld hS (CSl.mono hJ h1) (getD_at (by have hq0 := of_decide_eq_true hc7; have e1 := hi5_0; omega))), ⟨kcast (A := ∀ (φ9 : Nat → Nat) (xs9 : Xs) (J : IM) (w : World), I5.Le J → J.Sub w → ((binOp .neq 35 (.complex .f64 (dF ((List.getD L i5 (0, 0)).1)) (dF ((List.getD L i5 (0, 0)).2))) (.complex .f64 (dF ((List.getD L i5 (0, 0)).1)) (dF ((List.getD L i5 (0, 0)).2)))) : Sem Value).run Try.prog w = .ok (.bool false) w) (by kernel_rfl) (fun φ9 xs9 J w hJ hS => run_neC (by have := hb9 i5; omega) (by have := hb9 i5; omega)), trivial⟩⟩⟩⟩⟩ (by kernel_rfl) trivial ?k9
    case k9 =>
      rintro φ9 xs9 I9 w9 le9 s 
      replace h0 := CSl.mono le9 h0
      replace h1 := CSl.mono le9 h1
      replace hle4 := leMono le9 hle4
      refine cond_false_rule (b := false) (by kernel_rfl) rfl ?_
      refine wp_skip ?_
      refine region_rule ?_
      refine ops_rule (C := []) [] [] 2 [] 0 (fun φ10 => [(13, .int .i64 (IntKind.wrap .i64 (((i5 : Nat) : Int) + ((1 : Nat) : Int)))), (25, .int .i64 (IntKind.wrap .i64 (((i5 : Nat) : Int) + ((1 : Nat) : Int))))]) (fun φ10 => []) (fun φ10 => []) s trivial (fun φ10 => by kernel_rfl) ?_
      intro φ10 w10 s
      rw [nat_addI (a := i5) (b := 1) (by have hq0 := of_decide_eq_true hc7; have e1 := hi5_0; omega)]
      refine ops_done (by kernel_rfl) ?_
      exact ⟨⟨m5 - 1, i5 + 1, _, _, _, by have hq0 := of_decide_eq_true hc7; have := hi5_0; omega, rfl, s, List.Sublist.slnil, by kernel_rfl, hle4, by have hq0 := of_decide_eq_true hc7; have := hi5_0; show i5 + 1 + (m5 - 1) = L.length; omega⟩⟩
  ·
    rw [hc7]
    refine cond_false_rule (b := false) (by kernel_rfl) rfl ?_
    refine wp_exit ?_
    refine wp_seq ?_
    refine region_rule ?_
    refine ops_rule (C := []) [] [] 1 [] 0 (fun φ11 => [(4, .bool true)]) (fun φ11 => []) (fun φ11 => []) s trivial (fun φ11 => by kernel_rfl) ?_
    intro φ11 w11 s
    refine ops_done (by kernel_rfl) ?_
    refine wp_ret ?_
    refine ret_rule (C := []) [] [] (.bool true) [] [] s trivial (by kernel_rfl) ?_
    exact ⟨_, _, _, rfl, s, rfl⟩

theorem equalT_c {I : IM} {t : T} {a0 a1 : Option Addr} {c0 c1 : Nat} (h0 : CSl I (spT t 0 16) (.slice a0 (cntT t) c0)) (h1 : CSl I (spT t 0 16) (.slice a1 (cntT t) c1)) (hd : t.depth ≤ 16) (hc : cntT t ≤ 100000) : Fun Try.prog 35 #[.slice a0 (cntT t) c0, .slice a1 (cntT t) c1] I (fun v J => v = .bool true) := by
  rw [← spT_length t 0 16] at h0 h1 ⊢
  exact equalC_c h0 h1 (sp_bd hd) (by rw [spT_length]; exact hc)

set_option maxHeartbeats 1000000 in
theorem of_c {I : IM} {t : T} {a0 : Option Addr} {c0 : Nat} (h0 : CSl I (spT t 0 16) (.slice a0 (cntT t) c0)) (hn : t.nf) (hd : t.depth ≤ 16) (hc : cntT t ≤ 100000) : Fun Try.prog 13 #[.slice a0 (cntT t) c0] I (fun v J => ∃ b p, v = .tuple #[idv b p, .int .i64 0] ∧ TRep J t b p) := by
  refine enter_rule 18 [(0, .slice a0 (cntT t) c0)] Try.func13 rfl (by kernel_rfl) ?_
  intro w s
  refine wp_seq ?_
  refine region_rule ?_
  refine ops_rule (C := []) [] [] 2 [] 1 (fun φ1 => [(3, .int .i64 0), (2, .pointer (some ⟨(φ1 0), 0, none⟩))]) (fun φ1 => [((φ1 0), .cells #[.bool false, .pointer none] 26)]) (fun φ1 => []) s trivial (fun φ1 => by kernel_rfl) ?_
  intro φ1 w1 s
  refine ops_done (by kernel_rfl) ?_
  refine wp_seq ?_
  refine region_rule ?_
  refine ops_rule (C := []) [((φ1 0), .cells #[.bool false, .pointer none] 26)] [] 1 [] 0 (fun φ2 => [(7, .slice a0 (cntT t) c0)]) (fun φ2 => [((φ1 0), .cells #[.bool false, .pointer none] 26)]) (fun φ2 => []) s trivial (fun φ2 => by kernel_rfl) ?_
  intro φ2 w2 s
  refine call_rule (some 8) s (build0_c hn (hd) h0) (by kernel_rfl) ?_
  intro v3 I3 w3 le3 h3 s
  replace h0 := CSl.mono le3 h0
  obtain ⟨b3, p3, v3, rfl, h3_0, h3_1⟩ := h3
  refine ops_rule (C := []) [((φ1 0), .cells #[.bool false, .pointer none] 26)] [] 6 [.o 1, .o 1] 1 (fun φ4 => [(5, v3), (4, .pointer (some ⟨(φ4 0), 0, none⟩)), (10, v3), (9, .agg #[.bool b3, .pointer p3]), (6, .tuple #[.agg #[.bool b3, .pointer p3], v3])]) (fun φ4 => [((φ1 0), .cells #[.bool false, .pointer none] 26), ((φ4 0), .cells #[.bool b3, .pointer p3] 26)]) (fun φ4 => [(φ4 0), (φ4 0)]) s trivial (fun φ4 => by kernel_rfl) ?_
  intro φ4 w4 s
  refine ops_done (by kernel_rfl) ?_
  refine wp_seq ?_
  refine wp_seq ?_
  refine region_rule ?_
  refine ops_rule (C := []) [((φ1 0), .cells #[.bool false, .pointer none] 26), ((φ4 0), .cells #[.bool b3, .pointer p3] 26)] [] 1 [.o 1, .o 1] 0 (fun φ5 => [(11, .agg #[.bool b3, .pointer p3])]) (fun φ5 => [((φ1 0), .cells #[.bool false, .pointer none] 26), ((φ4 0), .cells #[.bool b3, .pointer p3] 26)]) (fun φ5 => [(φ4 0), (φ4 0)]) s trivial (fun φ5 => by kernel_rfl) ?_
  intro φ5 w5 s
  refine call_rule (some 12) s (spansF_c h3_0 (hc) (hd)) (by kernel_rfl) ?_
  intro v6 I6 w6 le6 h6 s
  replace h0 := CSl.mono le6 h0
  replace h3_0 := TRep.mono le6 h3_0
  replace h3_1 := CSl.mono le6 h3_1
  obtain ⟨a6, c6, rfl, h6_0⟩ := h6
  refine ops_rule (C := []) [((φ1 0), .cells #[.bool false, .pointer none] 26), ((φ4 0), .cells #[.bool b3, .pointer p3] 26)] [] 1 [] 0 (fun φ7 => [(13, .slice a0 (cntT t) c0)]) (fun φ7 => [((φ1 0), .cells #[.bool false, .pointer none] 26), ((φ4 0), .cells #[.bool b3, .pointer p3] 26)]) (fun φ7 => []) s trivial (fun φ7 => by kernel_rfl) ?_
  intro φ7 w7 s
  refine call_rule (some 14) s (equalT_c h6_0 h0 (hd) (hc)) (by kernel_rfl) ?_
  intro v8 I8 w8 le8 h8 s
  replace h0 := CSl.mono le8 h0
  replace h3_0 := TRep.mono le8 h3_0
  replace h3_1 := CSl.mono le8 h3_1
  replace h6_0 := CSl.mono le8 h6_0
  obtain rfl := h8
  refine ops_rule (C := []) [((φ1 0), .cells #[.bool false, .pointer none] 26), ((φ4 0), .cells #[.bool b3, .pointer p3] 26)] [] 1 [] 0 (fun φ9 => [(15, .bool false)]) (fun φ9 => [((φ1 0), .cells #[.bool false, .pointer none] 26), ((φ4 0), .cells #[.bool b3, .pointer p3] 26)]) (fun φ9 => []) s trivial (fun φ9 => by kernel_rfl) ?_
  intro φ9 w9 s
  refine ops_done (by kernel_rfl) ?_
  refine cond_false_rule (b := false) (by kernel_rfl) rfl ?_
  refine wp_skip ?_
  refine wp_seq ?_
  refine region_rule ?_
  refine ops_rule (C := []) [((φ1 0), .cells #[.bool false, .pointer none] 26), ((φ4 0), .cells #[.bool b3, .pointer p3] 26)] [] 3 [.o 1, .o 1, .o 0, .o 0] 0 (fun φ10 => [(3, .int .i64 0), (17, .agg #[.bool b3, .pointer p3])]) (fun φ10 => [((φ1 0), .cells #[.bool b3, .pointer p3] 26), ((φ4 0), .cells #[.bool b3, .pointer p3] 26)]) (fun φ10 => [(φ4 0), (φ4 0), (φ1 0), (φ1 0)]) s trivial (fun φ10 => by kernel_rfl) ?_
  intro φ10 w10 s
  refine ops_done (by kernel_rfl) ?_
  refine wp_ret ?_
  refine ret_rule (C := []) [((φ1 0), .cells #[.bool b3, .pointer p3] 26), ((φ4 0), .cells #[.bool b3, .pointer p3] 26)] [] (.tuple #[.agg #[.bool b3, .pointer p3], .int .i64 0]) [.o 0, .o 0] [(φ1 0), (φ1 0)] s trivial (by kernel_rfl) ?_
  exact ⟨_, _, _, rfl, s, ⟨_, _, rfl, h3_0⟩⟩

set_option maxHeartbeats 8000000 in
theorem shareSpans_c {I : IM} {la : List UInt8} {va : Value} (hla : BSl I la va) : Fun Try.prog 3 #[va] I (fun v J => v = .bool true) := by
  refine enter_rule 67 [(0, va)] Try.func3 rfl (by kernel_rfl) ?_
  intro w s
  refine wp_seq ?_
  refine region_rule ?_
  refine ops_rule (C := []) [] [] 1 [] 0 (fun φ1 => [(2, .bool false)]) (fun φ1 => []) (fun φ1 => []) s trivial (fun φ1 => by kernel_rfl) ?_
  intro φ1 w1 s
  refine ops_done (by kernel_rfl) ?_
  refine wp_seq ?_
  refine wp_seq ?_
  refine region_rule ?_
  refine call_rule (some 11) s (awakeS_c) (by kernel_rfl) ?_
  intro v2 I2 w2 le2 h2 s
  replace hla := BSl.mono le2 hla
  obtain rfl := h2
  refine ops_rule (C := []) [] [] 1 [] 0 (fun φ3 => [(12, .bool false)]) (fun φ3 => []) (fun φ3 => []) s trivial (fun φ3 => by kernel_rfl) ?_
  intro φ3 w3 s
  refine ops_done (by kernel_rfl) ?_
  refine cond_false_rule (b := false) (by kernel_rfl) rfl ?_
  refine wp_skip ?_
  refine wp_seq ?_
  refine region_rule ?_
  refine ops_rule (C := []) [] [] 1 [] 0 (fun φ4 => [(14, va)]) (fun φ4 => []) (fun φ4 => []) s trivial (fun φ4 => by kernel_rfl) ?_
  intro φ4 w4 s
  refine call_rule (some 15) s (madeI_c hla) (by kernel_rfl) ?_
  intro v5 I5 w5 le5 h5 s
  replace hla := BSl.mono le5 hla
  obtain ⟨b5, p5, k5, t5, rfl, h5_0, h5_1, h5_2⟩ := h5
  refine ops_rule (C := []) [] [] 6 [.o 0, .o 0] 1 (fun φ6 => [(4, .pointer (some ⟨k5, 0, none⟩)), (3, .pointer (some ⟨(φ6 0), 0, none⟩)), (17, .pointer (some ⟨k5, 0, none⟩)), (16, .agg #[.bool b5, .pointer p5]), (13, .tuple #[.agg #[.bool b5, .pointer p5], .pointer (some ⟨k5, 0, none⟩)])]) (fun φ6 => [((φ6 0), .cells #[.bool b5, .pointer p5] 26)]) (fun φ6 => [(φ6 0), (φ6 0)]) s trivial (fun φ6 => by kernel_rfl) ?_
  intro φ6 w6 s
  refine ops_done (by kernel_rfl) ?_
  refine wp_seq ?_
  refine region_rule ?_
  refine ops_rule (C := []) [((φ6 0), .cells #[.bool b5, .pointer p5] 26)] [] 1 [.o 0, .o 0] 0 (fun φ7 => [(18, .agg #[.bool b5, .pointer p5])]) (fun φ7 => [((φ6 0), .cells #[.bool b5, .pointer p5] 26)]) (fun φ7 => [(φ6 0), (φ6 0)]) s trivial (fun φ7 => by kernel_rfl) ?_
  intro φ7 w7 s
  refine call_rule (some 19) s (spansF_c h5_1 (cntT_ok (d8 h5_0)) (dle16 (d8 h5_0))) (by kernel_rfl) ?_
  intro v8 I8 w8 le8 h8 s
  replace hla := BSl.mono le8 hla
  replace h5_1 := TRep.mono le8 h5_1
  replace h5_2 := RT.mono le8 h5_2
  obtain ⟨a8, c8, rfl, h8_0⟩ := h8
  refine ops_rule (C := []) [((φ6 0), .cells #[.bool b5, .pointer p5] 26)] [] 1 [] 0 (fun φ9 => [(20, .pointer (some ⟨k5, 0, none⟩))]) (fun φ9 => [((φ6 0), .cells #[.bool b5, .pointer p5] 26)]) (fun φ9 => []) s trivial (fun φ9 => by kernel_rfl) ?_
  intro φ9 w9 s
  refine call_rule (some 21) s (rs0N_c t5 h5_2 (cntT_ok (d8 h5_0)) (dle16 (d8 h5_0))) (by kernel_rfl) ?_
  intro v10 I10 w10 le10 h10 s
  replace hla := BSl.mono le10 hla
  replace h5_1 := TRep.mono le10 h5_1
  replace h5_2 := RT.mono le10 h5_2
  replace h8_0 := CSl.mono le10 h8_0
  obtain ⟨a10, c10, rfl, h10_0⟩ := h10
  refine ops_rule (C := []) [((φ6 0), .cells #[.bool b5, .pointer p5] 26)] [] 2 [] 0 (fun φ11 => [(6, .slice a10 (cntT t5) c10), (5, .slice a8 (cntT t5) c8)]) (fun φ11 => [((φ6 0), .cells #[.bool b5, .pointer p5] 26)]) (fun φ11 => []) s trivial (fun φ11 => by kernel_rfl) ?_
  intro φ11 w11 s
  refine ops_done (by kernel_rfl) ?_
  refine wp_seq ?_
  refine wp_seq ?_
  refine region_rule ?_
  refine ops_rule (C := []) [((φ6 0), .cells #[.bool b5, .pointer p5] 26)] [] 5 [] 0 (fun φ12 => [(26, .bool ((((cntT t5) : Nat) : Int) != (((cntT t5) : Nat) : Int))), (25, .int .i64 (((cntT t5) : Nat) : Int)), (24, .slice a10 (cntT t5) c10), (23, .int .i64 (((cntT t5) : Nat) : Int)), (22, .slice a8 (cntT t5) c8)]) (fun φ12 => [((φ6 0), .cells #[.bool b5, .pointer p5] 26)]) (fun φ12 => []) s trivial (fun φ12 => by kernel_rfl) ?_
  intro φ12 w12 s
  rw [(nat_neq (a := (cntT t5)) (b := (cntT t5))).trans (decide_eq_false (fun q => q rfl))]
  refine ops_done (by kernel_rfl) ?_
  refine cond_false_rule (b := false) (by kernel_rfl) rfl ?_
  refine wp_skip ?_
  refine wp_seq ?_
  refine wp_seq ?_
  refine region_rule ?_
  refine ops_rule (C := []) [((φ6 0), .cells #[.bool b5, .pointer p5] 26)] [] 3 [] 0 (fun φ13 => [(29, .int .i64 0), (28, .int .i64 (((cntT t5) : Nat) : Int)), (27, .slice a8 (cntT t5) c8)]) (fun φ13 => [((φ6 0), .cells #[.bool b5, .pointer p5] 26)]) (fun φ13 => []) s trivial (fun φ13 => by kernel_rfl) ?_
  intro φ13 w13 s
  refine ops_done (by kernel_rfl) ?_
  refine wp_block ?_
  have hL14 : (spT t5 0 16).length = cntT t5 := spT_length t5 0 16
  have hle15 := IM.Le.refl I10
  refine loop_rule (fun (x : Nat) => [(2, .bool false), (3, .pointer (some ⟨(φ6 0), 0, none⟩)), (4, .pointer (some ⟨k5, 0, none⟩)), (5, .slice a8 (cntT t5) c8), (6, .slice a10 (cntT t5) c10), (27, .slice a8 (cntT t5) c8), (28, .int .i64 (((cntT t5) : Nat) : Int)), (29, .int .i64 ((x : Nat) : Int))]) (fun (x : Nat) => [((φ6 0), .cells #[.bool b5, .pointer p5] 26)]) (fun m (x : Nat) J => IM.Le I10 J ∧ x + m = cntT t5) (cntT t5) 0 s (by kernel_rfl) (List.Sublist.cons₂ _ List.Sublist.slnil) ⟨IM.Le.refl _, Nat.zero_add _⟩ ?_
  rintro m16 i16 I16 w16 ev16 s ⟨le16, hi16_0⟩
  try dsimp only at s hi16_0 ⊢
  replace hla := BSl.mono le16 hla
  replace h5_1 := TRep.mono le16 h5_1
  replace h5_2 := RT.mono le16 h5_2
  replace h8_0 := CSl.mono le16 h8_0
  replace h10_0 := SpS.mono le16 h10_0
  replace hle15 := leMono le16 hle15
  refine wp_seq ?_
  refine region_rule ?_
  refine ops_rule (C := []) [((φ6 0), .cells #[.bool b5, .pointer p5] 26)] [] 1 [] 0 (fun φ17 => [(30, .bool (decide (((i16 : Nat) : Int) < (((cntT t5) : Nat) : Int))))]) (fun φ17 => [((φ6 0), .cells #[.bool b5, .pointer p5] 26)]) (fun φ17 => []) s trivial (fun φ17 => by kernel_rfl) ?_
  intro φ17 w17 s
  rw [nat_lss (a := i16) (b := (cntT t5))]
  refine ops_done (by kernel_rfl) ?_
  refine wp_seq ?_
  rcases Bool.eq_false_or_eq_true (decide (i16 < (cntT t5))) with hc18 | hc18
  ·
    rw [hc18]
    refine cond_true_rule (b := true) (by kernel_rfl) rfl ?_
    refine wp_skip ?_
    refine wp_seq ?_
    refine wp_block ?_
    refine wp_seq ?_
    refine region_rule ?_
    refine ops_rule (C := []) [((φ6 0), .cells #[.bool b5, .pointer p5] 26)] [] 1 [] 0 (fun φ19 => [(31, .int .i64 ((i16 : Nat) : Int))]) (fun φ19 => [((φ6 0), .cells #[.bool b5, .pointer p5] 26)]) (fun φ19 => []) s trivial (fun φ19 => by kernel_rfl) ?_
    intro φ19 w19 s
    refine sem_rule (Instr.indexAt 30 (.slice a8 (cntT t5) c8) (.int .i64 ((i16 : Nat) : Int))) (some 32) (.pointer (pAt a8 i16)) (by kernel_rfl) (csl_idx h8_0 (by have hq0 := of_decide_eq_true hc18; have e1 := hi16_0; have e9 := hL14; have e8 := cntT_ok (d8 h5_0); omega)) ?_
    refine sem_rule (Instr.loadAt 35 (.pointer (pAt a8 i16))) (some 33) (.complex .f64 (dF ((List.getD (spT t5 0 16) i16 (0, 0)).1)) (dF ((List.getD (spT t5 0 16) i16 (0, 0)).2))) (by kernel_rfl) (csl_ld s.sub h8_0 (getD_at (by have hq0 := of_decide_eq_true hc18; have e1 := hi16_0; have e9 := hL14; have e8 := cntT_ok (d8 h5_0); omega))) ?_
    refine ops_rule (C := []) [((φ6 0), .cells #[.bool b5, .pointer p5] 26)] [] 2 [] 0 (fun φ20 => [(8, .complex .f64 (dF ((List.getD (spT t5 0 16) i16 (0, 0)).1)) (dF ((List.getD (spT t5 0 16) i16 (0, 0)).2))), (7, .int .i64 ((i16 : Nat) : Int))]) (fun φ20 => [((φ6 0), .cells #[.bool b5, .pointer p5] 26)]) (fun φ20 => []) s trivial (fun φ20 => by kernel_rfl) ?_
    intro φ20 w20 s
    refine ops_done (by kernel_rfl) ?_
    refine wp_seq ?_
    refine region_rule ?_
    refine ops_rule (C := []) [((φ6 0), .cells #[.bool b5, .pointer p5] 26)] [] 1 [] 0 (fun φ21 => [(34, .complex .f64 (dF ((List.getD (spT t5 0 16) i16 (0, 0)).1)) (dF ((List.getD (spT t5 0 16) i16 (0, 0)).2)))]) (fun φ21 => [((φ6 0), .cells #[.bool b5, .pointer p5] 26)]) (fun φ21 => []) s trivial (fun φ21 => by kernel_rfl) ?_
    intro φ21 w21 s
    refine sem_rule (Builtin.real_ #[35] 37 #[.complex .f64 (dF ((List.getD (spT t5 0 16) i16 (0, 0)).1)) (dF ((List.getD (spT t5 0 16) i16 (0, 0)).2))]) (some 35) (.float .f64 (dF ((List.getD (spT t5 0 16) i16 (0, 0)).1))) (by kernel_rfl) ((by kernel_rfl : ((Builtin.real_ #[35] 37 #[.complex .f64 (dF ((List.getD (spT t5 0 16) i16 (0, 0)).1)) (dF ((List.getD (spT t5 0 16) i16 (0, 0)).2))]) : Sem Value).run Try.prog w21 = .ok (.float .f64 (dF ((List.getD (spT t5 0 16) i16 (0, 0)).1))) w21)) ?_
    refine ops_rule (C := []) [((φ6 0), .cells #[.bool b5, .pointer p5] 26)] [] 2 [] 0 (fun φ22 => [(37, .int .i64 ((i16 : Nat) : Int)), (36, .slice a10 (cntT t5) c10)]) (fun φ22 => [((φ6 0), .cells #[.bool b5, .pointer p5] 26)]) (fun φ22 => []) s trivial (fun φ22 => by kernel_rfl) ?_
    intro φ22 w22 s
    refine sem_rule (Instr.indexAt 32 (.slice a10 (cntT t5) c10) (.int .i64 ((i16 : Nat) : Int))) (some 38) (.pointer (pAt a10 (i16 * 2))) (by kernel_rfl) (sps_idx h10_0 (by have hq0 := of_decide_eq_true hc18; have e1 := hi16_0; have e9 := hL14; have e8 := cntT_ok (d8 h5_0); omega)) ?_
    refine sem_rule (Instr.fieldAt 39 (.pointer (pAt a10 (i16 * 2))) 0) (some 39) (.pointer (pAt a10 (i16 * 2))) (by kernel_rfl) (run_fld0 h10_0 (by have hq0 := of_decide_eq_true hc18; have e1 := hi16_0; have e9 := hL14; have e8 := cntT_ok (d8 h5_0); omega)) ?_
    refine sem_rule (Instr.loadAt 34 (.pointer (pAt a10 (i16 * 2)))) (some 40) (.int .u64 (((List.getD (spT t5 0 16) i16 (0, 0)).1 : Nat) : Int)) (by kernel_rfl) (run_fl0 s.sub h10_0 (by have hq0 := of_decide_eq_true hc18; have e1 := hi16_0; have e9 := hL14; have e8 := cntT_ok (d8 h5_0); omega)) ?_
    refine call_rule (some 41) s (is_c (n := (List.getD (spT t5 0 16) i16 (0, 0)).1) (by have := sp_bd (dle16 (d8 h5_0)) i16; omega)) (by kernel_rfl) ?_
    intro v23 I23 w23 le23 h23 s
    replace hla := BSl.mono le23 hla
    replace h5_1 := TRep.mono le23 h5_1
    replace h5_2 := RT.mono le23 h5_2
    replace h8_0 := CSl.mono le23 h8_0
    replace h10_0 := SpS.mono le23 h10_0
    replace hle15 := leMono le23 hle15
    obtain rfl := h23
    refine ops_rule (C := []) [((φ6 0), .cells #[.bool b5, .pointer p5] 26)] [] 3 [] 0 (fun φ24 => [(44, .complex .f64 (dF ((List.getD (spT t5 0 16) i16 (0, 0)).1)) (dF ((List.getD (spT t5 0 16) i16 (0, 0)).2))), (43, .bool false), (42, .bool false)]) (fun φ24 => [((φ6 0), .cells #[.bool b5, .pointer p5] 26)]) (fun φ24 => []) s trivial (fun φ24 => by kernel_rfl) ?_
    intro φ24 w24 s
    refine sem_rule (Builtin.imag_ #[35] 37 #[.complex .f64 (dF ((List.getD (spT t5 0 16) i16 (0, 0)).1)) (dF ((List.getD (spT t5 0 16) i16 (0, 0)).2))]) (some 45) (.float .f64 (dF ((List.getD (spT t5 0 16) i16 (0, 0)).2))) (by kernel_rfl) ((by kernel_rfl : ((Builtin.imag_ #[35] 37 #[.complex .f64 (dF ((List.getD (spT t5 0 16) i16 (0, 0)).1)) (dF ((List.getD (spT t5 0 16) i16 (0, 0)).2))]) : Sem Value).run Try.prog w24 = .ok (.float .f64 (dF ((List.getD (spT t5 0 16) i16 (0, 0)).2))) w24)) ?_
    refine ops_rule (C := []) [((φ6 0), .cells #[.bool b5, .pointer p5] 26)] [] 2 [] 0 (fun φ25 => [(47, .int .i64 ((i16 : Nat) : Int)), (46, .slice a10 (cntT t5) c10)]) (fun φ25 => [((φ6 0), .cells #[.bool b5, .pointer p5] 26)]) (fun φ25 => []) s trivial (fun φ25 => by kernel_rfl) ?_
    intro φ25 w25 s
    refine sem_rule (Instr.indexAt 32 (.slice a10 (cntT t5) c10) (.int .i64 ((i16 : Nat) : Int))) (some 48) (.pointer (pAt a10 (i16 * 2))) (by kernel_rfl) (sps_idx h10_0 (by have hq0 := of_decide_eq_true hc18; have e1 := hi16_0; have e9 := hL14; have e8 := cntT_ok (d8 h5_0); omega)) ?_
    refine sem_rule (Instr.fieldAt 39 (.pointer (pAt a10 (i16 * 2))) 1) (some 49) (.pointer (pAt a10 (i16 * 2 + 1))) (by kernel_rfl) (run_fld1 h10_0 (by have hq0 := of_decide_eq_true hc18; have e1 := hi16_0; have e9 := hL14; have e8 := cntT_ok (d8 h5_0); omega)) ?_
    refine sem_rule (Instr.loadAt 34 (.pointer (pAt a10 (i16 * 2 + 1)))) (some 50) (.int .u64 (((List.getD (spT t5 0 16) i16 (0, 0)).2 : Nat) : Int)) (by kernel_rfl) (run_fl1 s.sub h10_0 (by have hq0 := of_decide_eq_true hc18; have e1 := hi16_0; have e9 := hL14; have e8 := cntT_ok (d8 h5_0); omega)) ?_
    refine call_rule (some 51) s (is_c (n := (List.getD (spT t5 0 16) i16 (0, 0)).2) (by have := sp_bd (dle16 (d8 h5_0)) i16; omega)) (by kernel_rfl) ?_
    intro v26 I26 w26 le26 h26 s
    replace hla := BSl.mono le26 hla
    replace h5_1 := TRep.mono le26 h5_1
    replace h5_2 := RT.mono le26 h5_2
    replace h8_0 := CSl.mono le26 h8_0
    replace h10_0 := SpS.mono le26 h10_0
    replace hle15 := leMono le26 hle15
    obtain rfl := h26
    refine ops_rule (C := []) [((φ6 0), .cells #[.bool b5, .pointer p5] 26)] [] 2 [] 0 (fun φ27 => [(53, .bool false), (52, .bool false)]) (fun φ27 => [((φ6 0), .cells #[.bool b5, .pointer p5] 26)]) (fun φ27 => []) s trivial (fun φ27 => by kernel_rfl) ?_
    intro φ27 w27 s
    refine ops_done (by kernel_rfl) ?_
    refine cond_false_rule (b := false) (by kernel_rfl) rfl ?_
    refine wp_skip ?_
    refine region_rule ?_
    refine ops_rule (C := []) [((φ6 0), .cells #[.bool b5, .pointer p5] 26)] [] 2 [] 0 (fun φ28 => [(29, .int .i64 (IntKind.wrap .i64 (((i16 : Nat) : Int) + ((1 : Nat) : Int)))), (54, .int .i64 (IntKind.wrap .i64 (((i16 : Nat) : Int) + ((1 : Nat) : Int))))]) (fun φ28 => [((φ6 0), .cells #[.bool b5, .pointer p5] 26)]) (fun φ28 => []) s trivial (fun φ28 => by kernel_rfl) ?_
    intro φ28 w28 s
    rw [nat_addI (a := i16) (b := 1) (by have hq0 := of_decide_eq_true hc18; have e1 := hi16_0; have e9 := hL14; have e8 := cntT_ok (d8 h5_0); omega)]
    refine ops_done (by kernel_rfl) ?_
    exact ⟨⟨m16 - 1, i16 + 1, _, _, _, by have hq0 := of_decide_eq_true hc18; have := hi16_0; omega, rfl, s, (List.Sublist.cons₂ _ List.Sublist.slnil), by kernel_rfl, hle15, by have hq0 := of_decide_eq_true hc18; have := hi16_0; show i16 + 1 + (m16 - 1) = cntT t5; omega⟩⟩
  ·
    rw [hc18]
    refine cond_false_rule (b := false) (by kernel_rfl) rfl ?_
    refine wp_exit ?_
    refine wp_seq ?_
    refine region_rule ?_
    refine ops_rule (C := []) [((φ6 0), .cells #[.bool b5, .pointer p5] 26)] [] 1 [] 0 (fun φ29 => [(56, .slice a8 (cntT t5) c8)]) (fun φ29 => [((φ6 0), .cells #[.bool b5, .pointer p5] 26)]) (fun φ29 => []) s trivial (fun φ29 => by kernel_rfl) ?_
    intro φ29 w29 s
    refine call_rule (some 57) s (of_c h8_0 h5_0.1 (dle16 (d8 h5_0)) (cntT_ok (d8 h5_0))) (by kernel_rfl) ?_
    intro v30 I30 w30 le30 h30 s
    replace hla := BSl.mono le30 hla
    replace h5_1 := TRep.mono le30 h5_1
    replace h5_2 := RT.mono le30 h5_2
    replace h8_0 := CSl.mono le30 h8_0
    replace h10_0 := SpS.mono le30 h10_0
    replace hle15 := leMono le30 hle15
    obtain ⟨b30, p30, rfl, h30_0⟩ := h30
    refine ops_rule (C := []) [((φ6 0), .cells #[.bool b5, .pointer p5] 26)] [] 6 [.o 1, .o 1] 1 (fun φ31 => [(10, .int .i64 0), (9, .pointer (some ⟨(φ31 0), 0, none⟩)), (59, .int .i64 0), (58, .agg #[.bool b30, .pointer p30]), (55, .tuple #[.agg #[.bool b30, .pointer p30], .int .i64 0])]) (fun φ31 => [((φ6 0), .cells #[.bool b5, .pointer p5] 26), ((φ31 0), .cells #[.bool b30, .pointer p30] 26)]) (fun φ31 => [(φ31 0), (φ31 0)]) s trivial (fun φ31 => by kernel_rfl) ?_
    intro φ31 w31 s
    refine ops_done (by kernel_rfl) ?_
    refine wp_seq ?_
    refine region_rule ?_
    refine ops_rule (C := []) [((φ6 0), .cells #[.bool b5, .pointer p5] 26), ((φ31 0), .cells #[.bool b30, .pointer p30] 26)] [] 5 [.o 0, .o 0, .o 1, .o 1] 0 (fun φ32 => [(64, .agg #[.bool b30, .pointer p30]), (63, .agg #[.bool b5, .pointer p5]), (62, .bool true), (61, .bool true), (60, .int .i64 0)]) (fun φ32 => [((φ6 0), .cells #[.bool b5, .pointer p5] 26), ((φ31 0), .cells #[.bool b30, .pointer p30] 26)]) (fun φ32 => [(φ6 0), (φ6 0), (φ31 0), (φ31 0)]) s trivial (fun φ32 => by kernel_rfl) ?_
    intro φ32 w32 s
    refine call_rule (some 65) s (sameSelf_c h5_1 h30_0) (by kernel_rfl) ?_
    intro v33 I33 w33 le33 h33 s
    replace hla := BSl.mono le33 hla
    replace h5_1 := TRep.mono le33 h5_1
    replace h5_2 := RT.mono le33 h5_2
    replace h8_0 := CSl.mono le33 h8_0
    replace h10_0 := SpS.mono le33 h10_0
    replace hle15 := leMono le33 hle15
    replace h30_0 := TRep.mono le33 h30_0
    obtain rfl := h33
    refine ops_rule (C := []) [((φ6 0), .cells #[.bool b5, .pointer p5] 26), ((φ31 0), .cells #[.bool b30, .pointer p30] 26)] [] 2 [] 0 (fun φ34 => [(2, .bool true), (66, .bool true)]) (fun φ34 => [((φ6 0), .cells #[.bool b5, .pointer p5] 26), ((φ31 0), .cells #[.bool b30, .pointer p30] 26)]) (fun φ34 => []) s trivial (fun φ34 => by kernel_rfl) ?_
    intro φ34 w34 s
    refine ops_done (by kernel_rfl) ?_
    refine wp_ret ?_
    refine ret_rule (C := []) [((φ6 0), .cells #[.bool b5, .pointer p5] 26), ((φ31 0), .cells #[.bool b30, .pointer p30] 26)] [] (.bool true) [] [] s trivial (by kernel_rfl) ?_
    exact ⟨_, _, _, rfl, s, rfl⟩

end Go.Proofs.Ytgdickihjaomjaa.Ev
/- A slice of bytes that came in, as the contracts want it. -/
set_option linter.all false
namespace Go.Proofs.Ytgdickihjaomjaa.Ev
open Go.RowKit Go.Sep

theorem u8_nat {z : Int} (h : (Lit.int .u8 z).wf = true) : z = (((UInt8.ofNat z.toNat).toNat : Nat) : Int) := by
  have hb : 0 ≤ z ∧ z < 256 := by
    have := h; simp [Lit.wf, IntKind.min, IntKind.max, IntKind.signed, IntKind.bits] at this; omega
  rw [UInt8.toNat_ofNat']
  omega
theorem cell_block {w : World} {b o : Nat} {v : Value} (h : w.cell? ⟨b, o, none⟩ = some v) : ∃ cs T fr, w.heap[b]? = some (.cells cs T fr) ∧ cs[o]? = some v := by
  unfold World.cell? at h
  cases hb : w.heap[b]? with
  | none => simp [hb] at h
  | some ob =>
    cases ob <;> simp [hb] at h
    exact ⟨_, _, _, rfl, h⟩
theorem bslI_row {w : World} {a : Option Addr} {len cap : Nat} {zs : List Int}
    (h : (a = none ∧ len = 0 ∧ cap = 0 ∧ zs = []) ∨ ∃ x, a = some x ∧ len ≤ cap ∧ cap ≤ maxLen ∧ zs.length = cap ∧ (∀ i, i < zs.length → w.cell? (x.add i) = some (.int .u8 (zs.getD i 0))) ∧ ∀ n ∈ zs, (Lit.int .u8 n).wf = true) :
    ∃ l, BSl (fun k => w.heap[k]?) l (.slice a len cap) := by
  rcases h with ⟨rfl, rfl, rfl, rfl⟩ | ⟨x, rfl, hl, hm, hz, hc, hw⟩
  · exact ⟨[], bsl_nil _⟩
  · refine ⟨(zs.take len).map fun z => UInt8.ofNat z.toNat, some x, cap, by rw [List.length_map, List.length_take, Nat.min_eq_left (show len ≤ zs.length by omega)], by rw [List.length_map, List.length_take]; omega, fun j y hj => ?_⟩
    rw [List.getElem?_map, Option.map_eq_some_iff] at hj
    obtain ⟨z, hz1, rfl⟩ := hj
    rw [List.getElem?_take] at hz1
    split at hz1
    · have hjl : j < zs.length := (List.getElem?_eq_some_iff.1 hz1).1
      have h1 := hc j hjl
      have h2 : zs.getD j 0 = z := by simp [hz1]
      rw [h2] at h1
      obtain ⟨b, o, sp⟩ := x
      cases sp with
      | none =>
        have : (⟨b, o, none⟩ : Addr).add j = ⟨b, o + j, none⟩ := by unfold Addr.add; split <;> simp_all
        rw [this] at h1
        obtain ⟨cs, T, fr, e1, e2⟩ := cell_block h1
        refine ⟨b, o, cs, T, fr, rfl, e1, ?_⟩
        rw [← u8_nat (hw z (List.mem_of_getElem? hz1))]; exact e2
      | some sp =>
        exfalso
        have h0 := hc 0 (by omega)
        unfold World.cell? Addr.add at h0
        rw [if_pos rfl] at h0
        revert h0
        split <;> simp
    · cases hz1
end Go.Proofs.Ytgdickihjaomjaa.Ev
