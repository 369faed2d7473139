/- What is the same. -/
import Derived.Test.YtgmigcmhnmmdkaaCoK4
set_option linter.all false
set_option maxRecDepth 100000
namespace Go.Proofs.Ytgmigcmhnmmdkaa
open Go.RowKit Go.Sep
attribute [local irreducible] Go.wpList Go.Code.wp

theorem bsl_lit {I : IM} {b n : Nat} {cs : Array Value} {T : TypeId} {fr : Nat × Nat} {l : List UInt8} (h : I b = some (.cells cs T fr)) (hc : cs.toList = l.map bV) (hn : n = l.length) : BSl I l (.slice (some ⟨b, 0, none⟩) n n) := by
  subst hn
  refine ⟨_, _, rfl, Nat.le_refl _, fun j x hj => ⟨b, 0, cs, T, fr, rfl, h, ?_⟩⟩
  have : cs.toList[j]? = some (bV x) := by rw [hc, List.getElem?_map, hj]; rfl
  rw [Nat.zero_add]
  have h2 : cs[j]? = some (bV x) := by simpa using this
  exact h2
theorem idSame_c {I : IM} {A B : Ev.T} {ba bb : Bool} {pa pb : Option Addr} (hA : Ev.TRep I A ba pa) (hB : Ev.TRep I B bb pb) : Fun Try.prog 18 #[.agg #[.bool ba, .pointer pa], .agg #[.bool bb, .pointer pb]] I (fun v J => v = .bool (decide (A = B))) := by
  have := Ev.idsame_c hA hB
  rw [cover_same] at this; exact this
theorem evSame_c {I : IM} {A B : Ev.E} {ba bb : Nat} {pa pb : Option Addr} (hA : Ev.ERep I A ba pa) (hB : Ev.ERep I B bb pb) (a : A.nf ∧ A.depth ≤ 16 ∧ A.top ≤ 1048576) (b : B.nf ∧ B.depth ≤ 16 ∧ B.top ≤ 1048576) : Fun Try.prog 19 #[.agg #[.int .u64 ((ba : Nat) : Int), .pointer pa], .agg #[.int .u64 ((bb : Nat) : Int), .pointer pb]] I (fun v J => v = .bool (decide (A = B))) := by
  have := Ev.same_c hA hB (by omega) (by omega) (by omega) (by omega)
  rw [leq_same_iff a.1 b.1 (by omega) (by omega)] at this; exact this
theorem equalT_c {I : IM} {l l2 : List UInt8} {a a2 : Option Addr} {n c n2 c2 : Nat} (hl : BSl I l (.slice a n c)) (hl2 : BSl I l2 (.slice a2 n2 c2)) (e : l = l2) : Fun Try.prog 14 #[.slice a n c, .slice a2 n2 c2] I (fun v J => v = .bool true) := by
  have := equalD_c hl hl2
  rw [decide_eq_true e] at this; exact this
theorem equalB_c {I : IM} {l l2 : List UInt8} {a a2 : Option Addr} {n c n2 c2 : Nat} (hl : BSl I l (.slice a n c)) (hl2 : BSl I l2 (.slice a2 n2 c2)) (P : Prop) [Decidable P] (e : l = l2 ↔ P) : Fun Try.prog 14 #[.slice a n c, .slice a2 n2 c2] I (fun v J => v = .bool (decide P)) := by
  have := equalD_c hl hl2
  rw [decide_eq_decide.2 e] at this; exact this
def okE (e : Ev.E) : Prop := e.nf ∧ e.depth ≤ 7 ∧ e.top ≤ 7 + 3 * 7
theorem okE.w {e : Ev.E} (h : okE e) : e.nf ∧ e.depth ≤ 16 ∧ e.top ≤ 1048576 := ⟨h.1, by have := h.2.1; omega, by have := h.2.2; omega⟩
theorem okE.t {e : Ev.E} (h : okE e) : e.top < 18446744073709551616 := by have := h.2.2; omega
theorem okE.len {e : Ev.E} (h : okE e) : (evB e).length ≤ 40000 := by have := evB_len e 7 h.2.1; omega
def okT (t : Ev.T) : Prop := t.nf ∧ t.depth ≤ 7
theorem okT.len {t : Ev.T} (h : okT t) : (idB t).length ≤ 1000 := by have := idB_len t 7 h.2; omega

set_option maxHeartbeats 400000 in
theorem stampSame_c {I : IM} {t t2 : Ev.T} {e e2 : Ev.E} {bi bi2 : Bool} {pi pi2 : Option Addr} {be be2 : Nat} {pe pe2 : Option Addr} (ht : Ev.TRep I t bi pi) (ht2 : Ev.TRep I t2 bi2 pi2) (he : Ev.ERep I e be pe) (he2 : Ev.ERep I e2 be2 pe2) (ho : okE e) (ho2 : okE e2) : Fun Try.prog 17 #[.agg #[.bool bi, .pointer pi, .int .u64 ((be : Nat) : Int), .pointer pe], .agg #[.bool bi2, .pointer pi2, .int .u64 ((be2 : Nat) : Int), .pointer pe2]] I (fun v J => v = .bool (decide (t = t2 ∧ e = e2))) := by
  refine enter_rule 17 [(0, .agg #[.bool bi, .pointer pi, .int .u64 ((be : Nat) : Int), .pointer pe]), (1, .agg #[.bool bi2, .pointer pi2, .int .u64 ((be2 : Nat) : Int), .pointer pe2])] Try.func17 rfl (by kernel_rfl) ?_
  intro w s
  refine wp_seq ?_
  refine region_rule ?_
  refine ops_rule (C := []) [] [] 3 [] 2 (fun φ1 => [(4, .bool false), (3, .pointer (some ⟨(φ1 1), 0, none⟩)), (2, .pointer (some ⟨(φ1 0), 0, none⟩))]) (fun φ1 => [((φ1 0), .cells #[.bool bi, .pointer pi, .int .u64 ((be : Nat) : Int), .pointer pe] 32), ((φ1 1), .cells #[.bool bi2, .pointer pi2, .int .u64 ((be2 : Nat) : Int), .pointer pe2] 32)]) (fun φ1 => []) s trivial (fun φ1 => by kernel_rfl) ?_
  intro φ1 w1 s
  refine ops_done (by kernel_rfl) ?_
  refine wp_seq ?_
  refine region_rule ?_
  refine ops_rule (C := []) [((φ1 0), .cells #[.bool bi, .pointer pi, .int .u64 ((be : Nat) : Int), .pointer pe] 32), ((φ1 1), .cells #[.bool bi2, .pointer pi2, .int .u64 ((be2 : Nat) : Int), .pointer pe2] 32)] [] 4 [.o 0, .o 0, .o 1, .o 1] 0 (fun φ2 => [(8, .agg #[.bool bi2, .pointer pi2]), (7, .pointer (some ⟨(φ1 1), 0, none⟩)), (6, .agg #[.bool bi, .pointer pi]), (5, .pointer (some ⟨(φ1 0), 0, none⟩))]) (fun φ2 => [((φ1 0), .cells #[.bool bi, .pointer pi, .int .u64 ((be : Nat) : Int), .pointer pe] 32), ((φ1 1), .cells #[.bool bi2, .pointer pi2, .int .u64 ((be2 : Nat) : Int), .pointer pe2] 32)]) (fun φ2 => [(φ1 0), (φ1 0), (φ1 1), (φ1 1)]) s trivial (fun φ2 => by kernel_rfl) ?_
  intro φ2 w2 s
  refine call_rule (some 9) s (idSame_c ht ht2) (by kernel_rfl) ?_
  intro v3 I3 w3 le3 h3 s
  replace ht := Ev.TRep.mono le3 ht
  replace he := Ev.ERep.mono le3 he
  replace ht2 := Ev.TRep.mono le3 ht2
  replace he2 := Ev.ERep.mono le3 he2
  obtain rfl := h3
  refine ops_rule (C := []) [((φ1 0), .cells #[.bool bi, .pointer pi, .int .u64 ((be : Nat) : Int), .pointer pe] 32), ((φ1 1), .cells #[.bool bi2, .pointer pi2, .int .u64 ((be2 : Nat) : Int), .pointer pe2] 32)] [] 1 [] 0 (fun φ4 => [(10, .bool (decide (t = t2)))]) (fun φ4 => [((φ1 0), .cells #[.bool bi, .pointer pi, .int .u64 ((be : Nat) : Int), .pointer pe] 32), ((φ1 1), .cells #[.bool bi2, .pointer pi2, .int .u64 ((be2 : Nat) : Int), .pointer pe2] 32)]) (fun φ4 => []) s trivial (fun φ4 => by kernel_rfl) ?_
  intro φ4 w4 s
  rcases Bool.eq_false_or_eq_true (decide (t = t2)) with hc5 | hc5
  ·
    rw [hc5]
    refine ops_rule (C := []) [((φ1 0), .cells #[.bool bi, .pointer pi, .int .u64 ((be : Nat) : Int), .pointer pe] 32), ((φ1 1), .cells #[.bool bi2, .pointer pi2, .int .u64 ((be2 : Nat) : Int), .pointer pe2] 32)] [] 4 [.o 0, .o 0, .o 1, .o 1] 0 (fun φ6 => [(14, .agg #[.int .u64 ((be2 : Nat) : Int), .pointer pe2]), (13, .pointer (some ⟨(φ1 1), 2, none⟩)), (12, .agg #[.int .u64 ((be : Nat) : Int), .pointer pe]), (11, .pointer (some ⟨(φ1 0), 2, none⟩))]) (fun φ6 => [((φ1 0), .cells #[.bool bi, .pointer pi, .int .u64 ((be : Nat) : Int), .pointer pe] 32), ((φ1 1), .cells #[.bool bi2, .pointer pi2, .int .u64 ((be2 : Nat) : Int), .pointer pe2] 32)]) (fun φ6 => [(φ1 0), (φ1 0), (φ1 1), (φ1 1)]) s trivial (fun φ6 => by kernel_rfl) ?_
    intro φ6 w6 s
    refine call_rule (some 15) s (evSame_c he he2 (okE.w ho) (okE.w ho2)) (by kernel_rfl) ?_
    intro v7 I7 w7 le7 h7 s
    replace ht := Ev.TRep.mono le7 ht
    replace he := Ev.ERep.mono le7 he
    replace ht2 := Ev.TRep.mono le7 ht2
    replace he2 := Ev.ERep.mono le7 he2
    obtain rfl := h7
    refine ops_rule (C := []) [((φ1 0), .cells #[.bool bi, .pointer pi, .int .u64 ((be : Nat) : Int), .pointer pe] 32), ((φ1 1), .cells #[.bool bi2, .pointer pi2, .int .u64 ((be2 : Nat) : Int), .pointer pe2] 32)] [] 2 [] 0 (fun φ8 => [(4, .bool (decide (e = e2))), (16, .bool (decide (e = e2)))]) (fun φ8 => [((φ1 0), .cells #[.bool bi, .pointer pi, .int .u64 ((be : Nat) : Int), .pointer pe] 32), ((φ1 1), .cells #[.bool bi2, .pointer pi2, .int .u64 ((be2 : Nat) : Int), .pointer pe2] 32)]) (fun φ8 => []) s trivial (fun φ8 => by kernel_rfl) ?_
    intro φ8 w8 s
    refine ops_done (by kernel_rfl) ?_
    refine wp_ret ?_
    refine ret_rule (C := []) [((φ1 0), .cells #[.bool bi, .pointer pi, .int .u64 ((be : Nat) : Int), .pointer pe] 32), ((φ1 1), .cells #[.bool bi2, .pointer pi2, .int .u64 ((be2 : Nat) : Int), .pointer pe2] 32)] [] (.bool (decide (e = e2))) [] [] s trivial (by kernel_rfl) ?_
    exact ⟨_, _, _, rfl, s, (congrArg Value.bool (by simp only [decide_eq_true_eq, decide_eq_false_iff_not] at *; simp [*]))⟩
  ·
    rw [hc5]
    refine ops_rule (C := []) [((φ1 0), .cells #[.bool bi, .pointer pi, .int .u64 ((be : Nat) : Int), .pointer pe] 32), ((φ1 1), .cells #[.bool bi2, .pointer pi2, .int .u64 ((be2 : Nat) : Int), .pointer pe2] 32)] [] 7 [] 0 (fun φ9 => [(4, .bool false), (16, .bool false), (15, undef), (14, undef), (13, undef), (12, undef), (11, undef)]) (fun φ9 => [((φ1 0), .cells #[.bool bi, .pointer pi, .int .u64 ((be : Nat) : Int), .pointer pe] 32), ((φ1 1), .cells #[.bool bi2, .pointer pi2, .int .u64 ((be2 : Nat) : Int), .pointer pe2] 32)]) (fun φ9 => []) s trivial (fun φ9 => by kernel_rfl) ?_
    intro φ9 w9 s
    refine ops_done (by kernel_rfl) ?_
    refine wp_ret ?_
    refine ret_rule (C := []) [((φ1 0), .cells #[.bool bi, .pointer pi, .int .u64 ((be : Nat) : Int), .pointer pe] 32), ((φ1 1), .cells #[.bool bi2, .pointer pi2, .int .u64 ((be2 : Nat) : Int), .pointer pe2] 32)] [] (.bool false) [] [] s trivial (by kernel_rfl) ?_
    exact ⟨_, _, _, rfl, s, (congrArg Value.bool (by simp only [decide_eq_true_eq, decide_eq_false_iff_not] at *; simp [*]))⟩

set_option maxHeartbeats 400000 in
theorem awake7_c {I : IM} : Fun Try.prog 6 #[] I (fun v J => v = .bool true) := by
  refine enter_rule 5 [] Try.func6 rfl (by kernel_rfl) ?_
  intro w s
  refine wp_seq ?_
  refine region_rule ?_
  refine ops_rule (C := []) [] [] 1 [] 0 (fun φ1 => [(0, .bool false)]) (fun φ1 => []) (fun φ1 => []) s trivial (fun φ1 => by kernel_rfl) ?_
  intro φ1 w1 s
  refine ops_done (by kernel_rfl) ?_
  refine wp_seq ?_
  refine region_rule ?_
  refine call_rule (some 1) s (seed_c) (by kernel_rfl) ?_
  intro v2 I2 w2 le2 h2 s
  obtain rfl := h2
  refine call_rule (some 2) s (codeStamp_c (Ev.TRep.o _) (Ev.ERep.lf _ 0) (by decide) (by decide)) (by kernel_rfl) ?_
  intro v3 I3 w3 le3 h3 s
  obtain ⟨a3, c3, rfl, h3_0⟩ := h3
  refine ops_rule (C := []) [] [] 1 [] 1 (fun φ4 => [(3, .slice (some ⟨(φ4 0), 0, none⟩) 1 1)]) (fun φ4 => [((φ4 0), .cells #[.int .u8 48] 5)]) (fun φ4 => []) s trivial (fun φ4 => by kernel_rfl) ?_
  intro φ4 w4 s
  obtain ⟨I5, le5, hk5, s⟩ := s.freezeAt 0 (φ4 0) (.cells #[.int .u8 48] 5) [] (by kernel_rfl) (by kernel_rfl)
  replace h3_0 := BSl.mono le5 h3_0
  refine call_rule (some 4) s (equalT_c h3_0 (bsl_lit (l := ([48] : List UInt8)) hk5 (by kernel_rfl) rfl) (by decide)) (by kernel_rfl) ?_
  intro v6 I6 w6 le6 h6 s
  replace h3_0 := BSl.mono le6 h3_0
  replace hk5 := le6 _ _ hk5
  obtain rfl := h6
  refine ops_rule (C := []) [] [] 1 [] 0 (fun φ7 => [(0, .bool true)]) (fun φ7 => []) (fun φ7 => []) s trivial (fun φ7 => by kernel_rfl) ?_
  intro φ7 w7 s
  refine ops_done (by kernel_rfl) ?_
  refine wp_ret ?_
  refine ret_rule (C := []) [] [] (.bool true) [] [] s trivial (by kernel_rfl) ?_
  exact ⟨_, _, _, rfl, s, rfl⟩

theorem made7_c {I : IM} {p q : List UInt8} {vp vq : Value} (hp : BSl I p vp) (hq : BSl I q vq) : Fun Try.prog 7 #[vp, vq] I (fun v J => ∃ ib ip eb ep ki ke i e, v = .tuple #[.agg #[.bool ib, .pointer ip, .int .u64 ((eb : Nat) : Int), .pointer ep], .agg #[.pointer (some ⟨ki, 0, none⟩), .pointer (some ⟨ke, 0, none⟩)]] ∧ okT i ∧ okE e ∧ Ev.TRep J i ib ip ∧ Ev.ERep J e eb ep ∧ Ev.RT J i ki ∧ Ev.RE J e ke) := Ev.made_c hp hq

end Go.Proofs.Ytgmigcmhnmmdkaa
