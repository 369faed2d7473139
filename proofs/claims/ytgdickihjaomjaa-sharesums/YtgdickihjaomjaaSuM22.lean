/- share: the document: what two have in common, spans -/
import Derived.Test.YtgdickihjaomjaaSuM21
import Derived.Test.YtgdickihjaomjaaSuM20
set_option linter.all false
set_option maxRecDepth 100000
namespace Go.Proofs.Ytgdickihjaomjaa.Ev
open Go.RowKit Go.Sep
attribute [local irreducible] Go.wpList Go.Code.wp
theorem addr_addO (b o k : Nat) : (⟨b, o, none⟩ : Addr).add k = ⟨b, o + k, none⟩ := by unfold Addr.add; split <;> simp_all
/-- spans as the document's program holds them -/
def sps (l : List (Nat × Nat)) : List Value := l.flatMap fun s => [.int .u64 ((s.1 : Nat) : Int), .int .u64 ((s.2 : Nat) : Int)]
theorem sps_append (l m : List (Nat × Nat)) : sps (l ++ m) = sps l ++ sps m := List.flatMap_append
theorem sps_length : ∀ l : List (Nat × Nat), (sps l).length = l.length * 2
  | [] => rfl
  | s :: l => by
    have := sps_length l
    have e : sps (s :: l) = [.int .u64 ((s.1 : Nat) : Int), .int .u64 ((s.2 : Nat) : Int)] ++ sps l := rfl
    rw [e, List.length_append, this]; simp only [List.length_cons, List.length_nil]; omega
theorem sps_at : ∀ {L : List (Nat × Nat)} {i : Nat}, i < L.length → (sps L)[i * 2]? = some (.int .u64 (((L.getD i (0, 0)).1 : Nat) : Int)) ∧ (sps L)[i * 2 + 1]? = some (.int .u64 (((L.getD i (0, 0)).2 : Nat) : Int))
  | [], _, h => by cases h
  | s :: L, 0, _ => ⟨rfl, rfl⟩
  | s :: L, i + 1, h => by
    have := sps_at (L := L) (i := i) (by simpa using h)
    have e : sps (s :: L) = [.int .u64 ((s.1 : Nat) : Int), .int .u64 ((s.2 : Nat) : Int)] ++ sps L := rfl
    rw [e, List.getElem?_append_right (by simp only [List.length_cons, List.length_nil]; omega), List.getElem?_append_right (by simp only [List.length_cons, List.length_nil]; omega)]
    simp only [List.length_cons, List.length_nil, List.getD_cons_succ]
    rw [show (i + 1) * 2 - (0 + 1 + 1) = i * 2 by omega, show (i + 1) * 2 + 1 - (0 + 1 + 1) = i * 2 + 1 by omega]
    exact this
theorem sps_one : ∀ (L : List (Nat × Nat)) (u : Value), u ∈ sps L → u.oneCell' = true
  | [], _, h => by cases h
  | s :: L, u, h => by
    have e : sps (s :: L) = [.int .u64 ((s.1 : Nat) : Int), .int .u64 ((s.2 : Nat) : Int)] ++ sps L := rfl
    rw [e, List.mem_append] at h
    rcases h with h | h
    · simp only [List.mem_cons, List.not_mem_nil, or_false] at h
      rcases h with rfl | rfl <;> rfl
    · exact sps_one L u h
/-- v is a slice of these spans, never written -/
def SpS (I : IM) (L : List (Nat × Nat)) (v : Value) : Prop := ∃ a cap, v = .slice a L.length cap ∧ L.length ≤ cap ∧ ∀ (j : Nat) (x : Value), (sps L)[j]? = some x → ∃ (b : Nat) (cs : Array Value) (T : TypeId) (fr : Nat × Nat), a = some ⟨b, 0, none⟩ ∧ I b = some (.cells cs T fr) ∧ cs[j]? = some x
theorem SpS.mono {I J : IM} (le : I.Le J) {L : List (Nat × Nat)} {v : Value} (h : SpS I L v) : SpS J L v := by
  obtain ⟨a, cap, hv, hc, hr⟩ := h
  refine ⟨a, cap, hv, hc, fun j x hj => ?_⟩
  obtain ⟨b, cs, T, fr, h1, h2, h3⟩ := hr j x hj
  exact ⟨b, cs, T, fr, h1, le _ _ h2, h3⟩
theorem under32 : Try.prog.underlying 32 = some (.slice 39) := by kernel_rfl
theorem size39 (w : World) : (sizeOf 39).run Try.prog w = .ok 2 w := by kernel_rfl
theorem sps_idx {I : IM} {w : World} {L : List (Nat × Nat)} {a : Option Addr} {n c i : Nat} (h : SpS I L (.slice a n c)) (hi : i < L.length) :
    (Instr.indexAt 32 (.slice a n c) (.int .i64 ((i : Nat) : Int))).run Try.prog w = .ok (.pointer (pAt a (i * 2))) w := by
  obtain ⟨a', c', hv, hc, hr⟩ := h
  cases hv
  obtain ⟨b, cs, T, fr, rfl, h2, h3⟩ := hr _ _ (sps_at hi).1
  have h2 : (i : Int) < (L.length : Int) := by omega
  simp [Instr.indexAt, asIntOf, run_underlying under32, size39, h2, pAt]
  intro h3; omega
theorem sps_ld {I : IM} {w : World} (hS : I.Sub w) {L : List (Nat × Nat)} {a : Option Addr} {n c i : Nat} (h : SpS I L (.slice a n c)) (hi : i < L.length) :
    (Instr.loadAt 39 (.pointer (pAt a (i * 2)))).run Try.prog w = .ok (.agg #[.int .u64 (((L.getD i (0, 0)).1 : Nat) : Int), .int .u64 (((L.getD i (0, 0)).2 : Nat) : Int)]) w := by
  obtain ⟨a', c', hv, hc, hr⟩ := h
  cases hv
  obtain ⟨b, cs, T, fr, rfl, h2, h3⟩ := hr _ _ (sps_at hi).1
  obtain ⟨b', cs', T', fr', e1, e2, h4⟩ := hr _ _ (sps_at hi).2
  cases e1
  rw [h2] at e2
  cases e2
  rw [show pAt (some ⟨b, 0, none⟩) (i * 2) = some ⟨b, i * 2, none⟩ from pAt_g b (i * 2)]
  have c1 := run_cell (a := ⟨b, i * 2, none⟩) (hS _ _ h2) rfl rfl
  have c2 := run_cell (a := ⟨b, i * 2 + 1, none⟩) (hS _ _ h2) rfl rfl
  rw [h3] at c1
  rw [h4] at c2
  have e : (Instr.loadAt 39 (.pointer (some ⟨b, i * 2, none⟩))).run Try.prog w = ((do pure (.agg (← loadCells ⟨b, i * 2, none⟩ 2))) : Sem Value).run Try.prog w := by kernel_rfl
  have l1 : (load ⟨b, i * 2, none⟩).run Try.prog w = .ok (.int .u64 (((L.getD i (0, 0)).1 : Nat) : Int)) w := by simp only [load, Sem.run, c1]
  have l2 : (load ⟨b, i * 2 + 1, none⟩).run Try.prog w = .ok (.int .u64 (((L.getD i (0, 0)).2 : Nat) : Int)) w := by simp only [load, Sem.run, c2]
  have a1 : (⟨b, i * 2, none⟩ : Addr).add 0 = ⟨b, i * 2, none⟩ := rfl
  have a2 : (⟨b, i * 2, none⟩ : Addr).add 1 = ⟨b, i * 2 + 1, none⟩ := rfl
  rw [e]
  simp only [loadCells, loadCellsFrom, Sem.run_bind, Sem.run_pure, a1, a2, Nat.zero_add, l1, l2, Result.andThen_ok]
  rfl
theorem SpS.cap {I : IM} {L : List (Nat × Nat)} {a : Option Addr} {n c : Nat} (h : SpS I L (.slice a n c)) : n = L.length ∧ L.length ≤ c := by
  obtain ⟨a', c', hv, hc, _⟩ := h
  cases hv; exact ⟨rfl, hc⟩
theorem src_sps {I : IM} {w : World} (hs : I.Sub w) {L : List (Nat × Nat)} {a : Option Addr} {n c : Nat} (h : SpS I L (.slice a n c)) : Src Try.prog 2 32 (.slice a n c) L.length (sps L) w := by
  obtain ⟨a', c', hv, hc, hr⟩ := h
  cases hv
  cases L with
  | nil =>
    cases a with
    | none => exact Src.ofNil w under32 c
    | some x => exact Src.ofSlice w under32 x 0 c [] rfl (fun j u hu => by simp at hu) (fun u hu => by simp at hu)
  | cons y L =>
    obtain ⟨b, cs, T, fr, rfl, _, _⟩ := hr 0 _ rfl
    refine Src.ofSlice w under32 ⟨b, 0, none⟩ _ c _ (sps_length _) (fun j u hu => ?_) (fun u hu => sps_one _ u hu)
    obtain ⟨b', cs', T', fr', e1, e2, e3⟩ := hr j u hu
    cases e1
    rw [addr_addO, run_cell (a := ⟨b, 0 + j, none⟩) (hs _ _ e2) rfl rfl]
    show cs'[0 + j]? = _
    rw [Nat.zero_add]; exact e3
theorem freeze_rowS {w0 : World} {I0 : IM} {m : List Nat} {I : IM} {w : World} {H F : List OB} {L : List (Nat × Nat)} {v : Value} {n : Nat} (s : St w0 I0 m I w (H ++ F)) (h : RowH 39 2 v n (sps L) F) :
    ∃ I', I.Le I' ∧ SpS I' L v ∧ St w0 I0 m I' w H := by
  have hl : L.length = n := by have := h.1; rw [sps_length] at this; omega
  rcases h.2 with ⟨rfl, rfl, rfl⟩ | ⟨g, cap, cur, rfl, rfl, hnc, hcm, hcs, ht⟩
  · have : L = [] := List.eq_nil_of_length_eq_zero hl
    subst this
    exact ⟨I, IM.Le.refl I, ⟨none, 0, rfl, Nat.le_refl _, fun j x h => by cases h⟩, by simpa using s⟩
  · have s2 := (s.perm (H' := (g, .cells cur 39) :: H) (by exact List.perm_append_comm))
    refine ⟨_, IM.le_add (s2.free (g, .cells cur 39) (by simp)) _, ?_, s2.freeze⟩
    refine ⟨some ⟨g, 0, none⟩, cap, congrArg (fun q => Value.slice (some ⟨g, 0, none⟩) q cap) hl.symm, by omega, fun j x hj => ⟨g, cur, 39, (0, 0), rfl, IM.add_self _ _ _, ?_⟩⟩
    rw [← ht, List.getElem?_take] at hj
    split at hj
    · simpa using hj
    · cases hj
def spR (L : List (Nat × Nat)) (v : Value) (J : IM) : Prop := ∃ a c, v = .slice a (List.length L) c ∧ SpS J L (.slice a (List.length L) c)
theorem fun_of_rowS {f : FuncId} {args : Array Value} {I : IM} {n : Nat} {L : List (Nat × Nat)} (h : FunM Try.prog f args I [] (fun v J F => RowH 39 2 v n (sps L) F)) :
    Fun Try.prog f args I (fun v J => spR L v J) := by
  intro w hw
  refine (h w hw (Owns.nil I w)).mono ?_
  rintro en w' ⟨v, I', H', he, s, hr⟩
  obtain ⟨J, le, hb, s2⟩ := freeze_rowS (H := []) s hr
  obtain ⟨a, c, rfl, hc, hb⟩ := hb
  exact ⟨_, J, [], he, s2, a, c, rfl, ⟨a, c, rfl, hc, hb⟩⟩
theorem run_half64 {w : World} {n : Nat} (h : 2 * n < 18446744073709551616) : (binOp .quo 34 (.int .u64 ((2 * n : Nat) : Int)) (.int .u64 2)).run Try.prog w = .ok (.int .u64 ((n : Nat) : Int)) w := by
  have e : (binOp .quo 34 (.int .u64 ((2 * n : Nat) : Int)) (.int .u64 2)).run Try.prog w = .ok (.int .u64 (IntKind.wrap .u64 (Int.tdiv ((2 * n : Nat) : Int) 2))) w := by kernel_rfl
  rw [e]
  have e1 : Int.tdiv ((2 * n : Nat) : Int) 2 = (n : Int) := by rw [Int.tdiv_eq_ediv_of_nonneg (by omega)]; omega
  have e2 : IntKind.wrap .u64 (n : Int) = (n : Int) := by simp only [IntKind.wrap, IntKind.signed, IntKind.bits]; simp; omega
  rw [e1, e2]
theorem run_add64 {w : World} {a b : Nat} (h : a + b < 18446744073709551616) : (binOp .add 34 (.int .u64 ((a : Nat) : Int)) (.int .u64 ((b : Nat) : Int))).run Try.prog w = .ok (.int .u64 ((a + b : Nat) : Int)) w := by
  have e : (binOp .add 34 (.int .u64 ((a : Nat) : Int)) (.int .u64 ((b : Nat) : Int))).run Try.prog w = .ok (.int .u64 (IntKind.wrap .u64 ((a : Int) + (b : Int)))) w := by kernel_rfl
  rw [e]
  have e2 : IntKind.wrap .u64 ((a : Int) + (b : Int)) = ((a + b : Nat) : Int) := by simp only [IntKind.wrap, IntKind.signed, IntKind.bits]; simp; omega
  rw [e2]
theorem row_one39 (g a k : Nat) : RowH 39 2 (.slice (some ⟨g, 0, none⟩) 1 1) 1 (sps [(a, k)]) [(g, .cells #[.int .u64 ((a : Nat) : Int), .int .u64 ((k : Nat) : Int)] 39)] :=
  ⟨rfl, .inr ⟨g, 1, _, rfl, rfl, Nat.le_refl _, by decide, rfl, rfl⟩⟩

set_option maxHeartbeats 1000000 in
theorem rboth_zero_zero {I : IM} {B : T} {k q : Nat} (hx : RT I T.zero k) (hy : RT I B q) : Fun Try.prog 15 #[.pointer (some ⟨k, 0, none⟩), .pointer (some ⟨q, 0, none⟩)] I (fun v J => ∃ k, v = .pointer (some ⟨k, 0, none⟩) ∧ RT J (bothT T.zero B) k) := by
  have hxz : RT _ T.zero k := hx
  skip
  refine enter_rule 49 [(0, .pointer (some ⟨k, 0, none⟩)), (1, .pointer (some ⟨q, 0, none⟩))] Try.func15 rfl (by kernel_rfl) ?_
  intro w s
  refine wp_seq ?_
  refine region_rule ?_
  refine ops_rule (C := []) [] [] 1 [] 0 (fun φ1 => [(4, .pointer none)]) (fun φ1 => []) (fun φ1 => []) s trivial (fun φ1 => by kernel_rfl) ?_
  intro φ1 w1 s
  refine ops_done (by kernel_rfl) ?_
  refine wp_seq ?_
  refine wp_seq ?_
  refine region_rule ?_
  refine ops_rule (C := [(k, .cells #[.int .i64 0, .pointer none, .pointer none] 73)]) [] [] 12 [.c 0] 0 (fun φ2 => [(16, .bool true), (15, undef), (14, undef), (13, undef), (12, undef), (11, undef), (10, .bool true), (9, .bool true), (8, .int .i64 0), (7, .pointer (some ⟨k, 0, none⟩)), (6, .pointer (some ⟨k, 0, none⟩)), (5, .pointer (some ⟨k, 0, none⟩))]) (fun φ2 => []) (fun φ2 => [k]) s ⟨hx, trivial⟩ (fun φ2 => by kernel_rfl) ?_
  intro φ2 w2 s
  refine ops_done (by kernel_rfl) ?_
  refine cond_true_rule (b := true) (by kernel_rfl) rfl ?_
  refine wp_seq ?_
  refine region_rule ?_
  refine call_rule (some 17) s (rzero_c) (by kernel_rfl) ?_
  intro v3 I3 w3 le3 h3 s
  replace hxz := RT.mono le3 hxz
  replace hy := RT.mono le3 hy
  replace hx := le3 _ _ hx
  obtain ⟨k3, rfl, h3_0⟩ := h3
  refine ops_rule (C := []) [] [] 1 [] 0 (fun φ4 => [(4, .pointer (some ⟨k3, 0, none⟩))]) (fun φ4 => []) (fun φ4 => []) s trivial (fun φ4 => by kernel_rfl) ?_
  intro φ4 w4 s
  refine ops_done (by kernel_rfl) ?_
  refine wp_ret ?_
  refine ret_rule (C := []) [] [] (.pointer (some ⟨k3, 0, none⟩)) [] [] s trivial (by kernel_rfl) ?_
  exact ⟨_, _, _, rfl, s, ⟨_, rfl, h3_0⟩⟩

set_option maxHeartbeats 1000000 in
theorem rboth_one_zero {I : IM} {k q : Nat} (hx : RT I T.one k) (hy : RT I T.zero q) : Fun Try.prog 15 #[.pointer (some ⟨k, 0, none⟩), .pointer (some ⟨q, 0, none⟩)] I (fun v J => ∃ k, v = .pointer (some ⟨k, 0, none⟩) ∧ RT J (bothT T.one T.zero) k) := by
  have hxz : RT _ T.one k := hx
  have hyz : RT _ T.zero q := hy
  refine enter_rule 49 [(0, .pointer (some ⟨k, 0, none⟩)), (1, .pointer (some ⟨q, 0, none⟩))] Try.func15 rfl (by kernel_rfl) ?_
  intro w s
  refine wp_seq ?_
  refine region_rule ?_
  refine ops_rule (C := []) [] [] 1 [] 0 (fun φ1 => [(4, .pointer none)]) (fun φ1 => []) (fun φ1 => []) s trivial (fun φ1 => by kernel_rfl) ?_
  intro φ1 w1 s
  refine ops_done (by kernel_rfl) ?_
  refine wp_seq ?_
  refine wp_seq ?_
  refine region_rule ?_
  refine ops_rule (C := [(k, .cells #[.int .i64 1, .pointer none, .pointer none] 73), (q, .cells #[.int .i64 0, .pointer none, .pointer none] 73)]) [] [] 12 [.c 0, .c 1] 0 (fun φ2 => [(16, .bool true), (15, .bool true), (14, .int .i64 0), (13, .pointer (some ⟨q, 0, none⟩)), (12, .pointer (some ⟨q, 0, none⟩)), (11, .pointer (some ⟨q, 0, none⟩)), (10, .bool false), (9, .bool false), (8, .int .i64 1), (7, .pointer (some ⟨k, 0, none⟩)), (6, .pointer (some ⟨k, 0, none⟩)), (5, .pointer (some ⟨k, 0, none⟩))]) (fun φ2 => []) (fun φ2 => [k, q]) s ⟨hx, ⟨hy, trivial⟩⟩ (fun φ2 => by kernel_rfl) ?_
  intro φ2 w2 s
  refine ops_done (by kernel_rfl) ?_
  refine cond_true_rule (b := true) (by kernel_rfl) rfl ?_
  refine wp_seq ?_
  refine region_rule ?_
  refine call_rule (some 17) s (rzero_c) (by kernel_rfl) ?_
  intro v3 I3 w3 le3 h3 s
  replace hxz := RT.mono le3 hxz
  replace hyz := RT.mono le3 hyz
  replace hx := le3 _ _ hx
  replace hy := le3 _ _ hy
  obtain ⟨k3, rfl, h3_0⟩ := h3
  refine ops_rule (C := []) [] [] 1 [] 0 (fun φ4 => [(4, .pointer (some ⟨k3, 0, none⟩))]) (fun φ4 => []) (fun φ4 => []) s trivial (fun φ4 => by kernel_rfl) ?_
  intro φ4 w4 s
  refine ops_done (by kernel_rfl) ?_
  refine wp_ret ?_
  refine ret_rule (C := []) [] [] (.pointer (some ⟨k3, 0, none⟩)) [] [] s trivial (by kernel_rfl) ?_
  exact ⟨_, _, _, rfl, s, ⟨_, rfl, h3_0⟩⟩

set_option maxHeartbeats 1000000 in
theorem rboth_one_one {I : IM} {k q : Nat} (hx : RT I T.one k) (hy : RT I T.one q) : Fun Try.prog 15 #[.pointer (some ⟨k, 0, none⟩), .pointer (some ⟨q, 0, none⟩)] I (fun v J => ∃ k, v = .pointer (some ⟨k, 0, none⟩) ∧ RT J (bothT T.one T.one) k) := by
  have hxz : RT _ T.one k := hx
  have hyz : RT _ T.one q := hy
  refine enter_rule 49 [(0, .pointer (some ⟨k, 0, none⟩)), (1, .pointer (some ⟨q, 0, none⟩))] Try.func15 rfl (by kernel_rfl) ?_
  intro w s
  refine wp_seq ?_
  refine region_rule ?_
  refine ops_rule (C := []) [] [] 1 [] 0 (fun φ1 => [(4, .pointer none)]) (fun φ1 => []) (fun φ1 => []) s trivial (fun φ1 => by kernel_rfl) ?_
  intro φ1 w1 s
  refine ops_done (by kernel_rfl) ?_
  refine wp_seq ?_
  refine wp_seq ?_
  refine region_rule ?_
  refine ops_rule (C := [(k, .cells #[.int .i64 1, .pointer none, .pointer none] 73), (q, .cells #[.int .i64 1, .pointer none, .pointer none] 73)]) [] [] 12 [.c 0, .c 1] 0 (fun φ2 => [(16, .bool false), (15, .bool false), (14, .int .i64 1), (13, .pointer (some ⟨q, 0, none⟩)), (12, .pointer (some ⟨q, 0, none⟩)), (11, .pointer (some ⟨q, 0, none⟩)), (10, .bool false), (9, .bool false), (8, .int .i64 1), (7, .pointer (some ⟨k, 0, none⟩)), (6, .pointer (some ⟨k, 0, none⟩)), (5, .pointer (some ⟨k, 0, none⟩))]) (fun φ2 => []) (fun φ2 => [k, q]) s ⟨hx, ⟨hy, trivial⟩⟩ (fun φ2 => by kernel_rfl) ?_
  intro φ2 w2 s
  refine ops_done (by kernel_rfl) ?_
  refine cond_false_rule (b := false) (by kernel_rfl) rfl ?_
  refine wp_skip ?_
  refine wp_seq ?_
  refine wp_seq ?_
  refine region_rule ?_
  refine ops_rule (C := [(k, .cells #[.int .i64 1, .pointer none, .pointer none] 73)]) [] [] 5 [.c 0] 0 (fun φ3 => [(22, .bool true), (21, .int .i64 1), (20, .pointer (some ⟨k, 0, none⟩)), (19, .pointer (some ⟨k, 0, none⟩)), (18, .pointer (some ⟨k, 0, none⟩))]) (fun φ3 => []) (fun φ3 => [k]) s ⟨hx, trivial⟩ (fun φ3 => by kernel_rfl) ?_
  intro φ3 w3 s
  refine ops_done (by kernel_rfl) ?_
  refine cond_true_rule (b := true) (by kernel_rfl) rfl ?_
  refine wp_seq ?_
  refine region_rule ?_
  refine ops_rule (C := []) [] [] 2 [] 0 (fun φ4 => [(4, .pointer (some ⟨q, 0, none⟩)), (23, .pointer (some ⟨q, 0, none⟩))]) (fun φ4 => []) (fun φ4 => []) s trivial (fun φ4 => by kernel_rfl) ?_
  intro φ4 w4 s
  refine ops_done (by kernel_rfl) ?_
  refine wp_ret ?_
  refine ret_rule (C := []) [] [] (.pointer (some ⟨q, 0, none⟩)) [] [] s trivial (by kernel_rfl) ?_
  exact ⟨_, _, _, rfl, s, ⟨_, rfl, hyz⟩⟩

set_option maxHeartbeats 1000000 in
theorem rboth_one_node {I : IM} {l' r' : T} {k q : Nat} (hx : RT I T.one k) (hy : RT I (T.node l' r') q) : Fun Try.prog 15 #[.pointer (some ⟨k, 0, none⟩), .pointer (some ⟨q, 0, none⟩)] I (fun v J => ∃ k, v = .pointer (some ⟨k, 0, none⟩) ∧ RT J (bothT T.one (T.node l' r')) k) := by
  have hxz : RT _ T.one k := hx
  have hyn := hy
  obtain ⟨ql, qr, hyk, hyl, hyr⟩ := hy
  refine enter_rule 49 [(0, .pointer (some ⟨k, 0, none⟩)), (1, .pointer (some ⟨q, 0, none⟩))] Try.func15 rfl (by kernel_rfl) ?_
  intro w s
  refine wp_seq ?_
  refine region_rule ?_
  refine ops_rule (C := []) [] [] 1 [] 0 (fun φ1 => [(4, .pointer none)]) (fun φ1 => []) (fun φ1 => []) s trivial (fun φ1 => by kernel_rfl) ?_
  intro φ1 w1 s
  refine ops_done (by kernel_rfl) ?_
  refine wp_seq ?_
  refine wp_seq ?_
  refine region_rule ?_
  refine ops_rule (C := [(k, .cells #[.int .i64 1, .pointer none, .pointer none] 73), (q, .cells #[.int .i64 2, .pointer (some ⟨ql, 0, none⟩), .pointer (some ⟨qr, 0, none⟩)] 73)]) [] [] 12 [.c 0, .c 1] 0 (fun φ2 => [(16, .bool false), (15, .bool false), (14, .int .i64 2), (13, .pointer (some ⟨q, 0, none⟩)), (12, .pointer (some ⟨q, 0, none⟩)), (11, .pointer (some ⟨q, 0, none⟩)), (10, .bool false), (9, .bool false), (8, .int .i64 1), (7, .pointer (some ⟨k, 0, none⟩)), (6, .pointer (some ⟨k, 0, none⟩)), (5, .pointer (some ⟨k, 0, none⟩))]) (fun φ2 => []) (fun φ2 => [k, q]) s ⟨hx, ⟨hyk, trivial⟩⟩ (fun φ2 => by kernel_rfl) ?_
  intro φ2 w2 s
  refine ops_done (by kernel_rfl) ?_
  refine cond_false_rule (b := false) (by kernel_rfl) rfl ?_
  refine wp_skip ?_
  refine wp_seq ?_
  refine wp_seq ?_
  refine region_rule ?_
  refine ops_rule (C := [(k, .cells #[.int .i64 1, .pointer none, .pointer none] 73)]) [] [] 5 [.c 0] 0 (fun φ3 => [(22, .bool true), (21, .int .i64 1), (20, .pointer (some ⟨k, 0, none⟩)), (19, .pointer (some ⟨k, 0, none⟩)), (18, .pointer (some ⟨k, 0, none⟩))]) (fun φ3 => []) (fun φ3 => [k]) s ⟨hx, trivial⟩ (fun φ3 => by kernel_rfl) ?_
  intro φ3 w3 s
  refine ops_done (by kernel_rfl) ?_
  refine cond_true_rule (b := true) (by kernel_rfl) rfl ?_
  refine wp_seq ?_
  refine region_rule ?_
  refine ops_rule (C := []) [] [] 2 [] 0 (fun φ4 => [(4, .pointer (some ⟨q, 0, none⟩)), (23, .pointer (some ⟨q, 0, none⟩))]) (fun φ4 => []) (fun φ4 => []) s trivial (fun φ4 => by kernel_rfl) ?_
  intro φ4 w4 s
  refine ops_done (by kernel_rfl) ?_
  refine wp_ret ?_
  refine ret_rule (C := []) [] [] (.pointer (some ⟨q, 0, none⟩)) [] [] s trivial (by kernel_rfl) ?_
  exact ⟨_, _, _, rfl, s, ⟨_, rfl, hyn⟩⟩

set_option maxHeartbeats 1000000 in
theorem rboth_node_zero {I : IM} {l r : T} {k q : Nat} (hx : RT I (T.node l r) k) (hy : RT I T.zero q) : Fun Try.prog 15 #[.pointer (some ⟨k, 0, none⟩), .pointer (some ⟨q, 0, none⟩)] I (fun v J => ∃ k, v = .pointer (some ⟨k, 0, none⟩) ∧ RT J (bothT (T.node l r) T.zero) k) := by
  have hxn := hx
  obtain ⟨kl, kr, hxk, hxl, hxr⟩ := hx
  have hyz : RT _ T.zero q := hy
  refine enter_rule 49 [(0, .pointer (some ⟨k, 0, none⟩)), (1, .pointer (some ⟨q, 0, none⟩))] Try.func15 rfl (by kernel_rfl) ?_
  intro w s
  refine wp_seq ?_
  refine region_rule ?_
  refine ops_rule (C := []) [] [] 1 [] 0 (fun φ1 => [(4, .pointer none)]) (fun φ1 => []) (fun φ1 => []) s trivial (fun φ1 => by kernel_rfl) ?_
  intro φ1 w1 s
  refine ops_done (by kernel_rfl) ?_
  refine wp_seq ?_
  refine wp_seq ?_
  refine region_rule ?_
  refine ops_rule (C := [(k, .cells #[.int .i64 2, .pointer (some ⟨kl, 0, none⟩), .pointer (some ⟨kr, 0, none⟩)] 73), (q, .cells #[.int .i64 0, .pointer none, .pointer none] 73)]) [] [] 12 [.c 0, .c 1] 0 (fun φ2 => [(16, .bool true), (15, .bool true), (14, .int .i64 0), (13, .pointer (some ⟨q, 0, none⟩)), (12, .pointer (some ⟨q, 0, none⟩)), (11, .pointer (some ⟨q, 0, none⟩)), (10, .bool false), (9, .bool false), (8, .int .i64 2), (7, .pointer (some ⟨k, 0, none⟩)), (6, .pointer (some ⟨k, 0, none⟩)), (5, .pointer (some ⟨k, 0, none⟩))]) (fun φ2 => []) (fun φ2 => [k, q]) s ⟨hxk, ⟨hy, trivial⟩⟩ (fun φ2 => by kernel_rfl) ?_
  intro φ2 w2 s
  refine ops_done (by kernel_rfl) ?_
  refine cond_true_rule (b := true) (by kernel_rfl) rfl ?_
  refine wp_seq ?_
  refine region_rule ?_
  refine call_rule (some 17) s (rzero_c) (by kernel_rfl) ?_
  intro v3 I3 w3 le3 h3 s
  replace hxl := RT.mono le3 hxl
  replace hxr := RT.mono le3 hxr
  replace hxn := RT.mono le3 hxn
  replace hyz := RT.mono le3 hyz
  replace hxk := le3 _ _ hxk
  replace hy := le3 _ _ hy
  obtain ⟨k3, rfl, h3_0⟩ := h3
  refine ops_rule (C := []) [] [] 1 [] 0 (fun φ4 => [(4, .pointer (some ⟨k3, 0, none⟩))]) (fun φ4 => []) (fun φ4 => []) s trivial (fun φ4 => by kernel_rfl) ?_
  intro φ4 w4 s
  refine ops_done (by kernel_rfl) ?_
  refine wp_ret ?_
  refine ret_rule (C := []) [] [] (.pointer (some ⟨k3, 0, none⟩)) [] [] s trivial (by kernel_rfl) ?_
  exact ⟨_, _, _, rfl, s, ⟨_, rfl, h3_0⟩⟩

set_option maxHeartbeats 1000000 in
theorem rboth_node_one {I : IM} {l r : T} {k q : Nat} (hx : RT I (T.node l r) k) (hy : RT I T.one q) : Fun Try.prog 15 #[.pointer (some ⟨k, 0, none⟩), .pointer (some ⟨q, 0, none⟩)] I (fun v J => ∃ k, v = .pointer (some ⟨k, 0, none⟩) ∧ RT J (bothT (T.node l r) T.one) k) := by
  have hxn := hx
  obtain ⟨kl, kr, hxk, hxl, hxr⟩ := hx
  have hyz : RT _ T.one q := hy
  refine enter_rule 49 [(0, .pointer (some ⟨k, 0, none⟩)), (1, .pointer (some ⟨q, 0, none⟩))] Try.func15 rfl (by kernel_rfl) ?_
  intro w s
  refine wp_seq ?_
  refine region_rule ?_
  refine ops_rule (C := []) [] [] 1 [] 0 (fun φ1 => [(4, .pointer none)]) (fun φ1 => []) (fun φ1 => []) s trivial (fun φ1 => by kernel_rfl) ?_
  intro φ1 w1 s
  refine ops_done (by kernel_rfl) ?_
  refine wp_seq ?_
  refine wp_seq ?_
  refine region_rule ?_
  refine ops_rule (C := [(k, .cells #[.int .i64 2, .pointer (some ⟨kl, 0, none⟩), .pointer (some ⟨kr, 0, none⟩)] 73), (q, .cells #[.int .i64 1, .pointer none, .pointer none] 73)]) [] [] 12 [.c 0, .c 1] 0 (fun φ2 => [(16, .bool false), (15, .bool false), (14, .int .i64 1), (13, .pointer (some ⟨q, 0, none⟩)), (12, .pointer (some ⟨q, 0, none⟩)), (11, .pointer (some ⟨q, 0, none⟩)), (10, .bool false), (9, .bool false), (8, .int .i64 2), (7, .pointer (some ⟨k, 0, none⟩)), (6, .pointer (some ⟨k, 0, none⟩)), (5, .pointer (some ⟨k, 0, none⟩))]) (fun φ2 => []) (fun φ2 => [k, q]) s ⟨hxk, ⟨hy, trivial⟩⟩ (fun φ2 => by kernel_rfl) ?_
  intro φ2 w2 s
  refine ops_done (by kernel_rfl) ?_
  refine cond_false_rule (b := false) (by kernel_rfl) rfl ?_
  refine wp_skip ?_
  refine wp_seq ?_
  refine wp_seq ?_
  refine region_rule ?_
  refine ops_rule (C := [(k, .cells #[.int .i64 2, .pointer (some ⟨kl, 0, none⟩), .pointer (some ⟨kr, 0, none⟩)] 73)]) [] [] 5 [.c 0] 0 (fun φ3 => [(22, .bool false), (21, .int .i64 2), (20, .pointer (some ⟨k, 0, none⟩)), (19, .pointer (some ⟨k, 0, none⟩)), (18, .pointer (some ⟨k, 0, none⟩))]) (fun φ3 => []) (fun φ3 => [k]) s ⟨hxk, trivial⟩ (fun φ3 => by kernel_rfl) ?_
  intro φ3 w3 s
  refine ops_done (by kernel_rfl) ?_
  refine cond_false_rule (b := false) (by kernel_rfl) rfl ?_
  refine wp_skip ?_
  refine wp_seq ?_
  refine wp_seq ?_
  refine region_rule ?_
  refine ops_rule (C := [(q, .cells #[.int .i64 1, .pointer none, .pointer none] 73)]) [] [] 5 [.c 0] 0 (fun φ4 => [(28, .bool true), (27, .int .i64 1), (26, .pointer (some ⟨q, 0, none⟩)), (25, .pointer (some ⟨q, 0, none⟩)), (24, .pointer (some ⟨q, 0, none⟩))]) (fun φ4 => []) (fun φ4 => [q]) s ⟨hy, trivial⟩ (fun φ4 => by kernel_rfl) ?_
  intro φ4 w4 s
  refine ops_done (by kernel_rfl) ?_
  refine cond_true_rule (b := true) (by kernel_rfl) rfl ?_
  refine wp_seq ?_
  refine region_rule ?_
  refine ops_rule (C := []) [] [] 2 [] 0 (fun φ5 => [(4, .pointer (some ⟨k, 0, none⟩)), (29, .pointer (some ⟨k, 0, none⟩))]) (fun φ5 => []) (fun φ5 => []) s trivial (fun φ5 => by kernel_rfl) ?_
  intro φ5 w5 s
  refine ops_done (by kernel_rfl) ?_
  refine wp_ret ?_
  refine ret_rule (C := []) [] [] (.pointer (some ⟨k, 0, none⟩)) [] [] s trivial (by kernel_rfl) ?_
  exact ⟨_, _, _, rfl, s, ⟨_, rfl, hxn⟩⟩

set_option maxHeartbeats 1000000 in
theorem rboth_node_node {I : IM} {l r : T} {l' r' : T} {k q : Nat} (hx : RT I (T.node l r) k) (hy : RT I (T.node l' r') q) (ihl : ∀ {J : IM} {k1 k2 : Nat}, RT J l k1 → RT J l' k2 → Fun Try.prog 15 #[.pointer (some ⟨k1, 0, none⟩), .pointer (some ⟨k2, 0, none⟩)] J (fun v J => ∃ k, v = .pointer (some ⟨k, 0, none⟩) ∧ RT J (bothT l l') k)) (ihr : ∀ {J : IM} {k1 k2 : Nat}, RT J r k1 → RT J r' k2 → Fun Try.prog 15 #[.pointer (some ⟨k1, 0, none⟩), .pointer (some ⟨k2, 0, none⟩)] J (fun v J => ∃ k, v = .pointer (some ⟨k, 0, none⟩) ∧ RT J (bothT r r') k)) : Fun Try.prog 15 #[.pointer (some ⟨k, 0, none⟩), .pointer (some ⟨q, 0, none⟩)] I (fun v J => ∃ k, v = .pointer (some ⟨k, 0, none⟩) ∧ RT J (bothT (T.node l r) (T.node l' r')) k) := by
  have hxn := hx
  obtain ⟨kl, kr, hxk, hxl, hxr⟩ := hx
  have hyn := hy
  obtain ⟨ql, qr, hyk, hyl, hyr⟩ := hy
  refine enter_rule 49 [(0, .pointer (some ⟨k, 0, none⟩)), (1, .pointer (some ⟨q, 0, none⟩))] Try.func15 rfl (by kernel_rfl) ?_
  intro w s
  refine wp_seq ?_
  refine region_rule ?_
  refine ops_rule (C := []) [] [] 1 [] 0 (fun φ1 => [(4, .pointer none)]) (fun φ1 => []) (fun φ1 => []) s trivial (fun φ1 => by kernel_rfl) ?_
  intro φ1 w1 s
  refine ops_done (by kernel_rfl) ?_
  refine wp_seq ?_
  refine wp_seq ?_
  refine region_rule ?_
  refine ops_rule (C := [(k, .cells #[.int .i64 2, .pointer (some ⟨kl, 0, none⟩), .pointer (some ⟨kr, 0, none⟩)] 73), (q, .cells #[.int .i64 2, .pointer (some ⟨ql, 0, none⟩), .pointer (some ⟨qr, 0, none⟩)] 73)]) [] [] 12 [.c 0, .c 1] 0 (fun φ2 => [(16, .bool false), (15, .bool false), (14, .int .i64 2), (13, .pointer (some ⟨q, 0, none⟩)), (12, .pointer (some ⟨q, 0, none⟩)), (11, .pointer (some ⟨q, 0, none⟩)), (10, .bool false), (9, .bool false), (8, .int .i64 2), (7, .pointer (some ⟨k, 0, none⟩)), (6, .pointer (some ⟨k, 0, none⟩)), (5, .pointer (some ⟨k, 0, none⟩))]) (fun φ2 => []) (fun φ2 => [k, q]) s ⟨hxk, ⟨hyk, trivial⟩⟩ (fun φ2 => by kernel_rfl) ?_
  intro φ2 w2 s
  refine ops_done (by kernel_rfl) ?_
  refine cond_false_rule (b := false) (by kernel_rfl) rfl ?_
  refine wp_skip ?_
  refine wp_seq ?_
  refine wp_seq ?_
  refine region_rule ?_
  refine ops_rule (C := [(k, .cells #[.int .i64 2, .pointer (some ⟨kl, 0, none⟩), .pointer (some ⟨kr, 0, none⟩)] 73)]) [] [] 5 [.c 0] 0 (fun φ3 => [(22, .bool false), (21, .int .i64 2), (20, .pointer (some ⟨k, 0, none⟩)), (19, .pointer (some ⟨k, 0, none⟩)), (18, .pointer (some ⟨k, 0, none⟩))]) (fun φ3 => []) (fun φ3 => [k]) s ⟨hxk, trivial⟩ (fun φ3 => by kernel_rfl) ?_
  intro φ3 w3 s
  refine ops_done (by kernel_rfl) ?_
  refine cond_false_rule (b := false) (by kernel_rfl) rfl ?_
  refine wp_skip ?_
  refine wp_seq ?_
  refine wp_seq ?_
  refine region_rule ?_
  refine ops_rule (C := [(q, .cells #[.int .i64 2, .pointer (some ⟨ql, 0, none⟩), .pointer (some ⟨qr, 0, none⟩)] 73)]) [] [] 5 [.c 0] 0 (fun φ4 => [(28, .bool false), (27, .int .i64 2), (26, .pointer (some ⟨q, 0, none⟩)), (25, .pointer (some ⟨q, 0, none⟩)), (24, .pointer (some ⟨q, 0, none⟩))]) (fun φ4 => []) (fun φ4 => [q]) s ⟨hyk, trivial⟩ (fun φ4 => by kernel_rfl) ?_
  intro φ4 w4 s
  refine ops_done (by kernel_rfl) ?_
  refine cond_false_rule (b := false) (by kernel_rfl) rfl ?_
  refine wp_skip ?_
  refine wp_seq ?_
  refine draw_rule (C := [(k, .cells #[.int .i64 2, .pointer (some ⟨kl, 0, none⟩), .pointer (some ⟨kr, 0, none⟩)] 73), (q, .cells #[.int .i64 2, .pointer (some ⟨ql, 0, none⟩), .pointer (some ⟨qr, 0, none⟩)] 73)]) ⟨(fun φ5 xs5 => [.look 0 [] [], .look 0 [] [], .look 0 [] [], .look 0 [.c 0] [k], .look 0 [] [], .look 0 [] [], .look 0 [] [], .look 0 [.c 1] [q], .call 15 #[.pointer (some ⟨kl, 0, none⟩), .pointer (some ⟨ql, 0, none⟩)], .look 0 [] [], .look 0 [] [], .look 0 [] [], .look 0 [.c 0] [k], .look 0 [] [], .look 0 [] [], .look 0 [] [], .look 0 [.c 1] [q], .call 15 #[.pointer (some ⟨kr, 0, none⟩), .pointer (some ⟨qr, 0, none⟩)], .call 38 #[.pointer (some ⟨(xs5 8).n 0, 0, none⟩), .pointer (some ⟨(xs5 17).n 0, 0, none⟩)], .look 0 [] []]), (fun φ5 xs5 => [.pointer (some ⟨k, 0, none⟩), .pointer (some ⟨k, 0, none⟩), .pointer (some ⟨k, 1, none⟩), .pointer (some ⟨kl, 0, none⟩), .pointer (some ⟨q, 0, none⟩), .pointer (some ⟨q, 0, none⟩), .pointer (some ⟨q, 1, none⟩), .pointer (some ⟨ql, 0, none⟩), .pointer (some ⟨(xs5 8).n 0, 0, none⟩), .pointer (some ⟨k, 0, none⟩), .pointer (some ⟨k, 0, none⟩), .pointer (some ⟨k, 2, none⟩), .pointer (some ⟨kr, 0, none⟩), .pointer (some ⟨q, 0, none⟩), .pointer (some ⟨q, 0, none⟩), .pointer (some ⟨q, 2, none⟩), .pointer (some ⟨qr, 0, none⟩), .pointer (some ⟨(xs5 17).n 0, 0, none⟩), .pointer (some ⟨(xs5 18).n 0, 0, none⟩), .pointer (some ⟨(xs5 18).n 0, 0, none⟩)]), (fun φ5 xs5 => [[]]), (fun φ5 xs5 => [[default, default, default, default, default, default, default, default, default, default, default, default, default, default, default, default, default, default, default, default]]), [], [1, 1, 1, 1, 1, 1, 1, 1, 3, 1, 1, 1, 1, 1, 1, 1, 1, 3, 3, 1]⟩ (fun j => ([MP.any, MP.any, MP.any, MP.any, MP.any, MP.any, MP.any, MP.any, ⟨fun x J => RT J (bothT l l') (x.n 0), fun le h => RT.mono le h⟩, MP.any, MP.any, MP.any, MP.any, MP.any, MP.any, MP.any, MP.any, ⟨fun x J => RT J (bothT r r') (x.n 0), fun le h => RT.mono le h⟩, ⟨fun x J => RT J (T.mk (bothT l l') (bothT r r')) (x.n 0), fun le h => RT.mono le h⟩, MP.any] : List MP).getD j MP.any) [8, 17, 18] [] [] (fun φ5 xs5 => []) (fun φ5 xs5 => [(30, .pointer (some ⟨k, 0, none⟩)), (31, .pointer (some ⟨k, 0, none⟩)), (32, .pointer (some ⟨k, 1, none⟩)), (33, .pointer (some ⟨kl, 0, none⟩)), (34, .pointer (some ⟨q, 0, none⟩)), (35, .pointer (some ⟨q, 0, none⟩)), (36, .pointer (some ⟨q, 1, none⟩)), (37, .pointer (some ⟨ql, 0, none⟩)), (38, .pointer (some ⟨(xs5 8).n 0, 0, none⟩)), (39, .pointer (some ⟨k, 0, none⟩)), (40, .pointer (some ⟨k, 0, none⟩)), (41, .pointer (some ⟨k, 2, none⟩)), (42, .pointer (some ⟨kr, 0, none⟩)), (43, .pointer (some ⟨q, 0, none⟩)), (44, .pointer (some ⟨q, 0, none⟩)), (45, .pointer (some ⟨q, 2, none⟩)), (46, .pointer (some ⟨qr, 0, none⟩)), (47, .pointer (some ⟨(xs5 17).n 0, 0, none⟩)), (48, .pointer (some ⟨(xs5 18).n 0, 0, none⟩)), (4, .pointer (some ⟨(xs5 18).n 0, 0, none⟩))]) (fun φ5 xs5 => []) s ⟨hxk, ⟨hyk, trivial⟩⟩ (by kernel_rfl) (by kernel_rfl) (fun _ _ => by kernel_rfl) (fun _ _ => by kernel_rfl) ⟨fun _ _ => by kernel_rfl, fun _ _ => by kernel_rfl, fun _ _ => by kernel_rfl, fun _ _ => by kernel_rfl⟩ (fun _ _ _ => by kernel_rfl) (fun _ _ => by kernel_rfl) (fun _ _ => by kernel_rfl) (fun _ _ => by kernel_rfl) (fun _ _ => by kernel_rfl) (fun _ _ => by kernel_rfl) trivial trivial (by kernel_rfl) ⟨?c5_8, ?c5_17, ?c5_18, trivial⟩ ?k5
  case c5_8 =>
    refine kcast (A := ∀ (φ5 : Nat → Nat) (xs5 : Xs) (J8_5 : IM), I.Le J8_5 → Fun Try.prog 15 #[.pointer (some ⟨kl, 0, none⟩), .pointer (some ⟨ql, 0, none⟩)] J8_5 (fun v J' => ∃ x : UX, v = .pointer (some ⟨x.n 0, 0, none⟩) ∧ (RT J' (bothT l l') (x.n 0)))) (by kernel_rfl) ?_
    intro φ5 xs5 J8_5 leJ
    have hxl := RT.mono leJ hxl
    have hyl := RT.mono leJ hyl
    exact Fun.mono (ihl hxl hyl) (fun v J' _ ⟨y0, hv, g0⟩ => ⟨{ UX.d with n := fun j => y0 }, hv, g0⟩)
  case c5_17 =>
    refine kcast (A := ∀ (φ5 : Nat → Nat) (xs5 : Xs) (J17_5 : IM), I.Le J17_5 → (RT J17_5 (bothT l l') ((xs5 8).n 0)) → Fun Try.prog 15 #[.pointer (some ⟨kr, 0, none⟩), .pointer (some ⟨qr, 0, none⟩)] J17_5 (fun v J' => ∃ x : UX, v = .pointer (some ⟨x.n 0, 0, none⟩) ∧ (RT J' (bothT r r') (x.n 0)))) (by kernel_rfl) ?_
    intro φ5 xs5 J17_5 leJ
    rintro h5_8_0
    have hxr := RT.mono leJ hxr
    have hyr := RT.mono leJ hyr
    exact Fun.mono (ihr hxr hyr) (fun v J' _ ⟨y0, hv, g0⟩ => ⟨{ UX.d with n := fun j => y0 }, hv, g0⟩)
  case c5_18 =>
    refine kcast (A := ∀ (φ5 : Nat → Nat) (xs5 : Xs) (J18_5 : IM), I.Le J18_5 → (RT J18_5 (bothT l l') ((xs5 8).n 0)) → (RT J18_5 (bothT r r') ((xs5 17).n 0)) → Fun Try.prog 38 #[.pointer (some ⟨(xs5 8).n 0, 0, none⟩), .pointer (some ⟨(xs5 17).n 0, 0, none⟩)] J18_5 (fun v J' => ∃ x : UX, v = .pointer (some ⟨x.n 0, 0, none⟩) ∧ (RT J' (T.mk (bothT l l') (bothT r r')) (x.n 0)))) (by kernel_rfl) ?_
    intro φ5 xs5 J18_5 leJ
    rintro h5_8_0 h5_17_0
    exact Fun.mono (rpair_c h5_8_0 h5_17_0) (fun v J' _ ⟨y0, hv, g0⟩ => ⟨{ UX.d with n := fun j => y0 }, hv, g0⟩)
  case k5 =>
    rintro φ5 xs5 I5 w5 le5 s h5_8_0 h5_17_0 h5_18_0
    replace hxl := RT.mono le5 hxl
    replace hxr := RT.mono le5 hxr
    replace hxn := RT.mono le5 hxn
    replace hyl := RT.mono le5 hyl
    replace hyr := RT.mono le5 hyr
    replace hyn := RT.mono le5 hyn
    replace hxk := le5 _ _ hxk
    replace hyk := le5 _ _ hyk
    refine wp_ret ?_
    refine ret_rule (C := []) [] [] (.pointer (some ⟨(xs5 18).n 0, 0, none⟩)) [] [] s trivial (by kernel_rfl) ?_
    exact ⟨_, _, _, rfl, s, ⟨_, rfl, h5_18_0⟩⟩

theorem rboth_c : ∀ (A B : T) {I : IM} {k q : Nat}, RT I A k → RT I B q → Fun Try.prog 15 #[.pointer (some ⟨k, 0, none⟩), .pointer (some ⟨q, 0, none⟩)] I (fun v J => ∃ k, v = .pointer (some ⟨k, 0, none⟩) ∧ RT J (bothT A B) k)
  | .zero, B, _, _, _, h1, h2 => rboth_zero_zero h1 h2
  | .one, .zero, _, _, _, h1, h2 => rboth_one_zero h1 h2
  | .one, .one, _, _, _, h1, h2 => rboth_one_one h1 h2
  | .one, .node _ _, _, _, _, h1, h2 => rboth_one_node h1 h2
  | .node _ _, .zero, _, _, _, h1, h2 => rboth_node_zero h1 h2
  | .node _ _, .one, _, _, _, h1, h2 => rboth_node_one h1 h2
  | .node l r, .node l' r', _, _, _, h1, h2 => rboth_node_node h1 h2 (fun a b => rboth_c l l' a b) (fun a b => rboth_c r r' a b)

set_option maxHeartbeats 2000000 in
theorem rs_zero {I : IM} {q a k : Nat} (h : RT I T.zero q) (hc : cntT T.zero ≤ 100000) (ha : a + 2 ^ k ≤ 65536) : FunM Try.prog 11 #[.pointer (some ⟨q, 0, none⟩), .int .u64 ((a : Nat) : Int), .int .u64 ((2 ^ k : Nat) : Int)] I [] (fun v J F' => RowH 39 2 v (cntT T.zero) (sps (spT T.zero a k)) F') := by
  have hz : RT _ T.zero q := h
  refine enterM_rule 41 [(0, .pointer (some ⟨q, 0, none⟩)), (1, .int .u64 ((a : Nat) : Int)), (2, .int .u64 ((2 ^ k : Nat) : Int))] Try.func11 rfl (by kernel_rfl) ?_
  intro w s
  refine wp_seq ?_
  refine region_rule ?_
  refine ops_rule (C := []) [] [] 1 [] 0 (fun φ1 => [(6, .slice none 0 0)]) (fun φ1 => []) (fun φ1 => []) s trivial (fun φ1 => by kernel_rfl) ?_
  intro φ1 w1 s
  refine ops_done (by kernel_rfl) ?_
  refine wp_seq ?_
  refine wp_seq ?_
  refine region_rule ?_
  refine ops_rule (C := [(q, .cells #[.int .i64 0, .pointer none, .pointer none] 73)]) [] [] 5 [.c 0] 0 (fun φ2 => [(11, .bool true), (10, .int .i64 0), (9, .pointer (some ⟨q, 0, none⟩)), (8, .pointer (some ⟨q, 0, none⟩)), (7, .pointer (some ⟨q, 0, none⟩))]) (fun φ2 => []) (fun φ2 => [q]) s ⟨h, trivial⟩ (fun φ2 => by kernel_rfl) ?_
  intro φ2 w2 s
  refine ops_done (by kernel_rfl) ?_
  refine cond_true_rule (b := true) (by kernel_rfl) rfl ?_
  refine wp_seq ?_
  refine region_rule ?_
  refine ops_rule (C := []) [] [] 1 [] 0 (fun φ3 => [(6, .slice none 0 0)]) (fun φ3 => []) (fun φ3 => []) s trivial (fun φ3 => by kernel_rfl) ?_
  intro φ3 w3 s
  refine ops_done (by kernel_rfl) ?_
  refine wp_ret ?_
  refine ret_rule (C := []) [] [] (.slice none 0 0) [] [] s trivial (by kernel_rfl) ?_
  replace s := s.drop (List.sublist_append_right [] [])
  exact ⟨_, _, _, rfl, s, (RowH.nil 39 2)⟩

set_option maxHeartbeats 2000000 in
theorem rs_one {I : IM} {q a k : Nat} (h : RT I T.one q) (hc : cntT T.one ≤ 100000) (ha : a + 2 ^ k ≤ 65536) : FunM Try.prog 11 #[.pointer (some ⟨q, 0, none⟩), .int .u64 ((a : Nat) : Int), .int .u64 ((2 ^ k : Nat) : Int)] I [] (fun v J F' => RowH 39 2 v (cntT T.one) (sps (spT T.one a k)) F') := by
  have hz : RT _ T.one q := h
  refine enterM_rule 41 [(0, .pointer (some ⟨q, 0, none⟩)), (1, .int .u64 ((a : Nat) : Int)), (2, .int .u64 ((2 ^ k : Nat) : Int))] Try.func11 rfl (by kernel_rfl) ?_
  intro w s
  refine wp_seq ?_
  refine region_rule ?_
  refine ops_rule (C := []) [] [] 1 [] 0 (fun φ1 => [(6, .slice none 0 0)]) (fun φ1 => []) (fun φ1 => []) s trivial (fun φ1 => by kernel_rfl) ?_
  intro φ1 w1 s
  refine ops_done (by kernel_rfl) ?_
  refine wp_seq ?_
  refine wp_seq ?_
  refine region_rule ?_
  refine ops_rule (C := [(q, .cells #[.int .i64 1, .pointer none, .pointer none] 73)]) [] [] 5 [.c 0] 0 (fun φ2 => [(11, .bool false), (10, .int .i64 1), (9, .pointer (some ⟨q, 0, none⟩)), (8, .pointer (some ⟨q, 0, none⟩)), (7, .pointer (some ⟨q, 0, none⟩))]) (fun φ2 => []) (fun φ2 => [q]) s ⟨h, trivial⟩ (fun φ2 => by kernel_rfl) ?_
  intro φ2 w2 s
  refine ops_done (by kernel_rfl) ?_
  refine cond_false_rule (b := false) (by kernel_rfl) rfl ?_
  refine wp_skip ?_
  refine wp_seq ?_
  refine wp_seq ?_
  refine region_rule ?_
  refine ops_rule (C := [(q, .cells #[.int .i64 1, .pointer none, .pointer none] 73)]) [] [] 5 [.c 0] 0 (fun φ3 => [(16, .bool true), (15, .int .i64 1), (14, .pointer (some ⟨q, 0, none⟩)), (13, .pointer (some ⟨q, 0, none⟩)), (12, .pointer (some ⟨q, 0, none⟩))]) (fun φ3 => []) (fun φ3 => [q]) s ⟨h, trivial⟩ (fun φ3 => by kernel_rfl) ?_
  intro φ3 w3 s
  refine ops_done (by kernel_rfl) ?_
  refine cond_true_rule (b := true) (by kernel_rfl) rfl ?_
  refine wp_seq ?_
  refine region_rule ?_
  refine ops_rule (C := []) [] [] 5 [] 1 (fun φ4 => [(6, .slice (some ⟨(φ4 0), 0, none⟩) 1 1), (20, .slice (some ⟨(φ4 0), 0, none⟩) 1 1), (19, .agg #[.int .u64 ((a : Nat) : Int), .int .u64 ((2 ^ k : Nat) : Int)]), (18, .int .u64 ((2 ^ k : Nat) : Int)), (17, .int .u64 ((a : Nat) : Int))]) (fun φ4 => [((φ4 0), .cells #[.int .u64 ((a : Nat) : Int), .int .u64 ((2 ^ k : Nat) : Int)] 39)]) (fun φ4 => []) s trivial (fun φ4 => by kernel_rfl) ?_
  intro φ4 w4 s
  refine ops_done (by kernel_rfl) ?_
  refine wp_ret ?_
  refine ret_rule (C := []) [((φ4 0), .cells #[.int .u64 ((a : Nat) : Int), .int .u64 ((2 ^ k : Nat) : Int)] 39)] [] (.slice (some ⟨(φ4 0), 0, none⟩) 1 1) [] [] s trivial (by kernel_rfl) ?_
  replace s := s.drop (List.Sublist.append (List.Sublist.cons₂ _ List.Sublist.slnil) (List.Sublist.refl []))
  exact ⟨_, _, _, rfl, s, row_one39 _ a (2 ^ k)⟩

set_option maxHeartbeats 2000000 in
theorem rs_node {I : IM} {l r : T} {q a k : Nat} (h : RT I (T.node l r) q) (hc : cntT (T.node l r) ≤ 100000) (ha : a + 2 * 2 ^ k ≤ 65536) (ihl : ∀ {I : IM} {q : Nat}, RT I l q → FunM Try.prog 11 #[.pointer (some ⟨q, 0, none⟩), .int .u64 ((a : Nat) : Int), .int .u64 ((2 ^ k : Nat) : Int)] I [] (fun v J F' => RowH 39 2 v (cntT l) (sps (spT l a k)) F')) (ihr : ∀ {I : IM} {q : Nat}, RT I r q → FunM Try.prog 11 #[.pointer (some ⟨q, 0, none⟩), .int .u64 (((a + 2 ^ k) : Nat) : Int), .int .u64 ((2 ^ k : Nat) : Int)] I [] (fun v J F' => RowH 39 2 v (cntT r) (sps (spT r (a + 2 ^ k) k)) F')) : FunM Try.prog 11 #[.pointer (some ⟨q, 0, none⟩), .int .u64 ((a : Nat) : Int), .int .u64 ((2 * 2 ^ k : Nat) : Int)] I [] (fun v J F' => RowH 39 2 v (cntT (T.node l r)) (sps (spT (T.node l r) a (k + 1))) F') := by
  have hn := h
  obtain ⟨ql, qr, hk, hl, hr⟩ := h
  have hc1 : cntT l + cntT r ≤ 100000 := hc
  have hl1 := spT_length l a k
  have hl2 := spT_length r (a + 2 ^ k) k
  refine enterM_rule 41 [(0, .pointer (some ⟨q, 0, none⟩)), (1, .int .u64 ((a : Nat) : Int)), (2, .int .u64 ((2 * 2 ^ k : Nat) : Int))] Try.func11 rfl (by kernel_rfl) ?_
  intro w s
  refine wp_seq ?_
  refine region_rule ?_
  refine ops_rule (C := []) [] [] 1 [] 0 (fun φ1 => [(6, .slice none 0 0)]) (fun φ1 => []) (fun φ1 => []) s trivial (fun φ1 => by kernel_rfl) ?_
  intro φ1 w1 s
  refine ops_done (by kernel_rfl) ?_
  refine wp_seq ?_
  refine wp_seq ?_
  refine region_rule ?_
  refine ops_rule (C := [(q, .cells #[.int .i64 2, .pointer (some ⟨ql, 0, none⟩), .pointer (some ⟨qr, 0, none⟩)] 73)]) [] [] 5 [.c 0] 0 (fun φ2 => [(11, .bool false), (10, .int .i64 2), (9, .pointer (some ⟨q, 0, none⟩)), (8, .pointer (some ⟨q, 0, none⟩)), (7, .pointer (some ⟨q, 0, none⟩))]) (fun φ2 => []) (fun φ2 => [q]) s ⟨hk, trivial⟩ (fun φ2 => by kernel_rfl) ?_
  intro φ2 w2 s
  refine ops_done (by kernel_rfl) ?_
  refine cond_false_rule (b := false) (by kernel_rfl) rfl ?_
  refine wp_skip ?_
  refine wp_seq ?_
  refine wp_seq ?_
  refine region_rule ?_
  refine ops_rule (C := [(q, .cells #[.int .i64 2, .pointer (some ⟨ql, 0, none⟩), .pointer (some ⟨qr, 0, none⟩)] 73)]) [] [] 5 [.c 0] 0 (fun φ3 => [(16, .bool false), (15, .int .i64 2), (14, .pointer (some ⟨q, 0, none⟩)), (13, .pointer (some ⟨q, 0, none⟩)), (12, .pointer (some ⟨q, 0, none⟩))]) (fun φ3 => []) (fun φ3 => [q]) s ⟨hk, trivial⟩ (fun φ3 => by kernel_rfl) ?_
  intro φ3 w3 s
  refine ops_done (by kernel_rfl) ?_
  refine cond_false_rule (b := false) (by kernel_rfl) rfl ?_
  refine wp_skip ?_
  refine wp_seq ?_
  have hH4 := IM.Le.refl I
  refine held_begin (n := 21) (SubS I) (by kernel_rfl) (by kernel_rfl) ?_
  replace s := St.drew s
  refine held_take (fuel := 20) [] [] 0 (.pointer (some ⟨q, 0, none⟩)) (some 21) [] (I := I) trivial (by kernel_rfl) (by kernel_rfl) (by kernel_rfl) (by kernel_rfl) (by kernel_rfl) (fun _ d' _ _ _ h => by cases d' <;> exact h) (by kernel_rfl) (by kernel_rfl) s.sub ?_
  refine held_take (fuel := 19) [] [] 1 (.pointer (some ⟨q, 0, none⟩)) (some 22) [] (I := I) trivial (by kernel_rfl) (by kernel_rfl) (by kernel_rfl) (by kernel_rfl) (by kernel_rfl) (fun _ d' _ _ _ h => by cases d' <;> exact h) (by kernel_rfl) (by kernel_rfl) s.sub ?_
  refine held_take (fuel := 18) [] [] 2 (.pointer (some ⟨q, 1, none⟩)) (some 23) [] (I := I) trivial (by kernel_rfl) (by kernel_rfl) (by kernel_rfl) (by kernel_rfl) (by kernel_rfl) (fun _ d' _ _ _ h => by cases d' <;> exact h) (by kernel_rfl) (by kernel_rfl) s.sub ?_
  refine held_take (fuel := 17) [(q, .cells #[.int .i64 2, .pointer (some ⟨ql, 0, none⟩), .pointer (some ⟨qr, 0, none⟩)] 73)] [.c 0] 3 (.pointer (some ⟨ql, 0, none⟩)) (some 24) [q] (I := I) ⟨hk, trivial⟩ (by kernel_rfl) (by kernel_rfl) (by kernel_rfl) (by kernel_rfl) (by kernel_rfl) (fun _ d' _ _ _ h => by cases d' <;> exact h) (by kernel_rfl) (by kernel_rfl) s.sub ?_
  refine held_take (fuel := 16) [] [] 4 (.int .u64 ((a : Nat) : Int)) (some 25) [] (I := I) trivial (by kernel_rfl) (by kernel_rfl) (by kernel_rfl) (by kernel_rfl) (by kernel_rfl) (fun _ d' _ _ _ h => by cases d' <;> exact h) (by kernel_rfl) (by kernel_rfl) s.sub ?_
  refine held_take (fuel := 15) [] [] 5 (.int .u64 ((2 * 2 ^ k : Nat) : Int)) (some 26) [] (I := I) trivial (by kernel_rfl) (by kernel_rfl) (by kernel_rfl) (by kernel_rfl) (by kernel_rfl) (fun _ d' _ _ _ h => by cases d' <;> exact h) (by kernel_rfl) (by kernel_rfl) s.sub ?_
  refine held_take (fuel := 14) [] [] 8 (.pointer (some ⟨q, 0, none⟩)) (some 29) [] (I := I) trivial (by kernel_rfl) (by kernel_rfl) (by kernel_rfl) (by kernel_rfl) (by kernel_rfl) (fun _ d' _ _ _ h => by cases d' <;> exact h) (by kernel_rfl) (by kernel_rfl) s.sub ?_
  refine held_take (fuel := 13) [] [] 9 (.pointer (some ⟨q, 0, none⟩)) (some 30) [] (I := I) trivial (by kernel_rfl) (by kernel_rfl) (by kernel_rfl) (by kernel_rfl) (by kernel_rfl) (fun _ d' _ _ _ h => by cases d' <;> exact h) (by kernel_rfl) (by kernel_rfl) s.sub ?_
  refine held_take (fuel := 12) [] [] 10 (.pointer (some ⟨q, 2, none⟩)) (some 31) [] (I := I) trivial (by kernel_rfl) (by kernel_rfl) (by kernel_rfl) (by kernel_rfl) (by kernel_rfl) (fun _ d' _ _ _ h => by cases d' <;> exact h) (by kernel_rfl) (by kernel_rfl) s.sub ?_
  refine held_take (fuel := 11) [(q, .cells #[.int .i64 2, .pointer (some ⟨ql, 0, none⟩), .pointer (some ⟨qr, 0, none⟩)] 73)] [.c 0] 11 (.pointer (some ⟨qr, 0, none⟩)) (some 32) [q] (I := I) ⟨hk, trivial⟩ (by kernel_rfl) (by kernel_rfl) (by kernel_rfl) (by kernel_rfl) (by kernel_rfl) (fun _ d' _ _ _ h => by cases d' <;> exact h) (by kernel_rfl) (by kernel_rfl) s.sub ?_
  refine held_take (fuel := 10) [] [] 12 (.int .u64 ((a : Nat) : Int)) (some 33) [] (I := I) trivial (by kernel_rfl) (by kernel_rfl) (by kernel_rfl) (by kernel_rfl) (by kernel_rfl) (fun _ d' _ _ _ h => by cases d' <;> exact h) (by kernel_rfl) (by kernel_rfl) s.sub ?_
  refine held_take (fuel := 9) [] [] 13 (.int .u64 ((2 * 2 ^ k : Nat) : Int)) (some 34) [] (I := I) trivial (by kernel_rfl) (by kernel_rfl) (by kernel_rfl) (by kernel_rfl) (by kernel_rfl) (fun _ d' _ _ _ h => by cases d' <;> exact h) (by kernel_rfl) (by kernel_rfl) s.sub ?_
  refine held_take (fuel := 8) [] [] 16 (.int .u64 ((2 * 2 ^ k : Nat) : Int)) (some 37) [] (I := I) trivial (by kernel_rfl) (by kernel_rfl) (by kernel_rfl) (by kernel_rfl) (by kernel_rfl) (fun _ d' _ _ _ h => by cases d' <;> exact h) (by kernel_rfl) (by kernel_rfl) s.sub ?_
  refine held_ran (fuel := 7) (binOp .quo 34 (.int .u64 ((2 * 2 ^ k : Nat) : Int)) (.int .u64 2)) 6 (.int .u64 ((2 ^ k : Nat) : Int)) (some 27) (I := I) (by kernel_rfl) (by kernel_rfl) (by kernel_rfl) (by kernel_rfl) (by kernel_rfl) (fun _ d' _ _ _ h => by cases d' <;> exact h) (by kernel_rfl) (by kernel_rfl) (fun w' => run_half64 (by   omega)) s.sub ?_
  refine held_ran (fuel := 6) (binOp .quo 34 (.int .u64 ((2 * 2 ^ k : Nat) : Int)) (.int .u64 2)) 14 (.int .u64 ((2 ^ k : Nat) : Int)) (some 35) (I := I) (by kernel_rfl) (by kernel_rfl) (by kernel_rfl) (by kernel_rfl) (by kernel_rfl) (fun _ d' _ _ _ h => by cases d' <;> exact h) (by kernel_rfl) (by kernel_rfl) (fun w' => run_half64 (by   omega)) s.sub ?_
  refine held_ran (fuel := 5) (binOp .add 34 (.int .u64 ((a : Nat) : Int)) (.int .u64 ((2 ^ k : Nat) : Int))) 15 (.int .u64 ((a + 2 ^ k : Nat) : Int)) (some 36) (I := I) (by kernel_rfl) (by kernel_rfl) (by kernel_rfl) (by kernel_rfl) (by kernel_rfl) (fun _ d' _ _ _ h => by cases d' <;> exact h) (by kernel_rfl) (by kernel_rfl) (fun w' => run_add64 (a := a) (b := 2 ^ k) (by   omega)) s.sub ?_
  refine held_ran (fuel := 4) (binOp .quo 34 (.int .u64 ((2 * 2 ^ k : Nat) : Int)) (.int .u64 2)) 17 (.int .u64 ((2 ^ k : Nat) : Int)) (some 38) (I := I) (by kernel_rfl) (by kernel_rfl) (by kernel_rfl) (by kernel_rfl) (by kernel_rfl) (fun _ d' _ _ _ h => by cases d' <;> exact h) (by kernel_rfl) (by kernel_rfl) (fun w' => run_half64 (by   omega)) s.sub ?_
  refine held_one (fuel := 3) 7 (by kernel_rfl) (by kernel_rfl) ?_
  refine callF_rule (H := []) (F := []) (some 28) s (ihl hl) (by kernel_rfl) ?_
  intro v5 I5 w5 F5 le5 h5 s
  obtain ⟨a5, c5, rfl⟩ := row_slice h5
  replace hl := RT.mono le5 hl
  replace hr := RT.mono le5 hr
  replace hn := RT.mono le5 hn
  replace hH4 := leMono le5 hH4
  replace hk := le5 _ _ hk
  refine ops_done (by kernel_rfl) ?_
  refine held_next s hH4 ?_
  refine held_one (fuel := 2) 18 (by kernel_rfl) (by kernel_rfl) ?_
  refine call_rule (some 39) s (fun_of_rowS (ihr hr)) (by kernel_rfl) ?_
  intro v6 I6 w6 le6 h6 s
  replace hl := RT.mono le6 hl
  replace hr := RT.mono le6 hr
  replace hn := RT.mono le6 hn
  replace hH4 := leMono le6 hH4
  replace hk := le6 _ _ hk
  obtain ⟨a6, c6, rfl, h6_0⟩ := h6
  refine ops_done (by kernel_rfl) ?_
  refine held_next s hH4 ?_
  refine held_one (fuel := 1) 19 (by kernel_rfl) (by kernel_rfl) ?_
  refine append_rule (H := []) (F := F5) 32 32 39 Try.t39 (.agg #[.int .u64 0, .int .u64 0]) 2 16 (some 40) s Try.underlying32 (by kernel_rfl) (by kernel_rfl) (by kernel_rfl) (by kernel_rfl) (by kernel_rfl) (by decide) h5 (src_sps s.sub h6_0) (by simp only [maxLen]; omega) (by omega) (by kernel_rfl) ?_
  intro v7 w7 F7 s h7
  refine ops_done (by kernel_rfl) ?_
  refine held_next s hH4 ?_
  refine held_take (fuel := 0) [] [] 20 (v7) (some 6) [] (I := I) trivial (by kernel_rfl) (by kernel_rfl) (by kernel_rfl) (by kernel_rfl) (by kernel_rfl) (fun _ d' _ _ _ h => by cases d' <;> exact h) (by kernel_rfl) (by kernel_rfl) (fun k o hk => s.sub k o (hH4 k o hk)) ?_
  refine Go.wpAnyH_done (by kernel_rfl) ?_ _
  refine wp_ret ?_
  refine ret_rule (C := []) [] F7 (v7) [] [] s trivial (by kernel_rfl) ?_
  replace s := s.drop (List.sublist_append_right [] F7)
  exact ⟨_, _, _, rfl, s, (by have e := h7; simp only [spT_length] at e; simp only [spT, cntT, sps_append, Nat.add_sub_cancel] at e ⊢; exact e)⟩

theorem rs_c : ∀ (t : T) {I : IM} {q a k : Nat}, RT I t q → cntT t ≤ 100000 → t.depth ≤ k → a + 2 ^ k ≤ 65536 →
    FunM Try.prog 11 #[.pointer (some ⟨q, 0, none⟩), .int .u64 ((a : Nat) : Int), .int .u64 ((2 ^ k : Nat) : Int)] I [] (fun v J F' => RowH 39 2 v (cntT t) (sps (spT t a k)) F')
  | .zero, _, _, _, _, h, hc, hd, ha => rs_zero h hc ha
  | .one, _, _, _, _, h, hc, hd, ha => rs_one h hc ha
  | .node l r, _, _, _, 0, h, hc, hd, ha => by simp only [T.depth] at hd; omega
  | .node l r, _, _, a, k + 1, h, hc, hd, ha => by
    simp only [T.depth] at hd
    simp only [cntT] at hc
    rw [Nat.pow_succ'] at ha ⊢
    exact rs_node h hc ha (fun h1 => rs_c l h1 (by omega) (by omega) (by omega)) (fun h1 => rs_c r h1 (by omega) (by omega) (by omega))
theorem rs0_c (t : T) {I : IM} {q : Nat} (h : RT I t q) (hc : cntT t ≤ 100000) (hd : t.depth ≤ 16) : Fun Try.prog 11 #[.pointer (some ⟨q, 0, none⟩), .int .u64 0, .int .u64 65536] I (fun v J => spR (spT t 0 16) v J) :=
  fun_of_rowS (rs_c t (a := 0) (k := 16) h hc hd (by decide))

end Go.Proofs.Ytgdickihjaomjaa.Ev
/- share: how wide, made, is -/
set_option linter.all false
set_option maxRecDepth 100000
namespace Go.Proofs.Ytgdickihjaomjaa.Ev
open Go.RowKit Go.Sep
attribute [local irreducible] Go.wpList Go.Code.wp
theorem run_wholeF34 {w : World} {n : Nat} (h : n * 65536 < 2 ^ 53) : (convert 34 37 (.int .u64 ((n : Nat) : Int))).run Try.prog w = .ok (.float .f64 (dF (n * 65536))) w := by
  rw [← whole_dF h]; kernel_rfl
theorem run_eq64 {w : World} {z : Int} : (binOp .eql 34 (.int .u64 z) (.int .u64 z)).run Try.prog w = .ok (.bool true) w := by
  have h : (binOp .eql 34 (.int .u64 z) (.int .u64 z)).run Try.prog w = .ok (.bool (z == z)) w := by kernel_rfl
  rw [h, BEq.rfl]

set_option maxHeartbeats 1000000 in
theorem rwide_c {I : IM} {L : List (Nat × Nat)} {a0 : Option Addr} {c0 : Nat} (h : SpS I L (.slice a0 L.length c0)) (hW : sumW L ≤ 65536) (hL : L.length ≤ 100000) : Fun Try.prog 18 #[.slice a0 L.length c0] I (fun v J => v = .int .u64 ((sumW L : Nat) : Int)) := by
  refine enter_rule 18 [(0, .slice a0 L.length c0)] Try.func18 rfl (by kernel_rfl) ?_
  intro w s
  refine wp_seq ?_
  refine region_rule ?_
  refine ops_rule (C := []) [] [] 1 [] 0 (fun φ1 => [(2, .int .u64 0)]) (fun φ1 => []) (fun φ1 => []) s trivial (fun φ1 => by kernel_rfl) ?_
  intro φ1 w1 s
  refine ops_done (by kernel_rfl) ?_
  refine wp_seq ?_
  refine region_rule ?_
  refine ops_rule (C := []) [] [] 1 [] 0 (fun φ2 => [(3, .int .u64 0)]) (fun φ2 => []) (fun φ2 => []) s trivial (fun φ2 => by kernel_rfl) ?_
  intro φ2 w2 s
  refine ops_done (by kernel_rfl) ?_
  refine wp_seq ?_
  refine wp_seq ?_
  refine region_rule ?_
  refine ops_rule (C := []) [] [] 3 [] 0 (fun φ3 => [(8, .int .i64 0), (7, .int .i64 ((L.length : Nat) : Int)), (6, .slice a0 L.length c0)]) (fun φ3 => []) (fun φ3 => []) s trivial (fun φ3 => by kernel_rfl) ?_
  intro φ3 w3 s
  refine ops_done (by kernel_rfl) ?_
  refine wp_block ?_
  have hle5 := IM.Le.refl I
  refine loop_rule (fun (x : Nat × Nat) => [(0, .slice a0 L.length c0), (2, .int .u64 0), (6, .slice a0 L.length c0), (7, .int .i64 ((L.length : Nat) : Int)), (8, .int .i64 ((x.1 : Nat) : Int)), (3, .int .u64 ((x.2 : Nat) : Int))]) (fun (x : Nat × Nat) => []) (fun m (x : Nat × Nat) J => IM.Le I J ∧ x.1 + m = L.length ∧ x.2 = sumW (L.take x.1)) (L.length) (0, 0) s (by kernel_rfl) List.Sublist.slnil ⟨IM.Le.refl _, Nat.zero_add _, rfl⟩ ?_
  rintro m6 ⟨i6, a6⟩ I6 w6 ev6 s ⟨le6, hi6_0, hi6_1⟩
  try dsimp only at s hi6_0 hi6_1 ⊢
  replace h := SpS.mono le6 h
  replace hle5 := leMono le6 hle5
  have hs4 := sumW_take_le L i6
  have hg4 := sumW_getD_le L i6
  refine wp_seq ?_
  refine region_rule ?_
  refine ops_rule (C := []) [] [] 1 [] 0 (fun φ7 => [(9, .bool (decide (((i6 : Nat) : Int) < ((L.length : Nat) : Int))))]) (fun φ7 => []) (fun φ7 => []) s trivial (fun φ7 => by kernel_rfl) ?_
  intro φ7 w7 s
  rw [nat_lss (a := i6) (b := L.length)]
  refine ops_done (by kernel_rfl) ?_
  refine wp_seq ?_
  rcases Bool.eq_false_or_eq_true (decide (i6 < L.length)) with hc8 | hc8
  ·
    rw [hc8]
    refine cond_true_rule (b := true) (by kernel_rfl) rfl ?_
    refine wp_skip ?_
    refine wp_seq ?_
    refine wp_block ?_
    refine wp_seq ?_
    refine region_rule ?_
    refine sem_rule (Instr.indexAt 32 (.slice a0 L.length c0) (.int .i64 ((i6 : Nat) : Int))) (some 10) (.pointer (pAt a0 (i6 * 2))) (by kernel_rfl) (sps_idx h (by have hq0 := of_decide_eq_true hc8; have e1 := hi6_0; have e2 := hi6_1; have e4 := hs4; have e5 := hg4; omega)) ?_
    refine sem_rule (Instr.loadAt 39 (.pointer (pAt a0 (i6 * 2)))) (some 11) (.agg #[.int .u64 (((List.getD L i6 (0, 0)).1 : Nat) : Int), .int .u64 (((List.getD L i6 (0, 0)).2 : Nat) : Int)]) (by kernel_rfl) (sps_ld s.sub h (by have hq0 := of_decide_eq_true hc8; have e1 := hi6_0; have e2 := hi6_1; have e4 := hs4; have e5 := hg4; omega)) ?_
    refine ops_rule (C := []) [] [] 2 [.o 0, .o 0] 1 (fun φ9 => [(5, .pointer (some ⟨(φ9 0), 0, none⟩))]) (fun φ9 => [((φ9 0), .cells #[.int .u64 (((List.getD L i6 (0, 0)).1 : Nat) : Int), .int .u64 (((List.getD L i6 (0, 0)).2 : Nat) : Int)] 39)]) (fun φ9 => [(φ9 0), (φ9 0)]) s trivial (fun φ9 => by kernel_rfl) ?_
    intro φ9 w9 s
    refine ops_done (by kernel_rfl) ?_
    refine region_rule ?_
    refine ops_rule (C := []) [((φ9 0), .cells #[.int .u64 (((List.getD L i6 (0, 0)).1 : Nat) : Int), .int .u64 (((List.getD L i6 (0, 0)).2 : Nat) : Int)] 39)] [] 3 [.o 0] 0 (fun φ10 => [(14, .int .u64 (((List.getD L i6 (0, 0)).2 : Nat) : Int)), (13, .pointer (some ⟨(φ9 0), 1, none⟩)), (12, .int .u64 ((a6 : Nat) : Int))]) (fun φ10 => [((φ9 0), .cells #[.int .u64 (((List.getD L i6 (0, 0)).1 : Nat) : Int), .int .u64 (((List.getD L i6 (0, 0)).2 : Nat) : Int)] 39)]) (fun φ10 => [(φ9 0)]) s trivial (fun φ10 => by kernel_rfl) ?_
    intro φ10 w10 s
    refine sem_rule (binOp .add 34 (.int .u64 ((a6 : Nat) : Int)) (.int .u64 (((List.getD L i6 (0, 0)).2 : Nat) : Int))) (some 15) (.int .u64 ((a6 + (List.getD L i6 (0, 0)).2 : Nat) : Int)) (by kernel_rfl) (run_add64 (a := a6) (b := (List.getD L i6 (0, 0)).2) (by have hq0 := of_decide_eq_true hc8; have e1 := hi6_0; have e2 := hi6_1; have e4 := hs4; have e5 := hg4; omega)) ?_
    refine ops_rule (C := []) [((φ9 0), .cells #[.int .u64 (((List.getD L i6 (0, 0)).1 : Nat) : Int), .int .u64 (((List.getD L i6 (0, 0)).2 : Nat) : Int)] 39)] [] 1 [] 0 (fun φ11 => [(3, .int .u64 ((a6 + (List.getD L i6 (0, 0)).2 : Nat) : Int))]) (fun φ11 => [((φ9 0), .cells #[.int .u64 (((List.getD L i6 (0, 0)).1 : Nat) : Int), .int .u64 (((List.getD L i6 (0, 0)).2 : Nat) : Int)] 39)]) (fun φ11 => []) s trivial (fun φ11 => by kernel_rfl) ?_
    intro φ11 w11 s
    refine ops_done (by kernel_rfl) ?_
    refine region_rule ?_
    refine ops_rule (C := []) [((φ9 0), .cells #[.int .u64 (((List.getD L i6 (0, 0)).1 : Nat) : Int), .int .u64 (((List.getD L i6 (0, 0)).2 : Nat) : Int)] 39)] [] 2 [] 0 (fun φ12 => [(8, .int .i64 (IntKind.wrap .i64 (((i6 : Nat) : Int) + ((1 : Nat) : Int)))), (16, .int .i64 (IntKind.wrap .i64 (((i6 : Nat) : Int) + ((1 : Nat) : Int))))]) (fun φ12 => [((φ9 0), .cells #[.int .u64 (((List.getD L i6 (0, 0)).1 : Nat) : Int), .int .u64 (((List.getD L i6 (0, 0)).2 : Nat) : Int)] 39)]) (fun φ12 => []) s trivial (fun φ12 => by kernel_rfl) ?_
    intro φ12 w12 s
    rw [nat_addI (a := i6) (b := 1) (by have hq0 := of_decide_eq_true hc8; have e1 := hi6_0; have e2 := hi6_1; have e4 := hs4; have e5 := hg4; omega)]
    refine ops_done (by kernel_rfl) ?_
    exact ⟨⟨m6 - 1, (i6 + 1, a6 + (List.getD L i6 (0, 0)).2), _, _, _, by have hq0 := of_decide_eq_true hc8; have := hi6_0; omega, rfl, s, (List.Sublist.cons _ List.Sublist.slnil), by kernel_rfl, hle5, by have hq0 := of_decide_eq_true hc8; have := hi6_0; show i6 + 1 + (m6 - 1) = L.length; omega, by have hq0 := of_decide_eq_true hc8; have h0 := hi6_0; have h1 := hi6_1; show a6 + (List.getD L i6 (0, 0)).2 = _; rw [sumW_take (by omega), h1]⟩⟩
  ·
    rw [hc8]
    refine cond_false_rule (b := false) (by kernel_rfl) rfl ?_
    refine wp_exit ?_
    refine wp_seq ?_
    refine region_rule ?_
    refine ops_rule (C := []) [] [] 2 [] 0 (fun φ13 => [(2, .int .u64 ((a6 : Nat) : Int)), (17, .int .u64 ((a6 : Nat) : Int))]) (fun φ13 => []) (fun φ13 => []) s trivial (fun φ13 => by kernel_rfl) ?_
    intro φ13 w13 s
    refine ops_done (by kernel_rfl) ?_
    refine wp_ret ?_
    refine ret_rule (C := []) [] [] (.int .u64 ((a6 : Nat) : Int)) [] [] s trivial (by kernel_rfl) ?_
    exact ⟨_, _, _, rfl, s, (by have e1 := hi6_0; have e2 := hi6_1; have e4 := hs4; have e5 := hg4; have hq0 := of_decide_eq_false hc8; have ei : i6 = L.length := (by omega); rw [e2, ei, List.take_length])⟩

set_option maxHeartbeats 1000000 in
theorem is_c {I : IM} {n : Nat} (hn : n ≤ 100000000) : Fun Try.prog 12 #[.float .f64 (dF n), .int .u64 ((n : Nat) : Int)] I (fun v J => v = .bool true) := by
  refine enter_rule 12 [(0, .float .f64 (dF n)), (1, .int .u64 ((n : Nat) : Int))] Try.func12 rfl (by kernel_rfl) ?_
  intro w s
  refine wp_seq ?_
  refine region_rule ?_
  refine ops_rule (C := []) [] [] 1 [] 0 (fun φ1 => [(4, .bool false)]) (fun φ1 => []) (fun φ1 => []) s trivial (fun φ1 => by kernel_rfl) ?_
  intro φ1 w1 s
  refine ops_done (by kernel_rfl) ?_
  refine wp_seq ?_
  refine region_rule ?_
  refine ops_rule (C := []) [] [] 1 [] 0 (fun φ2 => [(5, .float .f64 (dF n))]) (fun φ2 => []) (fun φ2 => []) s trivial (fun φ2 => by kernel_rfl) ?_
  intro φ2 w2 s
  refine op_rule (.int .u64 ((dF n : Nat) : Int)) (some 6) (by kernel_rfl) (fun o ho => ?_) ?_
  · cases ho
    kernel_rfl
  refine ops_rule (C := []) [] [] 1 [] 0 (fun φ3 => [(7, .int .u64 ((n : Nat) : Int))]) (fun φ3 => []) (fun φ3 => []) s trivial (fun φ3 => by kernel_rfl) ?_
  intro φ3 w3 s
  refine sem_rule (convert 34 37 (.int .u64 ((n : Nat) : Int))) (some 8) (.float .f64 (dF (n * 65536))) (by kernel_rfl) ((run_wholeF34 (by   omega))) ?_
  refine sem_rule (binOp .quo 37 (.float .f64 (dF (n * 65536))) (.float .f64 4679240012837945344)) (some 9) (.float .f64 (dF n)) (by kernel_rfl) (run_divF (by   omega)) ?_
  refine op_rule (.int .u64 ((dF n : Nat) : Int)) (some 10) (by kernel_rfl) (fun o ho => ?_) ?_
  · cases ho
    kernel_rfl
  refine sem_rule (binOp .eql 34 (.int .u64 ((dF n : Nat) : Int)) (.int .u64 ((dF n : Nat) : Int))) (some 11) (.bool true) (by kernel_rfl) (run_eq64) ?_
  refine ops_rule (C := []) [] [] 1 [] 0 (fun φ4 => [(4, .bool true)]) (fun φ4 => []) (fun φ4 => []) s trivial (fun φ4 => by kernel_rfl) ?_
  intro φ4 w4 s
  refine ops_done (by kernel_rfl) ?_
  refine wp_ret ?_
  refine ret_rule (C := []) [] [] (.bool true) [] [] s trivial (by kernel_rfl) ?_
  exact ⟨_, _, _, rfl, s, rfl⟩

set_option maxHeartbeats 2000000 in
theorem madeI_c {I : IM} {p : List UInt8} {vp : Value} (hp : BSl I p vp) : Fun Try.prog 9 #[vp] I (fun v J => ∃ b p k t, v = .tuple #[idv b p, .pointer (some ⟨k, 0, none⟩)] ∧ (t.nf ∧ t.depth ≤ 7) ∧ TRep J t b p ∧ RT J t k) := by
  have hp' := hp
  obtain ⟨pa, pc, rfl, hpc, -⟩ := hp
  have hp60 := bsl_take hp'
  clear hp'
  refine enter_rule 18 [(0, .slice pa p.length pc)] Try.func9 rfl (by kernel_rfl) ?_
  intro w s
  refine wp_seq ?_
  refine region_rule ?_
  refine ops_rule (C := []) [] [] 2 [] 1 (fun φ1 => [(3, .pointer none), (2, .pointer (some ⟨(φ1 0), 0, none⟩))]) (fun φ1 => [((φ1 0), .cells #[.bool false, .pointer none] 26)]) (fun φ1 => []) s trivial (fun φ1 => by kernel_rfl) ?_
  intro φ1 w1 s
  refine ops_done (by kernel_rfl) ?_
  refine wp_seq ?_
  refine region_rule ?_
  refine ops_rule (C := []) [((φ1 0), .cells #[.bool false, .pointer none] 26)] [] 4 [] 0 (fun φ2 => [(10, .int .i64 (if ((60 : Nat) : Int) < ((p.length : Nat) : Int) then ((60 : Nat) : Int) else ((p.length : Nat) : Int))), (9, .int .i64 ((p.length : Nat) : Int)), (8, .slice pa p.length pc), (7, .slice pa p.length pc)]) (fun φ2 => [((φ1 0), .cells #[.bool false, .pointer none] 26)]) (fun φ2 => []) s trivial (fun φ2 => by kernel_rfl) ?_
  intro φ2 w2 s
  rw [nat_min (a := p.length) (b := 60)]
  refine sem_rule (Instr.sliceAt 22 (.slice pa p.length pc) none (some (.int .i64 ((min p.length 60 : Nat) : Int))) none) (some 11) (.slice pa (min p.length 60) pc) (by kernel_rfl) (run_to (by have := hpc; omega)) ?_
  refine call_rule (some 12) s (make_c 7 (by omega) hp60) (by kernel_rfl) ?_
  intro v3 I3 w3 le3 h3 s
  replace hp60 := BSl.mono le3 hp60
  obtain ⟨k3, v3, t3, l3, rfl, h3_0, h3_1, h3_2⟩ := h3
  refine ops_rule (C := []) [((φ1 0), .cells #[.bool false, .pointer none] 26)] [] 5 [] 0 (fun φ4 => [(5, v3), (4, .pointer (some ⟨k3, 0, none⟩)), (14, v3), (13, .pointer (some ⟨k3, 0, none⟩)), (6, .tuple #[.pointer (some ⟨k3, 0, none⟩), v3])]) (fun φ4 => [((φ1 0), .cells #[.bool false, .pointer none] 26)]) (fun φ4 => []) s trivial (fun φ4 => by kernel_rfl) ?_
  intro φ4 w4 s
  refine ops_done (by kernel_rfl) ?_
  refine wp_seq ?_
  refine region_rule ?_
  refine ops_rule (C := []) [((φ1 0), .cells #[.bool false, .pointer none] 26)] [] 1 [] 0 (fun φ5 => [(15, .pointer (some ⟨k3, 0, none⟩))]) (fun φ5 => [((φ1 0), .cells #[.bool false, .pointer none] 26)]) (fun φ5 => []) s trivial (fun φ5 => by kernel_rfl) ?_
  intro φ5 w5 s
  refine call_rule (some 16) s (own_c t3 h3_0.1 (by have := h3_0.2; omega) h3_1) (by kernel_rfl) ?_
  intro v6 I6 w6 le6 h6 s
  replace hp60 := BSl.mono le6 hp60
  replace h3_1 := RT.mono le6 h3_1
  replace h3_2 := BSl.mono le6 h3_2
  obtain ⟨b6, p6, rfl, h6_0⟩ := h6
  refine ops_rule (C := []) [((φ1 0), .cells #[.bool false, .pointer none] 26)] [] 3 [.o 0, .o 0] 0 (fun φ7 => [(3, .pointer (some ⟨k3, 0, none⟩)), (17, .pointer (some ⟨k3, 0, none⟩))]) (fun φ7 => [((φ1 0), .cells #[.bool b6, .pointer p6] 26)]) (fun φ7 => [(φ1 0), (φ1 0)]) s trivial (fun φ7 => by kernel_rfl) ?_
  intro φ7 w7 s
  refine ops_done (by kernel_rfl) ?_
  refine wp_ret ?_
  refine ret_rule (C := []) [((φ1 0), .cells #[.bool b6, .pointer p6] 26)] [] (.tuple #[.agg #[.bool b6, .pointer p6], .pointer (some ⟨k3, 0, none⟩)]) [.o 0, .o 0] [(φ1 0), (φ1 0)] s trivial (by kernel_rfl) ?_
  exact ⟨_, _, _, rfl, s, ⟨_, _, _, t3, rfl, h3_0, h6_0, h3_1⟩⟩

end Go.Proofs.Ytgdickihjaomjaa.Ev
/- share: measures -/
set_option linter.all false
set_option maxRecDepth 100000
namespace Go.Proofs.Ytgdickihjaomjaa.Ev
open Go.RowKit Go.Sep
attribute [local irreducible] Go.wpList Go.Code.wp
theorem cntT_ok {t : T} (h : t.depth ≤ 8) : cntT t ≤ 100000 := by have := cntT_small h; omega
theorem rs0N_c (t : T) {I : IM} {q : Nat} (h : RT I t q) (hc : cntT t ≤ 100000) (hd : t.depth ≤ 16) : Fun Try.prog 11 #[.pointer (some ⟨q, 0, none⟩), .int .u64 0, .int .u64 65536] I (fun v J => ∃ a c, v = .slice a (cntT t) c ∧ SpS J (spT t 0 16) (.slice a (cntT t) c)) := by
  have e := rs0_c t h hc hd
  unfold spR at e
  rw [spT_length] at e
  exact e
theorem rwideT_c {I : IM} {t : T} {a0 : Option Addr} {c0 : Nat} (h : SpS I (spT t 0 16) (.slice a0 (cntT t) c0)) (hd : t.depth ≤ 16) (hc : cntT t ≤ 100000) : Fun Try.prog 18 #[.slice a0 (cntT t) c0] I (fun v J => v = .int .u64 ((widT t 16 : Nat) : Int)) := by
  rw [← spT_length t 0 16] at h ⊢
  have hw := wid_le 16 hd
  have e := rwide_c h (by rw [sumW_spT]; exact hw) (by rw [spT_length]; exact hc)
  rwa [sumW_spT] at e
theorem splitOk_c {I : IM} {t : T} {b : Bool} {p : Option Addr} (h : TRep I t b p) (hd : t.depth ≤ 15) : Fun Try.prog 20 #[idv b p] I (fun v J => ∃ b1 p1 b2 p2, v = .tuple #[idv b1 p1, idv b2 p2, .int .i64 0] ∧ TRep J (cutT t).1 b1 p1 ∧ TRep J (cutT t).2 b2 p2) := by
  have e := split_c h (by omega)
  rw [split_small hd] at e
  exact e
theorem run_neF {w : World} {a : Nat} (ha : a < 2 ^ 53) : (binOp .neq 37 (.float .f64 (dF a)) (.float .f64 (dF a))).run Try.prog w = .ok (.bool false) w := by
  have h : (binOp .neq 37 (.float .f64 (dF a)) (.float .f64 (dF a))).run Try.prog w = .ok (.bool (!(Op.floatEq .f64 (dF a) (dF a)))) w := rfl
  rw [h, dF_eq ha ha, decide_eq_true rfl]; rfl
theorem run_eqC2 {w : World} {a b : Nat} (ha : a < 2 ^ 53) (hb : b < 2 ^ 53) : (binOp .eql 35 (.complex .f64 (dF a) (dF b)) (.complex .f64 (dF a) (dF b))).run Try.prog w = .ok (.bool true) w := by
  rw [run_cmpC ha hb ha hb, decide_eq_true rfl, decide_eq_true rfl]; rfl
theorem run_eqF2 {w : World} {a c : Nat} (ha : a < 2 ^ 53) (h : a = c) : (binOp .eql 37 (.float .f64 (dF a)) (.float .f64 (dF c))).run Try.prog w = .ok (.bool true) w := by
  subst h
  rw [run_cmpF ha ha, decide_eq_true rfl]
theorem run_neF2 {w : World} {a c : Nat} (ha : a < 2 ^ 53) (h : a = c) : (binOp .neq 37 (.float .f64 (dF a)) (.float .f64 (dF c))).run Try.prog w = .ok (.bool false) w := by
  subst h
  exact run_neF ha
theorem run_eqC0 {w : World} : (binOp .eql 35 (.complex .f64 (dF 0) (dF 0)) (.complex .f64 0 0)).run Try.prog w = .ok (.bool true) w := by
  rw [dF_zero]; kernel_rfl
theorem d8 {t : T} (h : t.nf ∧ t.depth ≤ 7) : t.depth ≤ 8 := by omega
theorem d15 {t : T} (h : t.nf ∧ t.depth ≤ 7) : t.depth ≤ 15 := by omega
theorem d17 {t : T} (h : t.nf ∧ t.depth ≤ 7) : t.depth + 1 ≤ 16 := by omega
theorem both_d8 {a b : T} (ha : a.depth ≤ 8) (hb : b.depth ≤ 8) : (bothT a b).depth ≤ 8 := by have := both_depth a b; omega
theorem union_d8 {a b : T} (ha : a.depth ≤ 8) (hb : b.depth ≤ 8) : (unionT a b).depth ≤ 8 := by have := union_depth a b; omega
theorem cut1_d8 {t : T} (h : t.nf ∧ t.depth ≤ 7) : (cutT t).1.depth ≤ 8 := by have := cut_depth t; omega
theorem cut2_d8 {t : T} (h : t.nf ∧ t.depth ≤ 7) : (cutT t).2.depth ≤ 8 := by have := cut_depth t; omega
theorem dle16 {t : T} (h : t.depth ≤ 8) : t.depth ≤ 16 := by omega
theorem wid_53 {t : T} (h : t.depth ≤ 8) : widT t 16 < 2 ^ 53 := by have := wid_le 16 (dle16 h); omega
theorem wid_e8 {t : T} (h : t.depth ≤ 8) : widT t 16 ≤ 100000000 := by have := wid_le 16 (dle16 h); omega
theorem cnt_53 {t : T} (h : t.depth ≤ 8) : cntT t * 65536 < 2 ^ 53 := by have := cntT_small h; omega
theorem wsum_53 {a b : T} (ha : a.depth ≤ 8) (hb : b.depth ≤ 8) : widT a 16 + widT b 16 < 2 ^ 53 := by have := wid_le 16 (dle16 ha); have := wid_le 16 (dle16 hb); omega
end Go.Proofs.Ytgdickihjaomjaa.Ev
