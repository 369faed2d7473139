/- A card is patched: the document. -/
import Derived.Test.YtcpmjogeafhpnaaDoorCpM25
import Derived.Test.YtcpmjogeafhpnaaDoorRows
import Derived.Test.YtcpmjogeafhpnaaDoorCpM24
import Derived.ProofKit
import Derived.LaidMore
import Derived.OpenShut
import Derived.Lay
import Derived.Stop.Joined
import Derived.Lib.LaidU8T
import Derived.Test.YtcpmjogeafhpnaaDoorCpM16
import Derived.Test.YtcpmjogeafhpnaaDoorCpM22
import Derived.WalkKit
import Derived.Deep.Slices
set_option linter.all false
set_option maxRecDepth 100000
namespace Go.Proofs.YtcpmjogeafhpnaaDoor
open Go.RowKit Go.Sep
attribute [local irreducible] Go.wpList Go.Code.wp

theorem eq52_true {w : World} {n c : Nat} : (binOp .eql 52 (.slice none n c) (.slice none 0 0)).run Tryd.prog w = .ok (.bool true) w := by kernel_rfl
theorem eq52_false {w : World} {b : Addr} {n c : Nat} : (binOp .eql 52 (.slice (some b) n c) (.slice none 0 0)).run Tryd.prog w = .ok (.bool false) w := by kernel_rfl
theorem isl_none {I : IM} {L : List Int} {n c : Nat} (h : ISl I L (.slice none n c)) : L = [] := by
  obtain ⟨a', c', hv, hc, hr⟩ := h
  cases hv
  cases L with
  | nil => rfl
  | cons x L => obtain ⟨b, o, cs, T, fr, q, _⟩ := hr 0 x rfl; cases q
theorem src_isl {I : IM} {w : World} (hs : I.Sub w) {L : List Int} {a : Option Addr} {n c : Nat} (h : ISl I L (.slice a n c)) : Src Tryd.prog 1 52 (.slice a n c) L.length (icI L) w := by
  obtain ⟨a', c', hv, hc, hr⟩ := h
  cases hv
  have one : ∀ u ∈ icI L, u.oneCell' = true := fun u hu => by
    obtain ⟨x, _, hx⟩ := List.mem_map.1 hu
    subst hx; rfl
  have hlen : (icI L).length = L.length * 1 := by unfold icI; rw [List.length_map, Nat.mul_one]
  cases a with
  | none =>
    cases L with
    | nil => exact Src.ofNil w under52s c
    | cons x L => obtain ⟨b, o, cs, T, fr, q, _⟩ := hr 0 x rfl; cases q
  | some x =>
    obtain ⟨b, o, sp⟩ := x
    cases hL : L with
    | nil => subst hL; exact Src.ofSlice w under52s _ 0 c [] rfl (fun j u hu => by simp at hu) (fun u hu => by simp at hu)
    | cons y L' =>
      obtain ⟨b', o', cs', T', fr', q, _⟩ := hr 0 y (by rw [hL]; rfl)
      cases q
      rw [← hL]
      refine Src.ofSlice w under52s ⟨b, o, none⟩ _ c (icI L) hlen (fun j u hu => ?_) one
      unfold icI at hu
      rw [List.getElem?_map] at hu
      cases hj : L[j]? with
      | none => rw [hj] at hu; cases hu
      | some x =>
        rw [hj] at hu
        simp only [Option.map_some, Option.some.injEq] at hu
        subst hu
        obtain ⟨b2, o2, cs2, T2, fr2, e1, e2, e3⟩ := hr j x hj
        cases e1
        rw [addr_addO, run_cell (a := ⟨b, o + j, none⟩) (hs _ _ e2) rfl rfl]
        exact e3
theorem row_newI (b : Nat) : RowH 3 1 (.slice (some ⟨b, 0, none⟩) 0 0) 0 [] [(b, .cells #[] 3)] := ⟨rfl, .inr ⟨b, 0, #[], rfl, rfl, Nat.le_refl _, by decide, rfl, rfl⟩⟩
theorem row_allI {v : Value} {L : List Int} {F : List OB} (h : RowH 3 1 v (0 + L.length) ([] ++ icI L) F) : RowH 3 1 v L.length (icI L) F := by
  rw [Nat.zero_add] at h; exact h
theorem isl_take {I : IM} {L : List Int} {a : Option Addr} {n c m : Nat} (h : ISl I L (.slice a n c)) : ISl I (L.take m) (.slice a (L.take m).length c) := by
  obtain ⟨a', c', hv, hc, hr⟩ := h
  cases hv
  refine ⟨a, c, rfl, by rw [List.length_take]; omega, fun j x hj => ?_⟩
  rw [List.getElem?_take] at hj
  split at hj
  · exact hr j x hj
  · cases hj
theorem run_to52 {w : World} {L : List Int} {I : IM} {a : Option Addr} {n c m hi : Nat} (h : ISl I L (.slice a n c)) (hh : hi = min n m) : (Instr.sliceAt 52 (.slice a n c) none (some (.int .i64 ((hi : Nat) : Int))) none).run Tryd.prog w = .ok (.slice a (L.take m).length c) w := by
  obtain ⟨h1, h2⟩ := h.cap
  have e : (L.take m).length = hi := by rw [List.length_take, hh, h1]; omega
  have hle : hi ≤ c := by omega
  have hb : (Instr.sliceBound (.int .i64 ((hi : Nat) : Int)) c .sliceAcap).run Tryd.prog w = .ok hi w := run_bound hle
  rw [e]
  cases a <;> simp [Instr.sliceAt, Instr.slice, run_underlying under52s, Instr.sliceBounds, hb, size3s, run_bound hle, add_zero_addr]
/-- is it left out, by the first j of the kinds -/
def gK (D : List Fe) (K : List Int) (x : Fe) (j : Nat) : Bool := decide (x ∈ D) || decide (x.k ∈ K.take j)
theorem gK_all {D : List Fe} {K : List Int} {x : Fe} {j : Nat} (h : j = K.length) : gK D K x j = qP D K x := by
  subst h; unfold gK qP; rw [List.take_length, Bool.or_comm]
theorem takeI {K : List Int} {j : Nat} (h : j < K.length) : K.take (j + 1) = K.take j ++ [K.getD j 0] := by rw [List.take_add_one]; simp [h]
theorem gK_0 {D : List Fe} {K : List Int} {x : Fe} : decide (x ∈ D) = gK D K x 0 := by unfold gK; simp
theorem gK_t {D : List Fe} {K : List Int} {x : Fe} {j : Nat} {b : Bool} (hj : j < K.length) (h : b = gK D K x j) (hb : b = true) : true = gK D K x (j + 1) := by
  rw [hb] at h
  unfold gK at *
  rw [takeI hj]
  have q0 := h.symm
  rw [Bool.or_eq_true] at q0
  rcases q0 with q | q
  · rw [q]; rfl
  · rw [decide_eq_true (List.mem_append.2 (.inl (of_decide_eq_true q))), Bool.or_true]
theorem gK_f {D : List Fe} {K : List Int} {x : Fe} {j : Nat} {b : Bool} (hj : j < K.length) (h : b = gK D K x j) (hb : b = false) : decide (x.k = K.getD j 0) = gK D K x (j + 1) := by
  rw [hb] at h
  unfold gK at *
  rw [takeI hj]
  have q := (Bool.or_eq_false_iff).1 h.symm
  rw [q.1, Bool.false_or]
  refine decide_eq_decide.2 ⟨fun e => List.mem_append.2 (.inr (by rw [e]; simp)), fun e => ?_⟩
  rcases List.mem_append.1 e with r | r
  · exact absurd r (of_decide_eq_false q.2)
  · simpa using r
theorem fold_take {M A : List Fe} {i : Nat} (hi : i < A.length) : (A.take (i + 1)).foldl ins M = ins ((A.take i).foldl ins M) (A.getD i Fe.z) := by
  rw [fe_take hi, List.foldl_append]; rfl
theorem fold_len : ∀ (A M : List Fe), (A.foldl ins M).length ≤ M.length + A.length
  | [], M => by simp
  | x :: A, M => by
    have h1 := fold_len A (ins M x)
    have h2 := ins_len (M := M) (x := x)
    simp only [List.foldl_cons, List.length_cons]
    split at h2 <;> omega
theorem short_fold {M A : List Fe} (hM : shortL M) (hA : shortL A) (i : Nat) : shortL ((A.take i).foldl ins M) := short_of fun x hx => by
  rcases (mem_foldl _ _).1 hx with q | q
  · exact short_mem hM q
  · exact short_mem hA (List.mem_of_mem_take q)
theorem keep_short {q : Fe → Bool} {L : List Fe} (h : shortL L) : shortL (keepF q L) := short_of fun x hx => short_mem h (mem_keep.1 hx).1
theorem putA_c {I : IM} {M A : List Fe} {i : Nat} {a0 : Option Addr} {c0 : Nat} (h0 : FSl I ((A.take i).foldl ins M) (.slice a0 ((A.take i).foldl ins M).length c0)) (hM : M.length ≤ 900) (hA : A.length ≤ 100) (hsM : shortL M) (hsA : shortL A) (hi : i < A.length) :
    Fun Tryd.prog 58 #[.slice a0 ((A.take i).foldl ins M).length c0, .agg #[.int .i64 (A.getD i Fe.z).k, .string ⟨((A.getD i Fe.z).a).toArray⟩, .string ⟨((A.getD i Fe.z).v).toArray⟩]] I (fun v J => ∃ a c, v = .slice a ((A.take (i + 1)).foldl ins M).length c ∧ FSl J ((A.take (i + 1)).foldl ins M) (.slice a ((A.take (i + 1)).foldl ins M).length c)) := by
  rw [fold_take hi]
  have hl := fold_len (A.take i) M
  rw [List.length_take] at hl
  exact put_c h0 (by omega) (short_fold hsM hsA i) (hsA i hi)
theorem dc_1 {J : IM} {L A D : List Fe} {K : List Int} {a : Option Addr} {c i : Nat} (hi : i < A.length) (h : eRt (A.take i) = 0) (hx : rtFe (A.getD i Fe.z) ≠ 0) (hf : FSl J L (.slice a L.length c)) : ∃ a' c', (.tuple #[.slice a L.length c, .int .i64 ((rtFe (A.getD i Fe.z) : Nat) : Int)] : Value) = .tuple #[.slice a' (dcF L A D K).length c', .int .i64 ((dcE L A D K : Nat) : Int)] ∧ FSl J (dcF L A D K) (.slice a' (dcF L A D K).length c') := by
  have e := eRt_at hi h hx
  have hne : eRt A ≠ 0 := by rw [e]; exact hx
  have e1 : dcF L A D K = L := if_pos hne
  have e2 : dcE L A D K = rtFe (A.getD i Fe.z) := (if_pos hne).trans e
  rw [e1, e2]; exact ⟨a, c, rfl, hf⟩
theorem dc_2 {J : IM} {L A D : List Fe} {K : List Int} {a : Option Addr} {c i : Nat} (h : eRt A = 0) (hi : i = A.length) (h8 : 8 < ((A.take i).foldl ins (keepF (qP D K) L)).length) (hf : FSl J L (.slice a L.length c)) : ∃ a' c', (.tuple #[.slice a L.length c, .int .i64 8] : Value) = .tuple #[.slice a' (dcF L A D K).length c', .int .i64 ((dcE L A D K : Nat) : Int)] ∧ FSl J (dcF L A D K) (.slice a' (dcF L A D K).length c') := by
  subst hi
  rw [List.take_length] at h8
  have e1 : dcF L A D K = L := (if_neg (not_not_intro h)).trans (if_pos h8)
  have e2 : dcE L A D K = 8 := (if_neg (not_not_intro h)).trans (if_pos h8)
  rw [e1, e2]; exact ⟨a, c, rfl, hf⟩
theorem dc_3 {J : IM} {L A D : List Fe} {K : List Int} {a : Option Addr} {c i : Nat} (h : eRt A = 0) (hi : i = A.length) (h8 : ¬ 8 < ((A.take i).foldl ins (keepF (qP D K) L)).length) (hf : FSl J ((A.take i).foldl ins (keepF (qP D K) L)) (.slice a ((A.take i).foldl ins (keepF (qP D K) L)).length c)) : ∃ a' c', (.tuple #[.slice a ((A.take i).foldl ins (keepF (qP D K) L)).length c, .int .i64 0] : Value) = .tuple #[.slice a' (dcF L A D K).length c', .int .i64 ((dcE L A D K : Nat) : Int)] ∧ FSl J (dcF L A D K) (.slice a' (dcF L A D K).length c') := by
  subst hi
  rw [List.take_length] at h8 hf ⊢
  have e1 : dcF L A D K = dcL L A D K := (if_neg (not_not_intro h)).trans (if_neg h8)
  have e2 : dcE L A D K = 0 := (if_neg (not_not_intro h)).trans (if_neg h8)
  rw [e1, e2]; exact ⟨a, c, rfl, hf⟩

set_option maxHeartbeats 1000000 in
theorem cloneIS_c {I : IM} {K : List Int} {x0 : Addr} {c0 : Nat} (h0 : ISl I K (.slice (some x0) K.length c0)) (hl : K.length ≤ 255) : Fun Tryd.prog 29 #[.slice (some x0) K.length c0] I (fun v J => ∃ a c, v = .slice a K.length c ∧ ISl J K (.slice a K.length c)) := by
  refine enter_rule 8 [(0, .slice (some x0) K.length c0)] Tryd.func29 rfl (by kernel_rfl) ?_
  intro w s
  refine wp_seq ?_
  refine region_rule ?_
  refine ops_rule (C := []) [] [] 1 [] 0 (fun φ1 => [(2, .slice none 0 0)]) (fun φ1 => []) (fun φ1 => []) s trivial (fun φ1 => by kernel_rfl) ?_
  intro φ1 w1 s
  refine ops_done (by kernel_rfl) ?_
  refine wp_seq ?_
  refine wp_seq ?_
  refine region_rule ?_
  refine ops_rule (C := []) [] [] 1 [] 0 (fun φ2 => [(3, .slice (some x0) K.length c0)]) (fun φ2 => []) (fun φ2 => []) s trivial (fun φ2 => by kernel_rfl) ?_
  intro φ2 w2 s
  refine sem_rule (binOp .eql 52 (.slice (some x0) K.length c0) (.slice none 0 0)) (some 4) (.bool false) (by kernel_rfl) (eq52_false) ?_
  refine ops_done (by kernel_rfl) ?_
  refine cond_false_rule (b := false) (by kernel_rfl) rfl ?_
  refine wp_skip ?_
  refine wp_seq ?_
  refine region_rule ?_
  refine ops_rule (C := []) [] [] 2 [] 1 (fun φ3 => [(6, .slice (some x0) K.length c0), (5, .slice (some ⟨(φ3 0), 0, none⟩) 0 0)]) (fun φ3 => [((φ3 0), .cells #[] 3)]) (fun φ3 => []) s trivial (fun φ3 => by kernel_rfl) ?_
  intro φ3 w3 s
  refine append_rule (H := []) (F := [((φ3 0), .cells #[] 3)]) 52 52 3 Tryd.t3 (.int .i64 0) 1 8 (some 7) s Tryd.underlying52 (by kernel_rfl) (by kernel_rfl) (by kernel_rfl) (by kernel_rfl) (by kernel_rfl) (by decide) (row_newI (φ3 0)) (src_isl s.sub h0) (by simp only [maxLen]; omega) (by omega) (by kernel_rfl) ?_
  intro v4 w4 F4 s h4
  obtain ⟨J4, le4, hk4, s⟩ := freeze_row3I (H := []) (F := F4) s (row_allI h4)
  obtain ⟨a4, c4, hv4, -, hk4⟩ := hk4.open
  subst hv4
  replace h0 := ISl.mono le4 h0
  refine ops_rule (C := []) [] [] 1 [] 0 (fun φ5 => [(2, .slice a4 (List.length K) c4)]) (fun φ5 => []) (fun φ5 => []) s trivial (fun φ5 => by kernel_rfl) ?_
  intro φ5 w5 s
  refine ops_done (by kernel_rfl) ?_
  refine wp_ret ?_
  refine ret_rule (C := []) [] [] (.slice a4 (List.length K) c4) [] [] s trivial (by kernel_rfl) ?_
  exact ⟨_, _, _, rfl, s, ⟨_, _, rfl, hk4⟩⟩

set_option maxHeartbeats 1000000 in
theorem cloneIN_c {I : IM} {K : List Int} {c0 : Nat} (h0 : ISl I K (.slice none K.length c0)) (hl : K.length ≤ 255) : Fun Tryd.prog 29 #[.slice none K.length c0] I (fun v J => ∃ a c, v = .slice a K.length c ∧ ISl J K (.slice a K.length c)) := by
  refine enter_rule 8 [(0, .slice none K.length c0)] Tryd.func29 rfl (by kernel_rfl) ?_
  intro w s
  refine wp_seq ?_
  refine region_rule ?_
  refine ops_rule (C := []) [] [] 1 [] 0 (fun φ1 => [(2, .slice none 0 0)]) (fun φ1 => []) (fun φ1 => []) s trivial (fun φ1 => by kernel_rfl) ?_
  intro φ1 w1 s
  refine ops_done (by kernel_rfl) ?_
  refine wp_seq ?_
  refine wp_seq ?_
  refine region_rule ?_
  refine ops_rule (C := []) [] [] 1 [] 0 (fun φ2 => [(3, .slice none K.length c0)]) (fun φ2 => []) (fun φ2 => []) s trivial (fun φ2 => by kernel_rfl) ?_
  intro φ2 w2 s
  refine sem_rule (binOp .eql 52 (.slice none K.length c0) (.slice none 0 0)) (some 4) (.bool true) (by kernel_rfl) (eq52_true) ?_
  refine ops_done (by kernel_rfl) ?_
  refine cond_true_rule (b := true) (by kernel_rfl) rfl ?_
  refine wp_seq ?_
  refine region_rule ?_
  refine ops_rule (C := []) [] [] 1 [] 0 (fun φ3 => [(2, .slice none 0 0)]) (fun φ3 => []) (fun φ3 => []) s trivial (fun φ3 => by kernel_rfl) ?_
  intro φ3 w3 s
  refine ops_done (by kernel_rfl) ?_
  refine wp_ret ?_
  refine ret_rule (C := []) [] [] (.slice none 0 0) [] [] s trivial (by kernel_rfl) ?_
  exact ⟨_, _, _, rfl, s, (by have e : K = [] := isl_none h0; subst e; exact ⟨_, _, rfl, isl_nil _⟩)⟩

theorem cloneI_c {I : IM} {K : List Int} {a0 : Option Addr} {c0 : Nat} (h0 : ISl I K (.slice a0 K.length c0)) (hl : K.length ≤ 255) : Fun Tryd.prog 29 #[.slice a0 K.length c0] I (fun v J => ∃ a c, v = .slice a K.length c ∧ ISl J K (.slice a K.length c)) := by
  cases a0 with
  | none => exact cloneIN_c h0 hl
  | some x => exact cloneIS_c h0 hl

set_option maxHeartbeats 4000000 in
theorem refPatch_c {I : IM} {L : List Fe} {a0 : Option Addr} {c0 : Nat} (h0 : FSl I L (.slice a0 L.length c0)) (hl : L.length ≤ 900) (hsL : shortL L) {A D : List Fe} {K : List Int} {aA aD aK : Option Addr} {cA cD cK : Nat} (hA : FSl I A (.slice aA A.length cA)) (hD : FSl I D (.slice aD D.length cD)) (hK : ISl I K (.slice aK K.length cK)) (hlA : A.length ≤ 100) (hlD : D.length ≤ 1000) (hlK : K.length ≤ 1000) (hsA : shortL A) : Fun Tryd.prog 31 #[.slice a0 L.length c0, .slice aA A.length cA, .slice aD D.length cD, .slice aK K.length cK] I (fun v J => ∃ a c, v = .tuple #[.slice a (dcF L A D K).length c, .int .i64 ((dcE L A D K : Nat) : Int)] ∧ FSl J (dcF L A D K) (.slice a (dcF L A D K).length c)) := by
  refine enter_rule 79 [(0, .slice a0 L.length c0), (1, .slice aA A.length cA), (2, .slice aD D.length cD), (3, .slice aK K.length cK)] Tryd.func31 rfl (by kernel_rfl) ?_
  intro w s
  refine wp_seq ?_
  refine region_rule ?_
  refine ops_rule (C := []) [] [] 2 [] 0 (fun φ1 => [(9, .int .i64 0), (8, .slice none 0 0)]) (fun φ1 => []) (fun φ1 => []) s trivial (fun φ1 => by kernel_rfl) ?_
  intro φ1 w1 s
  refine ops_done (by kernel_rfl) ?_
  refine wp_seq ?_
  refine wp_seq ?_
  refine region_rule ?_
  refine ops_rule (C := []) [] [] 3 [] 0 (fun φ2 => [(23, .int .i64 0), (22, .int .i64 ((A.length : Nat) : Int)), (21, .slice aA A.length cA)]) (fun φ2 => []) (fun φ2 => []) s trivial (fun φ2 => by kernel_rfl) ?_
  intro φ2 w2 s
  refine ops_done (by kernel_rfl) ?_
  refine wp_block ?_
  have hle3 := IM.Le.refl I
  refine loop_rule (fun (x : Nat) => [(0, .slice a0 L.length c0), (1, .slice aA A.length cA), (2, .slice aD D.length cD), (3, .slice aK K.length cK), (8, .slice none 0 0), (9, .int .i64 0), (21, .slice aA A.length cA), (22, .int .i64 ((A.length : Nat) : Int)), (23, .int .i64 ((x : Nat) : Int))]) (fun (x : Nat) => []) (fun m (x : Nat) J => IM.Le I J ∧ x + m = A.length ∧ eRt (A.take x) = 0) (A.length) 0 s (by kernel_rfl) List.Sublist.slnil ⟨IM.Le.refl _, Nat.zero_add _, rfl⟩ ?_
  rintro m4 i4 I4 w4 ev4 s ⟨le4, hi4_0, hi4_1⟩
  try dsimp only at s hi4_0 hi4_1 ⊢
  replace h0 := FSl.mono le4 h0
  replace hA := FSl.mono le4 hA
  replace hD := FSl.mono le4 hD
  replace hK := ISl.mono le4 hK
  replace hle3 := leMono le4 hle3
  refine wp_seq ?_
  refine region_rule ?_
  refine ops_rule (C := []) [] [] 1 [] 0 (fun φ5 => [(24, .bool (decide (((i4 : Nat) : Int) < ((A.length : Nat) : Int))))]) (fun φ5 => []) (fun φ5 => []) s trivial (fun φ5 => by kernel_rfl) ?_
  intro φ5 w5 s
  rw [nat_lss (a := i4) (b := A.length)]
  refine ops_done (by kernel_rfl) ?_
  refine wp_seq ?_
  rcases Bool.eq_false_or_eq_true (decide (i4 < A.length)) with hc6 | hc6
  ·
    rw [hc6]
    refine cond_true_rule (b := true) (by kernel_rfl) rfl ?_
    refine wp_skip ?_
    refine wp_seq ?_
    refine wp_block ?_
    refine wp_seq ?_
    refine region_rule ?_
    refine sem_rule (Instr.indexAt 30 (.slice aA A.length cA) (.int .i64 ((i4 : Nat) : Int))) (some 25) (.pointer (pAt aA (i4 * 3))) (by kernel_rfl) (fsl_idx30 hA (by have e8 := hi4_0; have hq0 := of_decide_eq_true hc6; omega)) ?_
    refine sem_rule (Instr.loadAt 42 (.pointer (pAt aA (i4 * 3)))) (some 26) (.agg #[.int .i64 ((List.getD A i4 Fe.z).k), .string ⟨((List.getD A i4 Fe.z).a).toArray⟩, .string ⟨((List.getD A i4 Fe.z).v).toArray⟩]) (by kernel_rfl) (fsl_ld42 s.sub hA (by have e8 := hi4_0; have hq0 := of_decide_eq_true hc6; omega)) ?_
    refine ops_rule (C := []) [] [] 2 [.o 0, .o 0, .o 0] 1 (fun φ7 => [(11, .pointer (some ⟨(φ7 0), 0, none⟩))]) (fun φ7 => [((φ7 0), .cells #[.int .i64 ((List.getD A i4 Fe.z).k), .string ⟨((List.getD A i4 Fe.z).a).toArray⟩, .string ⟨((List.getD A i4 Fe.z).v).toArray⟩] 42)]) (fun φ7 => [(φ7 0), (φ7 0), (φ7 0)]) s trivial (fun φ7 => by kernel_rfl) ?_
    intro φ7 w7 s
    refine ops_done (by kernel_rfl) ?_
    refine wp_seq ?_
    refine region_rule ?_
    refine ops_rule (C := []) [((φ7 0), .cells #[.int .i64 ((List.getD A i4 Fe.z).k), .string ⟨((List.getD A i4 Fe.z).a).toArray⟩, .string ⟨((List.getD A i4 Fe.z).v).toArray⟩] 42)] [] 1 [.o 0, .o 0, .o 0] 0 (fun φ8 => [(27, .agg #[.int .i64 ((List.getD A i4 Fe.z).k), .string ⟨((List.getD A i4 Fe.z).a).toArray⟩, .string ⟨((List.getD A i4 Fe.z).v).toArray⟩])]) (fun φ8 => [((φ7 0), .cells #[.int .i64 ((List.getD A i4 Fe.z).k), .string ⟨((List.getD A i4 Fe.z).a).toArray⟩, .string ⟨((List.getD A i4 Fe.z).v).toArray⟩] 42)]) (fun φ8 => [(φ7 0), (φ7 0), (φ7 0)]) s trivial (fun φ8 => by kernel_rfl) ?_
    intro φ8 w8 s
    refine call_rule (some 28) s (refRightX_c (x := (List.getD A i4 Fe.z)) (hsA _ (by have hq0 := of_decide_eq_true hc6; have e8 := hi4_0; omega))) (by kernel_rfl) ?_
    intro v9 I9 w9 le9 h9 s
    replace h0 := FSl.mono le9 h0
    replace hA := FSl.mono le9 hA
    replace hD := FSl.mono le9 hD
    replace hK := ISl.mono le9 hK
    replace hle3 := leMono le9 hle3
    obtain rfl := h9
    refine ops_rule (C := []) [((φ7 0), .cells #[.int .i64 ((List.getD A i4 Fe.z).k), .string ⟨((List.getD A i4 Fe.z).a).toArray⟩, .string ⟨((List.getD A i4 Fe.z).v).toArray⟩] 42)] [] 1 [] 0 (fun φ10 => [(12, .int .i64 ((rtFe (List.getD A i4 Fe.z) : Nat) : Int))]) (fun φ10 => [((φ7 0), .cells #[.int .i64 ((List.getD A i4 Fe.z).k), .string ⟨((List.getD A i4 Fe.z).a).toArray⟩, .string ⟨((List.getD A i4 Fe.z).v).toArray⟩] 42)]) (fun φ10 => []) s trivial (fun φ10 => by kernel_rfl) ?_
    intro φ10 w10 s
    refine ops_done (by kernel_rfl) ?_
    refine wp_seq ?_
    refine region_rule ?_
    refine ops_rule (C := []) [((φ7 0), .cells #[.int .i64 ((List.getD A i4 Fe.z).k), .string ⟨((List.getD A i4 Fe.z).a).toArray⟩, .string ⟨((List.getD A i4 Fe.z).v).toArray⟩] 42)] [] 2 [] 0 (fun φ11 => [(30, .bool (((rtFe (List.getD A i4 Fe.z) : Nat) : Int) != ((0 : Nat) : Int))), (29, .int .i64 ((rtFe (List.getD A i4 Fe.z) : Nat) : Int))]) (fun φ11 => [((φ7 0), .cells #[.int .i64 ((List.getD A i4 Fe.z).k), .string ⟨((List.getD A i4 Fe.z).a).toArray⟩, .string ⟨((List.getD A i4 Fe.z).v).toArray⟩] 42)]) (fun φ11 => []) s trivial (fun φ11 => by kernel_rfl) ?_
    intro φ11 w11 s
    rw [nat_neq (a := (rtFe (List.getD A i4 Fe.z))) (b := 0)]
    refine ops_done (by kernel_rfl) ?_
    rcases Bool.eq_false_or_eq_true (decide ((rtFe (List.getD A i4 Fe.z)) ≠ 0)) with hc12 | hc12
    ·
      rw [hc12]
      refine cond_true_rule (b := true) (by kernel_rfl) rfl ?_
      refine wp_seq ?_
      refine region_rule ?_
      refine ops_rule (C := []) [((φ7 0), .cells #[.int .i64 ((List.getD A i4 Fe.z).k), .string ⟨((List.getD A i4 Fe.z).a).toArray⟩, .string ⟨((List.getD A i4 Fe.z).v).toArray⟩] 42)] [] 4 [] 0 (fun φ13 => [(9, .int .i64 ((rtFe (List.getD A i4 Fe.z) : Nat) : Int)), (8, .slice a0 L.length c0), (32, .int .i64 ((rtFe (List.getD A i4 Fe.z) : Nat) : Int)), (31, .slice a0 L.length c0)]) (fun φ13 => [((φ7 0), .cells #[.int .i64 ((List.getD A i4 Fe.z).k), .string ⟨((List.getD A i4 Fe.z).a).toArray⟩, .string ⟨((List.getD A i4 Fe.z).v).toArray⟩] 42)]) (fun φ13 => []) s trivial (fun φ13 => by kernel_rfl) ?_
      intro φ13 w13 s
      refine ops_done (by kernel_rfl) ?_
      refine wp_ret ?_
      refine ret_rule (C := []) [((φ7 0), .cells #[.int .i64 ((List.getD A i4 Fe.z).k), .string ⟨((List.getD A i4 Fe.z).a).toArray⟩, .string ⟨((List.getD A i4 Fe.z).v).toArray⟩] 42)] [] (.tuple #[.slice a0 L.length c0, .int .i64 ((rtFe (List.getD A i4 Fe.z) : Nat) : Int)]) [] [] s trivial (by kernel_rfl) ?_
      exact ⟨_, _, _, rfl, s, (dc_1 (by have hq0 := of_decide_eq_true hc6; have hq1 := of_decide_eq_true hc12; have := hi4_0; omega) hi4_1 (rt1 hc12) h0)⟩
    ·
      rw [hc12]
      refine cond_false_rule (b := false) (by kernel_rfl) rfl ?_
      refine wp_skip ?_
      refine region_rule ?_
      refine ops_rule (C := []) [((φ7 0), .cells #[.int .i64 ((List.getD A i4 Fe.z).k), .string ⟨((List.getD A i4 Fe.z).a).toArray⟩, .string ⟨((List.getD A i4 Fe.z).v).toArray⟩] 42)] [] 2 [] 0 (fun φ14 => [(23, .int .i64 (IntKind.wrap .i64 (((i4 : Nat) : Int) + ((1 : Nat) : Int)))), (33, .int .i64 (IntKind.wrap .i64 (((i4 : Nat) : Int) + ((1 : Nat) : Int))))]) (fun φ14 => [((φ7 0), .cells #[.int .i64 ((List.getD A i4 Fe.z).k), .string ⟨((List.getD A i4 Fe.z).a).toArray⟩, .string ⟨((List.getD A i4 Fe.z).v).toArray⟩] 42)]) (fun φ14 => []) s trivial (fun φ14 => by kernel_rfl) ?_
      intro φ14 w14 s
      rw [nat_addI (a := i4) (b := 1) (by have e8 := hi4_0; have hq0 := of_decide_eq_true hc6; have hq1 := of_decide_eq_false hc12; omega)]
      refine ops_done (by kernel_rfl) ?_
      exact ⟨⟨m4 - 1, i4 + 1, _, _, _, by have hq0 := of_decide_eq_true hc6; have hq1 := of_decide_eq_false hc12; have := hi4_0; omega, rfl, s, (List.Sublist.cons _ List.Sublist.slnil), by kernel_rfl, hle3, by have hq0 := of_decide_eq_true hc6; have hq1 := of_decide_eq_false hc12; have := hi4_0; show i4 + 1 + (m4 - 1) = A.length; omega, eRt_next (by have hq0 := of_decide_eq_true hc6; have hq1 := of_decide_eq_false hc12; have := hi4_0; omega) hi4_1 (rt0 hc12)⟩⟩
  ·
    rw [hc6]
    refine cond_false_rule (b := false) (by kernel_rfl) rfl ?_
    refine wp_exit ?_
    refine wp_seq ?_
    refine region_rule ?_
    refine ops_rule (C := []) [] [] 1 [] 0 (fun φ15 => [(13, .slice none 0 0)]) (fun φ15 => []) (fun φ15 => []) s trivial (fun φ15 => by kernel_rfl) ?_
    intro φ15 w15 s
    refine ops_done (by kernel_rfl) ?_
    refine wp_seq ?_
    refine wp_seq ?_
    refine region_rule ?_
    refine ops_rule (C := []) [] [] 3 [] 0 (fun φ16 => [(36, .int .i64 0), (35, .int .i64 ((L.length : Nat) : Int)), (34, .slice a0 L.length c0)]) (fun φ16 => []) (fun φ16 => []) s trivial (fun φ16 => by kernel_rfl) ?_
    intro φ16 w16 s
    refine ops_done (by kernel_rfl) ?_
    refine wp_block ?_
    have hle17 := IM.Le.refl I4
    refine loop_rule (fun (x : Nat × Value × List OB) => [(0, .slice a0 L.length c0), (1, .slice aA A.length cA), (2, .slice aD D.length cD), (3, .slice aK K.length cK), (8, .slice none 0 0), (9, .int .i64 0), (34, .slice a0 L.length c0), (35, .int .i64 ((L.length : Nat) : Int)), (36, .int .i64 ((x.1 : Nat) : Int)), (13, x.2.1)]) (fun (x : Nat × Value × List OB) => [] ++ x.2.2) (fun m (x : Nat × Value × List OB) J => IM.Le I4 J ∧ x.1 + m = L.length ∧ RowH 42 3 x.2.1 (List.length (keepF (qP D K) (L.take x.1))) (fcs (keepF (qP D K) (L.take x.1))) x.2.2) (L.length) (0, (.slice none 0 0), []) s (by kernel_rfl) (List.Sublist.refl _) ⟨IM.Le.refl _, Nat.zero_add _, (RowH.nil 42 3)⟩ ?_
    rintro m18 ⟨i18, v18, F18⟩ I18 w18 ev18 s ⟨le18, hi18_0, hi18_1⟩
    try dsimp only at s hi18_0 hi18_1 ⊢
    replace h0 := FSl.mono le18 h0
    replace hA := FSl.mono le18 hA
    replace hD := FSl.mono le18 hD
    replace hK := ISl.mono le18 hK
    replace hle3 := leMono le18 hle3
    replace hle17 := leMono le18 hle17
    refine wp_seq ?_
    refine region_rule ?_
    refine ops_rule (C := []) [] F18 1 [] 0 (fun φ19 => [(37, .bool (decide (((i18 : Nat) : Int) < ((L.length : Nat) : Int))))]) (fun φ19 => []) (fun φ19 => []) s trivial (fun φ19 => by kernel_rfl) ?_
    intro φ19 w19 s
    rw [nat_lss (a := i18) (b := L.length)]
    refine ops_done (by kernel_rfl) ?_
    refine wp_seq ?_
    rcases Bool.eq_false_or_eq_true (decide (i18 < L.length)) with hc20 | hc20
    ·
      rw [hc20]
      refine cond_true_rule (b := true) (by kernel_rfl) rfl ?_
      refine wp_skip ?_
      refine wp_seq ?_
      refine wp_block ?_
      refine wp_seq ?_
      refine region_rule ?_
      refine sem_rule (Instr.indexAt 30 (.slice a0 L.length c0) (.int .i64 ((i18 : Nat) : Int))) (some 38) (.pointer (pAt a0 (i18 * 3))) (by kernel_rfl) (fsl_idx30 h0 (by have e8 := hi18_0; have hq0 := of_decide_eq_false hc6; have hq1 := of_decide_eq_true hc20; omega)) ?_
      refine sem_rule (Instr.loadAt 42 (.pointer (pAt a0 (i18 * 3)))) (some 39) (.agg #[.int .i64 ((List.getD L i18 Fe.z).k), .string ⟨((List.getD L i18 Fe.z).a).toArray⟩, .string ⟨((List.getD L i18 Fe.z).v).toArray⟩]) (by kernel_rfl) (fsl_ld42 s.sub h0 (by have e8 := hi18_0; have hq0 := of_decide_eq_false hc6; have hq1 := of_decide_eq_true hc20; omega)) ?_
      refine ops_rule (C := []) [] F18 2 [.o 0, .o 0, .o 0] 1 (fun φ21 => [(15, .pointer (some ⟨(φ21 0), 0, none⟩))]) (fun φ21 => [((φ21 0), .cells #[.int .i64 ((List.getD L i18 Fe.z).k), .string ⟨((List.getD L i18 Fe.z).a).toArray⟩, .string ⟨((List.getD L i18 Fe.z).v).toArray⟩] 42)]) (fun φ21 => [(φ21 0), (φ21 0), (φ21 0)]) s trivial (fun φ21 => by kernel_rfl) ?_
      intro φ21 w21 s
      refine ops_done (by kernel_rfl) ?_
      refine wp_seq ?_
      refine region_rule ?_
      refine ops_rule (C := []) [((φ21 0), .cells #[.int .i64 ((List.getD L i18 Fe.z).k), .string ⟨((List.getD L i18 Fe.z).a).toArray⟩, .string ⟨((List.getD L i18 Fe.z).v).toArray⟩] 42)] F18 2 [.o 0, .o 0, .o 0] 0 (fun φ22 => [(41, .agg #[.int .i64 ((List.getD L i18 Fe.z).k), .string ⟨((List.getD L i18 Fe.z).a).toArray⟩, .string ⟨((List.getD L i18 Fe.z).v).toArray⟩]), (40, .slice aD D.length cD)]) (fun φ22 => [((φ21 0), .cells #[.int .i64 ((List.getD L i18 Fe.z).k), .string ⟨((List.getD L i18 Fe.z).a).toArray⟩, .string ⟨((List.getD L i18 Fe.z).v).toArray⟩] 42)]) (fun φ22 => [(φ21 0), (φ21 0), (φ21 0)]) s trivial (fun φ22 => by kernel_rfl) ?_
      intro φ22 w22 s
      refine call_rule (some 42) s (has_c (xf := (List.getD L i18 Fe.z)) hD (by omega)) (by kernel_rfl) ?_
      intro v23 I23 w23 le23 h23 s
      replace h0 := FSl.mono le23 h0
      replace hA := FSl.mono le23 hA
      replace hD := FSl.mono le23 hD
      replace hK := ISl.mono le23 hK
      replace hle3 := leMono le23 hle3
      replace hle17 := leMono le23 hle17
      obtain rfl := h23
      refine ops_rule (C := []) [((φ21 0), .cells #[.int .i64 ((List.getD L i18 Fe.z).k), .string ⟨((List.getD L i18 Fe.z).a).toArray⟩, .string ⟨((List.getD L i18 Fe.z).v).toArray⟩] 42)] F18 1 [] 0 (fun φ24 => [(16, .bool (decide ((List.getD L i18 Fe.z) ∈ D)))]) (fun φ24 => [((φ21 0), .cells #[.int .i64 ((List.getD L i18 Fe.z).k), .string ⟨((List.getD L i18 Fe.z).a).toArray⟩, .string ⟨((List.getD L i18 Fe.z).v).toArray⟩] 42)]) (fun φ24 => []) s trivial (fun φ24 => by kernel_rfl) ?_
      intro φ24 w24 s
      refine ops_done (by kernel_rfl) ?_
      refine wp_seq ?_
      refine wp_seq ?_
      refine region_rule ?_
      refine ops_rule (C := []) [((φ21 0), .cells #[.int .i64 ((List.getD L i18 Fe.z).k), .string ⟨((List.getD L i18 Fe.z).a).toArray⟩, .string ⟨((List.getD L i18 Fe.z).v).toArray⟩] 42)] F18 3 [] 0 (fun φ25 => [(45, .int .i64 0), (44, .int .i64 ((K.length : Nat) : Int)), (43, .slice aK K.length cK)]) (fun φ25 => [((φ21 0), .cells #[.int .i64 ((List.getD L i18 Fe.z).k), .string ⟨((List.getD L i18 Fe.z).a).toArray⟩, .string ⟨((List.getD L i18 Fe.z).v).toArray⟩] 42)]) (fun φ25 => []) s trivial (fun φ25 => by kernel_rfl) ?_
      intro φ25 w25 s
      refine ops_done (by kernel_rfl) ?_
      refine wp_block ?_
      have hle26 := IM.Le.refl I23
      refine loop_rule (fun (x : Nat × Bool) => [(0, .slice a0 L.length c0), (1, .slice aA A.length cA), (2, .slice aD D.length cD), (3, .slice aK K.length cK), (8, .slice none 0 0), (9, .int .i64 0), (34, .slice a0 L.length c0), (35, .int .i64 ((L.length : Nat) : Int)), (36, .int .i64 ((i18 : Nat) : Int)), (13, v18), (15, .pointer (some ⟨(φ21 0), 0, none⟩)), (43, .slice aK K.length cK), (44, .int .i64 ((K.length : Nat) : Int)), (45, .int .i64 ((x.1 : Nat) : Int)), (16, .bool x.2)]) (fun (x : Nat × Bool) => [((φ21 0), .cells #[.int .i64 ((List.getD L i18 Fe.z).k), .string ⟨((List.getD L i18 Fe.z).a).toArray⟩, .string ⟨((List.getD L i18 Fe.z).v).toArray⟩] 42)] ++ F18) (fun m (x : Nat × Bool) J => IM.Le I23 J ∧ x.1 + m = K.length ∧ x.2 = gK D K (List.getD L i18 Fe.z) x.1) (K.length) (0, decide ((List.getD L i18 Fe.z) ∈ D)) s (by kernel_rfl) (List.Sublist.refl _) ⟨IM.Le.refl _, Nat.zero_add _, gK_0⟩ ?_
      rintro m27 ⟨j27, b27⟩ I27 w27 ev27 s ⟨le27, hi27_0, hi27_1⟩
      try dsimp only at s hi27_0 hi27_1 ⊢
      replace h0 := FSl.mono le27 h0
      replace hA := FSl.mono le27 hA
      replace hD := FSl.mono le27 hD
      replace hK := ISl.mono le27 hK
      replace hle3 := leMono le27 hle3
      replace hle17 := leMono le27 hle17
      replace hle26 := leMono le27 hle26
      refine wp_seq ?_
      refine region_rule ?_
      refine ops_rule (C := []) [((φ21 0), .cells #[.int .i64 ((List.getD L i18 Fe.z).k), .string ⟨((List.getD L i18 Fe.z).a).toArray⟩, .string ⟨((List.getD L i18 Fe.z).v).toArray⟩] 42)] F18 1 [] 0 (fun φ28 => [(46, .bool (decide (((j27 : Nat) : Int) < ((K.length : Nat) : Int))))]) (fun φ28 => [((φ21 0), .cells #[.int .i64 ((List.getD L i18 Fe.z).k), .string ⟨((List.getD L i18 Fe.z).a).toArray⟩, .string ⟨((List.getD L i18 Fe.z).v).toArray⟩] 42)]) (fun φ28 => []) s trivial (fun φ28 => by kernel_rfl) ?_
      intro φ28 w28 s
      rw [nat_lss (a := j27) (b := K.length)]
      refine ops_done (by kernel_rfl) ?_
      refine wp_seq ?_
      rcases Bool.eq_false_or_eq_true (decide (j27 < K.length)) with hc29 | hc29
      ·
        rw [hc29]
        refine cond_true_rule (b := true) (by kernel_rfl) rfl ?_
        refine wp_skip ?_
        refine wp_seq ?_
        refine wp_block ?_
        refine wp_seq ?_
        refine region_rule ?_
        refine sem_rule (Instr.indexAt 52 (.slice aK K.length cK) (.int .i64 ((j27 : Nat) : Int))) (some 47) (.pointer (pAt aK j27)) (by kernel_rfl) (isl_idx hK (by have e8 := hi18_0; have e7 := hi27_0; have hq0 := of_decide_eq_false hc6; have hq1 := of_decide_eq_true hc20; have hq2 := of_decide_eq_true hc29; omega)) ?_
        refine sem_rule (Instr.loadAt 3 (.pointer (pAt aK j27))) (some 48) (.int .i64 (List.getD K j27 0)) (by kernel_rfl) (isl_ld s.sub hK (by have e8 := hi18_0; have e7 := hi27_0; have hq0 := of_decide_eq_false hc6; have hq1 := of_decide_eq_true hc20; have hq2 := of_decide_eq_true hc29; omega)) ?_
        refine ops_rule (C := []) [((φ21 0), .cells #[.int .i64 ((List.getD L i18 Fe.z).k), .string ⟨((List.getD L i18 Fe.z).a).toArray⟩, .string ⟨((List.getD L i18 Fe.z).v).toArray⟩] 42)] F18 1 [] 0 (fun φ30 => [(18, .int .i64 (List.getD K j27 0))]) (fun φ30 => [((φ21 0), .cells #[.int .i64 ((List.getD L i18 Fe.z).k), .string ⟨((List.getD L i18 Fe.z).a).toArray⟩, .string ⟨((List.getD L i18 Fe.z).v).toArray⟩] 42)]) (fun φ30 => []) s trivial (fun φ30 => by kernel_rfl) ?_
        intro φ30 w30 s
        refine ops_done (by kernel_rfl) ?_
        refine region_rule ?_
        refine ops_rule (C := []) [((φ21 0), .cells #[.int .i64 ((List.getD L i18 Fe.z).k), .string ⟨((List.getD L i18 Fe.z).a).toArray⟩, .string ⟨((List.getD L i18 Fe.z).v).toArray⟩] 42)] F18 2 [] 0 (fun φ31 => [(50, .bool b27), (49, .bool b27)]) (fun φ31 => [((φ21 0), .cells #[.int .i64 ((List.getD L i18 Fe.z).k), .string ⟨((List.getD L i18 Fe.z).a).toArray⟩, .string ⟨((List.getD L i18 Fe.z).v).toArray⟩] 42)]) (fun φ31 => []) s trivial (fun φ31 => by kernel_rfl) ?_
        intro φ31 w31 s
        rcases Bool.eq_false_or_eq_true (b27) with hc32 | hc32
        ·
          rw [hc32]
          refine ops_rule (C := []) [((φ21 0), .cells #[.int .i64 ((List.getD L i18 Fe.z).k), .string ⟨((List.getD L i18 Fe.z).a).toArray⟩, .string ⟨((List.getD L i18 Fe.z).v).toArray⟩] 42)] F18 6 [] 0 (fun φ33 => [(16, .bool true), (55, .bool true), (54, undef), (53, undef), (52, undef), (51, undef)]) (fun φ33 => [((φ21 0), .cells #[.int .i64 ((List.getD L i18 Fe.z).k), .string ⟨((List.getD L i18 Fe.z).a).toArray⟩, .string ⟨((List.getD L i18 Fe.z).v).toArray⟩] 42)]) (fun φ33 => []) s trivial (fun φ33 => by kernel_rfl) ?_
          intro φ33 w33 s
          refine ops_done (by kernel_rfl) ?_
          refine region_rule ?_
          refine ops_rule (C := []) [((φ21 0), .cells #[.int .i64 ((List.getD L i18 Fe.z).k), .string ⟨((List.getD L i18 Fe.z).a).toArray⟩, .string ⟨((List.getD L i18 Fe.z).v).toArray⟩] 42)] F18 2 [] 0 (fun φ34 => [(45, .int .i64 (IntKind.wrap .i64 (((j27 : Nat) : Int) + ((1 : Nat) : Int)))), (56, .int .i64 (IntKind.wrap .i64 (((j27 : Nat) : Int) + ((1 : Nat) : Int))))]) (fun φ34 => [((φ21 0), .cells #[.int .i64 ((List.getD L i18 Fe.z).k), .string ⟨((List.getD L i18 Fe.z).a).toArray⟩, .string ⟨((List.getD L i18 Fe.z).v).toArray⟩] 42)]) (fun φ34 => []) s trivial (fun φ34 => by kernel_rfl) ?_
          intro φ34 w34 s
          rw [nat_addI (a := j27) (b := 1) (by have e8 := hi18_0; have e7 := hi27_0; have hq0 := of_decide_eq_false hc6; have hq1 := of_decide_eq_true hc20; have hq2 := of_decide_eq_true hc29; omega)]
          refine ops_done (by kernel_rfl) ?_
          exact ⟨⟨m27 - 1, (j27 + 1, true), _, _, _, by have hq0 := of_decide_eq_false hc6; have hq1 := of_decide_eq_true hc20; have hq2 := of_decide_eq_true hc29; have := hi27_0; omega, rfl, s, (List.Sublist.append (List.Sublist.cons₂ _ List.Sublist.slnil) (List.Sublist.refl _)), by kernel_rfl, hle26, by have hq0 := of_decide_eq_false hc6; have hq1 := of_decide_eq_true hc20; have hq2 := of_decide_eq_true hc29; have := hi27_0; show j27 + 1 + (m27 - 1) = K.length; omega, gK_t (by have hq0 := of_decide_eq_false hc6; have hq1 := of_decide_eq_true hc20; have hq2 := of_decide_eq_true hc29; have := hi27_0; omega) hi27_1 hc32⟩⟩
        ·
          rw [hc32]
          refine ops_rule (C := []) [((φ21 0), .cells #[.int .i64 ((List.getD L i18 Fe.z).k), .string ⟨((List.getD L i18 Fe.z).a).toArray⟩, .string ⟨((List.getD L i18 Fe.z).v).toArray⟩] 42)] F18 6 [.o 0] 0 (fun φ35 => [(16, .bool (((List.getD L i18 Fe.z).k) == (List.getD K j27 0))), (55, .bool (((List.getD L i18 Fe.z).k) == (List.getD K j27 0))), (54, .bool (((List.getD L i18 Fe.z).k) == (List.getD K j27 0))), (53, .int .i64 (List.getD K j27 0)), (52, .int .i64 ((List.getD L i18 Fe.z).k)), (51, .pointer (some ⟨(φ21 0), 0, none⟩))]) (fun φ35 => [((φ21 0), .cells #[.int .i64 ((List.getD L i18 Fe.z).k), .string ⟨((List.getD L i18 Fe.z).a).toArray⟩, .string ⟨((List.getD L i18 Fe.z).v).toArray⟩] 42)]) (fun φ35 => [(φ21 0)]) s trivial (fun φ35 => by kernel_rfl) ?_
          intro φ35 w35 s
          refine ops_done (by kernel_rfl) ?_
          refine region_rule ?_
          refine ops_rule (C := []) [((φ21 0), .cells #[.int .i64 ((List.getD L i18 Fe.z).k), .string ⟨((List.getD L i18 Fe.z).a).toArray⟩, .string ⟨((List.getD L i18 Fe.z).v).toArray⟩] 42)] F18 2 [] 0 (fun φ36 => [(45, .int .i64 (IntKind.wrap .i64 (((j27 : Nat) : Int) + ((1 : Nat) : Int)))), (56, .int .i64 (IntKind.wrap .i64 (((j27 : Nat) : Int) + ((1 : Nat) : Int))))]) (fun φ36 => [((φ21 0), .cells #[.int .i64 ((List.getD L i18 Fe.z).k), .string ⟨((List.getD L i18 Fe.z).a).toArray⟩, .string ⟨((List.getD L i18 Fe.z).v).toArray⟩] 42)]) (fun φ36 => []) s trivial (fun φ36 => by kernel_rfl) ?_
          intro φ36 w36 s
          rw [nat_addI (a := j27) (b := 1) (by have e8 := hi18_0; have e7 := hi27_0; have hq0 := of_decide_eq_false hc6; have hq1 := of_decide_eq_true hc20; have hq2 := of_decide_eq_true hc29; omega)]
          refine ops_done (by kernel_rfl) ?_
          exact ⟨⟨m27 - 1, (j27 + 1, ((List.getD L i18 Fe.z).k) == (List.getD K j27 0)), _, _, _, by have hq0 := of_decide_eq_false hc6; have hq1 := of_decide_eq_true hc20; have hq2 := of_decide_eq_true hc29; have := hi27_0; omega, rfl, s, (List.Sublist.append (List.Sublist.cons₂ _ List.Sublist.slnil) (List.Sublist.refl _)), by kernel_rfl, hle26, by have hq0 := of_decide_eq_false hc6; have hq1 := of_decide_eq_true hc20; have hq2 := of_decide_eq_true hc29; have := hi27_0; show j27 + 1 + (m27 - 1) = K.length; omega, gK_f (by have hq0 := of_decide_eq_false hc6; have hq1 := of_decide_eq_true hc20; have hq2 := of_decide_eq_true hc29; have := hi27_0; omega) hi27_1 hc32⟩⟩
      ·
        rw [hc29]
        refine cond_false_rule (b := false) (by kernel_rfl) rfl ?_
        refine wp_exit ?_
        refine wp_seq ?_
        refine region_rule ?_
        refine ops_rule (C := []) [((φ21 0), .cells #[.int .i64 ((List.getD L i18 Fe.z).k), .string ⟨((List.getD L i18 Fe.z).a).toArray⟩, .string ⟨((List.getD L i18 Fe.z).v).toArray⟩] 42)] F18 2 [] 0 (fun φ37 => [(58, .bool (!(b27))), (57, .bool b27)]) (fun φ37 => [((φ21 0), .cells #[.int .i64 ((List.getD L i18 Fe.z).k), .string ⟨((List.getD L i18 Fe.z).a).toArray⟩, .string ⟨((List.getD L i18 Fe.z).v).toArray⟩] 42)]) (fun φ37 => []) s trivial (fun φ37 => by kernel_rfl) ?_
        intro φ37 w37 s
        refine ops_done (by kernel_rfl) ?_
        rcases Bool.eq_false_or_eq_true (b27) with hc38 | hc38
        ·
          rw [hc38]
          refine cond_false_rule (b := false) (by kernel_rfl) rfl ?_
          refine wp_skip ?_
          refine region_rule ?_
          refine ops_rule (C := []) [((φ21 0), .cells #[.int .i64 ((List.getD L i18 Fe.z).k), .string ⟨((List.getD L i18 Fe.z).a).toArray⟩, .string ⟨((List.getD L i18 Fe.z).v).toArray⟩] 42)] F18 2 [] 0 (fun φ39 => [(36, .int .i64 (IntKind.wrap .i64 (((i18 : Nat) : Int) + ((1 : Nat) : Int)))), (63, .int .i64 (IntKind.wrap .i64 (((i18 : Nat) : Int) + ((1 : Nat) : Int))))]) (fun φ39 => [((φ21 0), .cells #[.int .i64 ((List.getD L i18 Fe.z).k), .string ⟨((List.getD L i18 Fe.z).a).toArray⟩, .string ⟨((List.getD L i18 Fe.z).v).toArray⟩] 42)]) (fun φ39 => []) s trivial (fun φ39 => by kernel_rfl) ?_
          intro φ39 w39 s
          rw [nat_addI (a := i18) (b := 1) (by have e8 := hi18_0; have e7 := hi27_0; have hq0 := of_decide_eq_false hc6; have hq1 := of_decide_eq_true hc20; have hq2 := of_decide_eq_false hc29; omega)]
          refine ops_done (by kernel_rfl) ?_
          exact ⟨⟨m18 - 1, (i18 + 1, v18, F18), _, _, _, by have hq0 := of_decide_eq_false hc6; have hq1 := of_decide_eq_true hc20; have hq2 := of_decide_eq_false hc29; have := hi18_0; omega, rfl, s, (List.Sublist.append (List.Sublist.cons _ List.Sublist.slnil) (List.Sublist.refl _)), by kernel_rfl, hle17, by have hq0 := of_decide_eq_false hc6; have hq1 := of_decide_eq_true hc20; have hq2 := of_decide_eq_false hc29; have := hi18_0; show i18 + 1 + (m18 - 1) = L.length; omega, (row_eq42 (keep_no (by have hq0 := of_decide_eq_false hc6; have hq1 := of_decide_eq_true hc20; have hq2 := of_decide_eq_false hc29; have := hi18_0; omega) ((gK_all (by have hq0 := of_decide_eq_false hc6; have hq1 := of_decide_eq_true hc20; have hq2 := of_decide_eq_false hc29; have := hi27_0; omega)).symm.trans (hi27_1.symm.trans hc38))) hi18_1)⟩⟩
        ·
          rw [hc38]
          refine cond_true_rule (b := true) (by kernel_rfl) rfl ?_
          refine region_rule ?_
          refine ops_rule (C := []) [((φ21 0), .cells #[.int .i64 ((List.getD L i18 Fe.z).k), .string ⟨((List.getD L i18 Fe.z).a).toArray⟩, .string ⟨((List.getD L i18 Fe.z).v).toArray⟩] 42)] F18 3 [.o 0, .o 0, .o 0] 1 (fun φ40 => [(61, .slice (some ⟨(φ40 0), 0, none⟩) 1 1), (60, .agg #[.int .i64 ((List.getD L i18 Fe.z).k), .string ⟨((List.getD L i18 Fe.z).a).toArray⟩, .string ⟨((List.getD L i18 Fe.z).v).toArray⟩]), (59, v18)]) (fun φ40 => [((φ21 0), .cells #[.int .i64 ((List.getD L i18 Fe.z).k), .string ⟨((List.getD L i18 Fe.z).a).toArray⟩, .string ⟨((List.getD L i18 Fe.z).v).toArray⟩] 42), ((φ40 0), .cells #[.int .i64 ((List.getD L i18 Fe.z).k), .string ⟨((List.getD L i18 Fe.z).a).toArray⟩, .string ⟨((List.getD L i18 Fe.z).v).toArray⟩] 42)]) (fun φ40 => [(φ21 0), (φ21 0), (φ21 0)]) s trivial (fun φ40 => by kernel_rfl) ?_
          intro φ40 w40 s
          have hb41 : (List.length (keepF (qP D K) (L.take i18))) ≤ 100000 := (Nat.le_trans keep_takelen (by omega))
          refine append_rule (H := [((φ21 0), .cells #[.int .i64 ((List.getD L i18 Fe.z).k), .string ⟨((List.getD L i18 Fe.z).a).toArray⟩, .string ⟨((List.getD L i18 Fe.z).v).toArray⟩] 42), ((φ40 0), .cells #[.int .i64 ((List.getD L i18 Fe.z).k), .string ⟨((List.getD L i18 Fe.z).a).toArray⟩, .string ⟨((List.getD L i18 Fe.z).v).toArray⟩] 42)]) (F := F18) 30 30 42 Tryd.t42 (.agg #[.int .i64 0, .string ⟨#[]⟩, .string ⟨#[]⟩]) 3 40 (some 62) s Tryd.underlying30 (by kernel_rfl) (by kernel_rfl) (by kernel_rfl) (by kernel_rfl) (by kernel_rfl) (by decide) hi18_1 (src_own s 1 (φ40 0) #[.int .i64 ((List.getD L i18 Fe.z).k), .string ⟨((List.getD L i18 Fe.z).a).toArray⟩, .string ⟨((List.getD L i18 Fe.z).v).toArray⟩] 42 30 42 1 1 3 [.int .i64 ((List.getD L i18 Fe.z).k), .string ⟨((List.getD L i18 Fe.z).a).toArray⟩, .string ⟨((List.getD L i18 Fe.z).v).toArray⟩] (by kernel_rfl) Tryd.underlying30 (by kernel_rfl) (by kernel_rfl) (by kernel_rfl)) (by simp only [maxLen]; omega) (by omega) (by kernel_rfl) ?_
          intro v41 w41 F41 s h41
          replace h41 : RowH 42 3 v41 (List.length ((keepF (qP D K) (L.take i18)) ++ [(List.getD L i18 Fe.z)])) (fcs ((keepF (qP D K) (L.take i18)) ++ [(List.getD L i18 Fe.z)])) F41 := row42_snoc (Fs := (keepF (qP D K) (L.take i18))) (x := (List.getD L i18 Fe.z)) h41 rfl
          refine ops_rule (C := []) [((φ21 0), .cells #[.int .i64 ((List.getD L i18 Fe.z).k), .string ⟨((List.getD L i18 Fe.z).a).toArray⟩, .string ⟨((List.getD L i18 Fe.z).v).toArray⟩] 42), ((φ40 0), .cells #[.int .i64 ((List.getD L i18 Fe.z).k), .string ⟨((List.getD L i18 Fe.z).a).toArray⟩, .string ⟨((List.getD L i18 Fe.z).v).toArray⟩] 42)] F41 1 [] 0 (fun φ42 => [(13, v41)]) (fun φ42 => [((φ21 0), .cells #[.int .i64 ((List.getD L i18 Fe.z).k), .string ⟨((List.getD L i18 Fe.z).a).toArray⟩, .string ⟨((List.getD L i18 Fe.z).v).toArray⟩] 42), ((φ40 0), .cells #[.int .i64 ((List.getD L i18 Fe.z).k), .string ⟨((List.getD L i18 Fe.z).a).toArray⟩, .string ⟨((List.getD L i18 Fe.z).v).toArray⟩] 42)]) (fun φ42 => []) s trivial (fun φ42 => by kernel_rfl) ?_
          intro φ42 w42 s
          refine ops_done (by kernel_rfl) ?_
          refine region_rule ?_
          refine ops_rule (C := []) [((φ21 0), .cells #[.int .i64 ((List.getD L i18 Fe.z).k), .string ⟨((List.getD L i18 Fe.z).a).toArray⟩, .string ⟨((List.getD L i18 Fe.z).v).toArray⟩] 42), ((φ40 0), .cells #[.int .i64 ((List.getD L i18 Fe.z).k), .string ⟨((List.getD L i18 Fe.z).a).toArray⟩, .string ⟨((List.getD L i18 Fe.z).v).toArray⟩] 42)] F41 2 [] 0 (fun φ43 => [(36, .int .i64 (IntKind.wrap .i64 (((i18 : Nat) : Int) + ((1 : Nat) : Int)))), (63, .int .i64 (IntKind.wrap .i64 (((i18 : Nat) : Int) + ((1 : Nat) : Int))))]) (fun φ43 => [((φ21 0), .cells #[.int .i64 ((List.getD L i18 Fe.z).k), .string ⟨((List.getD L i18 Fe.z).a).toArray⟩, .string ⟨((List.getD L i18 Fe.z).v).toArray⟩] 42), ((φ40 0), .cells #[.int .i64 ((List.getD L i18 Fe.z).k), .string ⟨((List.getD L i18 Fe.z).a).toArray⟩, .string ⟨((List.getD L i18 Fe.z).v).toArray⟩] 42)]) (fun φ43 => []) s trivial (fun φ43 => by kernel_rfl) ?_
          intro φ43 w43 s
          rw [nat_addI (a := i18) (b := 1) (by have e8 := hi18_0; have e7 := hi27_0; have hq0 := of_decide_eq_false hc6; have hq1 := of_decide_eq_true hc20; have hq2 := of_decide_eq_false hc29; omega)]
          refine ops_done (by kernel_rfl) ?_
          exact ⟨⟨m18 - 1, (i18 + 1, v41, F41), _, _, _, by have hq0 := of_decide_eq_false hc6; have hq1 := of_decide_eq_true hc20; have hq2 := of_decide_eq_false hc29; have := hi18_0; omega, rfl, s, (List.Sublist.append (List.Sublist.cons _ (List.Sublist.cons _ List.Sublist.slnil)) (List.Sublist.refl _)), by kernel_rfl, hle17, by have hq0 := of_decide_eq_false hc6; have hq1 := of_decide_eq_true hc20; have hq2 := of_decide_eq_false hc29; have := hi18_0; show i18 + 1 + (m18 - 1) = L.length; omega, (row_eq42 (keep_yes (by have hq0 := of_decide_eq_false hc6; have hq1 := of_decide_eq_true hc20; have hq2 := of_decide_eq_false hc29; have := hi18_0; omega) ((gK_all (by have hq0 := of_decide_eq_false hc6; have hq1 := of_decide_eq_true hc20; have hq2 := of_decide_eq_false hc29; have := hi27_0; omega)).symm.trans (hi27_1.symm.trans hc38))) h41)⟩⟩
    ·
      rw [hc20]
      refine cond_false_rule (b := false) (by kernel_rfl) rfl ?_
      refine wp_exit ?_
      refine wp_seq ?_
      refine wp_seq ?_
      refine region_rule ?_
      refine ops_rule (C := []) [] F18 3 [] 0 (fun φ44 => [(66, .int .i64 0), (65, .int .i64 ((A.length : Nat) : Int)), (64, .slice aA A.length cA)]) (fun φ44 => []) (fun φ44 => []) s trivial (fun φ44 => by kernel_rfl) ?_
      intro φ44 w44 s
      refine ops_done (by kernel_rfl) ?_
      refine wp_block ?_
      have hr45 := row_eq42 (by have ei : i18 = L.length := (by have hq0 := of_decide_eq_false hc6; have hq1 := of_decide_eq_false hc20; have := hi18_0; omega); rw [ei, List.take_length]) hi18_1
      obtain ⟨J45, le45, hk45, s⟩ := freeze_row42 (H := []) (F := F18) s hr45
      obtain ⟨a45, c45, hv45, -, hk45⟩ := hk45.open
      subst hv45
      replace h0 := FSl.mono le45 h0
      replace hA := FSl.mono le45 hA
      replace hD := FSl.mono le45 hD
      replace hK := ISl.mono le45 hK
      replace hle3 := leMono le45 hle3
      replace hle17 := leMono le45 hle17
      have hle46 := IM.Le.refl J45
      refine loop_rule (fun (x : Nat × Option Addr × Nat) => [(0, .slice a0 L.length c0), (1, .slice aA A.length cA), (2, .slice aD D.length cD), (3, .slice aK K.length cK), (8, .slice none 0 0), (9, .int .i64 0), (64, .slice aA A.length cA), (65, .int .i64 ((A.length : Nat) : Int)), (66, .int .i64 ((x.1 : Nat) : Int)), (13, .slice x.2.1 (List.length ((A.take x.1).foldl ins (keepF (qP D K) L))) x.2.2)]) (fun (x : Nat × Option Addr × Nat) => []) (fun m (x : Nat × Option Addr × Nat) J => IM.Le J45 J ∧ x.1 + m = A.length ∧ FSl J ((A.take x.1).foldl ins (keepF (qP D K) L)) (.slice x.2.1 (List.length ((A.take x.1).foldl ins (keepF (qP D K) L))) x.2.2)) (A.length) (0, a45, c45) s (by kernel_rfl) List.Sublist.slnil ⟨IM.Le.refl _, Nat.zero_add _, hk45⟩ ?_
      rintro m47 ⟨i47, a47, c47⟩ I47 w47 ev47 s ⟨le47, hi47_0, hi47_1⟩
      try dsimp only at s hi47_0 hi47_1 ⊢
      replace h0 := FSl.mono le47 h0
      replace hA := FSl.mono le47 hA
      replace hD := FSl.mono le47 hD
      replace hK := ISl.mono le47 hK
      replace hle3 := leMono le47 hle3
      replace hle17 := leMono le47 hle17
      replace hk45 := FSl.mono le47 hk45
      replace hle46 := leMono le47 hle46
      refine wp_seq ?_
      refine region_rule ?_
      refine ops_rule (C := []) [] [] 1 [] 0 (fun φ48 => [(67, .bool (decide (((i47 : Nat) : Int) < ((A.length : Nat) : Int))))]) (fun φ48 => []) (fun φ48 => []) s trivial (fun φ48 => by kernel_rfl) ?_
      intro φ48 w48 s
      rw [nat_lss (a := i47) (b := A.length)]
      refine ops_done (by kernel_rfl) ?_
      refine wp_seq ?_
      rcases Bool.eq_false_or_eq_true (decide (i47 < A.length)) with hc49 | hc49
      ·
        rw [hc49]
        refine cond_true_rule (b := true) (by kernel_rfl) rfl ?_
        refine wp_skip ?_
        refine wp_seq ?_
        refine wp_block ?_
        refine wp_seq ?_
        refine region_rule ?_
        refine sem_rule (Instr.indexAt 30 (.slice aA A.length cA) (.int .i64 ((i47 : Nat) : Int))) (some 68) (.pointer (pAt aA (i47 * 3))) (by kernel_rfl) (fsl_idx30 hA (by have e8 := hi47_0; have hq0 := of_decide_eq_false hc6; have hq1 := of_decide_eq_false hc20; have hq2 := of_decide_eq_true hc49; omega)) ?_
        refine sem_rule (Instr.loadAt 42 (.pointer (pAt aA (i47 * 3)))) (some 69) (.agg #[.int .i64 ((List.getD A i47 Fe.z).k), .string ⟨((List.getD A i47 Fe.z).a).toArray⟩, .string ⟨((List.getD A i47 Fe.z).v).toArray⟩]) (by kernel_rfl) (fsl_ld42 s.sub hA (by have e8 := hi47_0; have hq0 := of_decide_eq_false hc6; have hq1 := of_decide_eq_false hc20; have hq2 := of_decide_eq_true hc49; omega)) ?_
        refine ops_rule (C := []) [] [] 2 [.o 0, .o 0, .o 0] 1 (fun φ50 => [(20, .pointer (some ⟨(φ50 0), 0, none⟩))]) (fun φ50 => [((φ50 0), .cells #[.int .i64 ((List.getD A i47 Fe.z).k), .string ⟨((List.getD A i47 Fe.z).a).toArray⟩, .string ⟨((List.getD A i47 Fe.z).v).toArray⟩] 42)]) (fun φ50 => [(φ50 0), (φ50 0), (φ50 0)]) s trivial (fun φ50 => by kernel_rfl) ?_
        intro φ50 w50 s
        refine ops_done (by kernel_rfl) ?_
        refine region_rule ?_
        refine ops_rule (C := []) [((φ50 0), .cells #[.int .i64 ((List.getD A i47 Fe.z).k), .string ⟨((List.getD A i47 Fe.z).a).toArray⟩, .string ⟨((List.getD A i47 Fe.z).v).toArray⟩] 42)] [] 2 [.o 0, .o 0, .o 0] 0 (fun φ51 => [(71, .agg #[.int .i64 ((List.getD A i47 Fe.z).k), .string ⟨((List.getD A i47 Fe.z).a).toArray⟩, .string ⟨((List.getD A i47 Fe.z).v).toArray⟩]), (70, .slice a47 (List.length ((A.take i47).foldl ins (keepF (qP D K) L))) c47)]) (fun φ51 => [((φ50 0), .cells #[.int .i64 ((List.getD A i47 Fe.z).k), .string ⟨((List.getD A i47 Fe.z).a).toArray⟩, .string ⟨((List.getD A i47 Fe.z).v).toArray⟩] 42)]) (fun φ51 => [(φ50 0), (φ50 0), (φ50 0)]) s trivial (fun φ51 => by kernel_rfl) ?_
        intro φ51 w51 s
        refine call_rule (some 72) s (putA_c hi47_1 (by have := keep_len (q := qP D K) (L := L); omega) hlA (keep_short hsL) hsA (by have hq0 := of_decide_eq_false hc6; have hq1 := of_decide_eq_false hc20; have hq2 := of_decide_eq_true hc49; have e8 := hi47_0; omega)) (by kernel_rfl) ?_
        intro v52 I52 w52 le52 h52 s
        replace h0 := FSl.mono le52 h0
        replace hA := FSl.mono le52 hA
        replace hD := FSl.mono le52 hD
        replace hK := ISl.mono le52 hK
        replace hle3 := leMono le52 hle3
        replace hle17 := leMono le52 hle17
        replace hk45 := FSl.mono le52 hk45
        replace hle46 := leMono le52 hle46
        replace hi47_1 := FSl.mono le52 hi47_1
        obtain ⟨a52, c52, rfl, h52_0⟩ := h52
        refine ops_rule (C := []) [((φ50 0), .cells #[.int .i64 ((List.getD A i47 Fe.z).k), .string ⟨((List.getD A i47 Fe.z).a).toArray⟩, .string ⟨((List.getD A i47 Fe.z).v).toArray⟩] 42)] [] 1 [] 0 (fun φ53 => [(13, .slice a52 (List.length ((A.take (i47 + 1)).foldl ins (keepF (qP D K) L))) c52)]) (fun φ53 => [((φ50 0), .cells #[.int .i64 ((List.getD A i47 Fe.z).k), .string ⟨((List.getD A i47 Fe.z).a).toArray⟩, .string ⟨((List.getD A i47 Fe.z).v).toArray⟩] 42)]) (fun φ53 => []) s trivial (fun φ53 => by kernel_rfl) ?_
        intro φ53 w53 s
        refine ops_done (by kernel_rfl) ?_
        refine region_rule ?_
        refine ops_rule (C := []) [((φ50 0), .cells #[.int .i64 ((List.getD A i47 Fe.z).k), .string ⟨((List.getD A i47 Fe.z).a).toArray⟩, .string ⟨((List.getD A i47 Fe.z).v).toArray⟩] 42)] [] 2 [] 0 (fun φ54 => [(66, .int .i64 (IntKind.wrap .i64 (((i47 : Nat) : Int) + ((1 : Nat) : Int)))), (73, .int .i64 (IntKind.wrap .i64 (((i47 : Nat) : Int) + ((1 : Nat) : Int))))]) (fun φ54 => [((φ50 0), .cells #[.int .i64 ((List.getD A i47 Fe.z).k), .string ⟨((List.getD A i47 Fe.z).a).toArray⟩, .string ⟨((List.getD A i47 Fe.z).v).toArray⟩] 42)]) (fun φ54 => []) s trivial (fun φ54 => by kernel_rfl) ?_
        intro φ54 w54 s
        rw [nat_addI (a := i47) (b := 1) (by have e8 := hi47_0; have hq0 := of_decide_eq_false hc6; have hq1 := of_decide_eq_false hc20; have hq2 := of_decide_eq_true hc49; omega)]
        refine ops_done (by kernel_rfl) ?_
        exact ⟨⟨m47 - 1, (i47 + 1, a52, c52), _, _, _, by have hq0 := of_decide_eq_false hc6; have hq1 := of_decide_eq_false hc20; have hq2 := of_decide_eq_true hc49; have := hi47_0; omega, rfl, s, (List.Sublist.cons _ List.Sublist.slnil), by kernel_rfl, hle46, by have hq0 := of_decide_eq_false hc6; have hq1 := of_decide_eq_false hc20; have hq2 := of_decide_eq_true hc49; have := hi47_0; show i47 + 1 + (m47 - 1) = A.length; omega, h52_0⟩⟩
      ·
        rw [hc49]
        refine cond_false_rule (b := false) (by kernel_rfl) rfl ?_
        refine wp_exit ?_
        refine wp_seq ?_
        refine wp_seq ?_
        refine region_rule ?_
        refine ops_rule (C := []) [] [] 3 [] 0 (fun φ55 => [(76, .bool (decide ((((List.length ((A.take i47).foldl ins (keepF (qP D K) L))) : Nat) : Int) > ((8 : Nat) : Int)))), (75, .int .i64 (((List.length ((A.take i47).foldl ins (keepF (qP D K) L))) : Nat) : Int)), (74, .slice a47 (List.length ((A.take i47).foldl ins (keepF (qP D K) L))) c47)]) (fun φ55 => []) (fun φ55 => []) s trivial (fun φ55 => by kernel_rfl) ?_
        intro φ55 w55 s
        rw [nat_gtr (a := (List.length ((A.take i47).foldl ins (keepF (qP D K) L)))) (b := 8)]
        refine ops_done (by kernel_rfl) ?_
        rcases Bool.eq_false_or_eq_true (decide (8 < (List.length ((A.take i47).foldl ins (keepF (qP D K) L))))) with hc56 | hc56
        ·
          rw [hc56]
          refine cond_true_rule (b := true) (by kernel_rfl) rfl ?_
          refine wp_seq ?_
          refine region_rule ?_
          refine ops_rule (C := []) [] [] 3 [] 0 (fun φ57 => [(9, .int .i64 8), (8, .slice a0 L.length c0), (77, .slice a0 L.length c0)]) (fun φ57 => []) (fun φ57 => []) s trivial (fun φ57 => by kernel_rfl) ?_
          intro φ57 w57 s
          refine ops_done (by kernel_rfl) ?_
          refine wp_ret ?_
          refine ret_rule (C := []) [] [] (.tuple #[.slice a0 L.length c0, .int .i64 8]) [] [] s trivial (by kernel_rfl) ?_
          exact ⟨_, _, _, rfl, s, (dc_2 (by have ei : i4 = A.length := (by have hq0 := of_decide_eq_false hc6; have := hi4_0; omega); have h9 := hi4_1; rw [ei, List.take_length] at h9; exact h9) (by have hq0 := of_decide_eq_false hc6; have hq1 := of_decide_eq_false hc20; have hq2 := of_decide_eq_false hc49; have hq3 := of_decide_eq_true hc56; have := hi47_0; omega) (of_decide_eq_true hc56) h0)⟩
        ·
          rw [hc56]
          refine cond_false_rule (b := false) (by kernel_rfl) rfl ?_
          refine wp_skip ?_
          refine wp_seq ?_
          refine region_rule ?_
          refine ops_rule (C := []) [] [] 3 [] 0 (fun φ58 => [(9, .int .i64 0), (8, .slice a47 (List.length ((A.take i47).foldl ins (keepF (qP D K) L))) c47), (78, .slice a47 (List.length ((A.take i47).foldl ins (keepF (qP D K) L))) c47)]) (fun φ58 => []) (fun φ58 => []) s trivial (fun φ58 => by kernel_rfl) ?_
          intro φ58 w58 s
          refine ops_done (by kernel_rfl) ?_
          refine wp_ret ?_
          refine ret_rule (C := []) [] [] (.tuple #[.slice a47 (List.length ((A.take i47).foldl ins (keepF (qP D K) L))) c47, .int .i64 0]) [] [] s trivial (by kernel_rfl) ?_
          exact ⟨_, _, _, rfl, s, (dc_3 (by have ei : i4 = A.length := (by have hq0 := of_decide_eq_false hc6; have := hi4_0; omega); have h9 := hi4_1; rw [ei, List.take_length] at h9; exact h9) (by have hq0 := of_decide_eq_false hc6; have hq1 := of_decide_eq_false hc20; have hq2 := of_decide_eq_false hc49; have hq3 := of_decide_eq_false hc56; have := hi47_0; omega) (of_decide_eq_false hc56) hi47_1)⟩

end Go.Proofs.YtcpmjogeafhpnaaDoor
/- Any patch makes the document's card. -/
set_option linter.all false
set_option maxRecDepth 100000
namespace Go.Proofs.YtcpmjogeafhpnaaDoor
open Go.RowKit Go.Sep
attribute [local irreducible] Go.wpList Go.Code.wp

theorem patchD_c {I : IM} {L : List Fe} {a0 : Option Addr} {c0 : Nat} (h0 : FSl I L (.slice a0 L.length c0)) (hl : L.length ≤ 900) (hL : asc L) (hN : Tx.NmT I) (hT : Tx.U8 I) {A D : List Fe} {K : List Int} {aA aD aK : Option Addr} {cA cD cK : Nat} (hA : FSl I A (.slice aA A.length cA)) (hD : FSl I D (.slice aD D.length cD)) (hK : ISl I K (.slice aK K.length cK)) (hlA : A.length ≤ 1000) (hlD : D.length ≤ 1000) (hlK : K.length ≤ 1000) (hsA : shortL A) :
    Fun Tryd.prog 30 #[.agg #[.slice a0 L.length c0], .agg #[.slice aA A.length cA, .slice aD D.length cD, .slice aK K.length cK]] I (fun v J => ∃ a c, v = .tuple #[.agg #[.slice a (dcF L A D K).length c], .int .i64 ((dcE L A D K : Nat) : Int)] ∧ FSl J (dcF L A D K) (.slice a (dcF L A D K).length c)) := by
  have q := cardPatch_c h0 hl hN hT hA hD hK hlA hlD hlK hsA
  rw [(pg_dc hL).1, (pg_dc hL).2] at q; exact q
theorem dcF_len {L A D : List Fe} {K : List Int} (h : L.length ≤ 8) : (dcF L A D K).length ≤ 8 := by
  unfold dcF
  split
  · exact h
  · split
    · exact h
    · omega

set_option maxHeartbeats 4000000 in
theorem cardPatches_c {I : IM} {L : List Fe} {a0 : Option Addr} {c0 : Nat} (h0 : FSl I L (.slice a0 L.length c0)) (hl : L.length ≤ 9223372036854775807) {A D : List Fe} {K : List Int} {aa1 aa2 aa3 : Option Addr} {cc1 cc2 cc3 : Nat} (hA9 : FSl I A (.slice aa1 A.length cc1)) (hlA : A.length ≤ 9223372036854775807) (hD9 : FSl I D (.slice aa2 D.length cc2)) (hlD : D.length ≤ 9223372036854775807) (hK9 : ISl I K (.slice aa3 K.length cc3)) (hN : Tx.NmT I) (hT : Tx.U8 I) : Fun Tryd.prog 5 #[.slice a0 L.length c0, .slice aa1 A.length cc1, .slice aa2 D.length cc2, .slice aa3 K.length cc3] I (fun v J => v = .bool true) := by
  refine enter_rule 68 [(0, .slice a0 L.length c0), (1, .slice aa1 A.length cc1), (2, .slice aa2 D.length cc2), (3, .slice aa3 K.length cc3)] Tryd.func5 rfl (by kernel_rfl) ?_
  intro w s
  refine wp_seq ?_
  refine region_rule ?_
  refine ops_rule (C := []) [] [] 1 [] 0 (fun φ1 => [(8, .bool false)]) (fun φ1 => []) (fun φ1 => []) s trivial (fun φ1 => by kernel_rfl) ?_
  intro φ1 w1 s
  refine ops_done (by kernel_rfl) ?_
  refine wp_seq ?_
  refine wp_seq ?_
  refine region_rule ?_
  refine call_rule (some 15) s (awake9_c hN hT) (by kernel_rfl) ?_
  intro v2 I2 w2 le2 h2 s
  replace h0 := FSl.mono le2 h0
  replace hA9 := FSl.mono le2 hA9
  replace hD9 := FSl.mono le2 hD9
  replace hK9 := ISl.mono le2 hK9
  replace hN := Tx.NmT.mono le2 hN
  replace hT := Tx.U8.mono le2 hT
  obtain rfl := h2
  refine ops_rule (C := []) [] [] 1 [] 0 (fun φ3 => [(16, .bool false)]) (fun φ3 => []) (fun φ3 => []) s trivial (fun φ3 => by kernel_rfl) ?_
  intro φ3 w3 s
  refine ops_done (by kernel_rfl) ?_
  refine cond_false_rule (b := false) (by kernel_rfl) rfl ?_
  refine wp_skip ?_
  refine wp_seq ?_
  refine region_rule ?_
  refine ops_rule (C := []) [] [] 1 [] 0 (fun φ4 => [(18, .slice a0 L.length c0)]) (fun φ4 => []) (fun φ4 => []) s trivial (fun φ4 => by kernel_rfl) ?_
  intro φ4 w4 s
  refine call_rule (some 19) s (made_c h0 hl hN hT) (by kernel_rfl) ?_
  intro v5 I5 w5 le5 h5 s
  replace h0 := FSl.mono le5 h0
  replace hA9 := FSl.mono le5 hA9
  replace hD9 := FSl.mono le5 hD9
  replace hK9 := ISl.mono le5 hK9
  replace hN := Tx.NmT.mono le5 hN
  replace hT := Tx.U8.mono le5 hT
  obtain ⟨a5, c5, b5, d5, rfl, h5_0, h5_1⟩ := h5
  refine ops_rule (C := []) [] [] 6 [.o 0] 1 (fun φ6 => [(10, .slice b5 (List.length (madeF L)) d5), (9, .pointer (some ⟨(φ6 0), 0, none⟩)), (21, .slice b5 (List.length (madeF L)) d5), (20, .agg #[.slice a5 (List.length (madeF L)) c5]), (17, .tuple #[.agg #[.slice a5 (List.length (madeF L)) c5], .slice b5 (List.length (madeF L)) d5])]) (fun φ6 => [((φ6 0), .cells #[.slice a5 (List.length (madeF L)) c5] 26)]) (fun φ6 => [(φ6 0)]) s trivial (fun φ6 => by kernel_rfl) ?_
  intro φ6 w6 s
  refine ops_done (by kernel_rfl) ?_
  refine wp_seq ?_
  refine draw_rule (C := []) ⟨(fun φ7 xs7 => [.look 0 [] [], .call 14 #[.slice aa1 A.length cc1], .look 0 [] [], .call 14 #[.slice aa2 D.length cc2], .look 0 [] [], .look 0 [] [], .look 0 [] [], .sub 0 [] [] (.int .i64 (if ((6 : Nat) : Int) < ((K.length : Nat) : Int) then ((6 : Nat) : Int) else ((K.length : Nat) : Int))), .ran (Instr.sliceAt 52 (.slice aa3 K.length cc3) none (some (.int .i64 ((min K.length 6 : Nat) : Int))) none), .call 29 #[.slice aa3 (List.length (List.take 6 K)) cc3], .look 0 [] [], .look 0 [] [], .look 0 [] []]), (fun φ7 xs7 => [.slice aa1 A.length cc1, .slice ((xs7 1).p 0) (List.length (fewF A)) ((xs7 1).n 0), .slice aa2 D.length cc2, .slice ((xs7 3).p 0) (List.length (fewF D)) ((xs7 3).n 0), .slice aa3 K.length cc3, .slice aa3 K.length cc3, .int .i64 ((K.length : Nat) : Int), .int .i64 ((min K.length 6 : Nat) : Int), .slice aa3 (List.length (List.take 6 K)) cc3, .slice ((xs7 9).p 0) (List.length (List.take 6 K)) ((xs7 9).n 0), .slice ((xs7 1).p 0) (List.length (fewF A)) ((xs7 1).n 0), .slice ((xs7 3).p 0) (List.length (fewF D)) ((xs7 3).n 0), .slice ((xs7 9).p 0) (List.length (List.take 6 K)) ((xs7 9).n 0)]), (fun φ7 xs7 => [[((φ6 0), .cells #[.slice a5 (List.length (madeF L)) c5] 26)]]), (fun φ7 xs7 => [[default, default, default, default, default, default, default, default, default, default, default, default, default]]), [], [1, 3, 1, 3, 1, 1, 1, 5, 6, 3, 1, 1, 1]⟩ (fun j => ([MP.any, ⟨fun x J => FSl J (fewF A) (.slice (x.p 0) (List.length (fewF A)) (x.n 0)), fun le h => FSl.mono le h⟩, MP.any, ⟨fun x J => FSl J (fewF D) (.slice (x.p 0) (List.length (fewF D)) (x.n 0)), fun le h => FSl.mono le h⟩, MP.any, MP.any, MP.any, MP.any, MP.any, ⟨fun x J => ISl J (List.take 6 K) (.slice (x.p 0) (List.length (List.take 6 K)) (x.n 0)), fun le h => ISl.mono le h⟩, MP.any, MP.any, MP.any] : List MP).getD j MP.any) [1, 3, 9] [7] [8] (fun φ7 xs7 => []) (fun φ7 xs7 => [(22, .slice aa1 A.length cc1), (23, .slice ((xs7 1).p 0) (List.length (fewF A)) ((xs7 1).n 0)), (24, .slice aa2 D.length cc2), (25, .slice ((xs7 3).p 0) (List.length (fewF D)) ((xs7 3).n 0)), (26, .slice aa3 K.length cc3), (27, .slice aa3 K.length cc3), (28, .int .i64 ((K.length : Nat) : Int)), (29, .int .i64 ((min K.length 6 : Nat) : Int)), (30, .slice aa3 (List.length (List.take 6 K)) cc3), (31, .slice ((xs7 9).p 0) (List.length (List.take 6 K)) ((xs7 9).n 0)), (1, .slice ((xs7 1).p 0) (List.length (fewF A)) ((xs7 1).n 0)), (2, .slice ((xs7 3).p 0) (List.length (fewF D)) ((xs7 3).n 0)), (3, .slice ((xs7 9).p 0) (List.length (List.take 6 K)) ((xs7 9).n 0))]) (fun φ7 xs7 => [((φ6 0), .cells #[.slice a5 (List.length (madeF L)) c5] 26)]) s trivial (by kernel_rfl) (by kernel_rfl) (fun _ _ => by kernel_rfl) (fun _ _ => by kernel_rfl) ⟨fun _ _ => by kernel_rfl, fun _ _ => by kernel_rfl, fun _ _ => by kernel_rfl, fun _ _ => by kernel_rfl⟩ (fun _ _ _ => by kernel_rfl) (fun _ _ => by kernel_rfl) (fun _ _ => by kernel_rfl) (fun _ _ => by kernel_rfl) (fun _ _ => by kernel_rfl) (fun _ _ => by kernel_rfl) ⟨kcast (A := ∀ (φ7 : Nat → Nat) (xs7 : Xs), (.int .i64 (if ((6 : Nat) : Int) < ((K.length : Nat) : Int) then ((6 : Nat) : Int) else ((K.length : Nat) : Int)) : Value) = .int .i64 ((min K.length 6 : Nat) : Int)) (by kernel_rfl) (fun φ7 xs7 => congrArg (Value.int .i64) ((nat_min (a := K.length) (b := 6)))), trivial⟩ ⟨kcast (A := ∀ (φ7 : Nat → Nat) (xs7 : Xs) (J : IM) (w : World), I5.Le J → J.Sub w → ((Instr.sliceAt 52 (.slice aa3 K.length cc3) none (some (.int .i64 ((min K.length 6 : Nat) : Int))) none) : Sem Value).run Tryd.prog w = .ok (.slice aa3 (List.length (List.take 6 K)) cc3) w) (by kernel_rfl) (fun φ7 xs7 J w hJ hS => run_to52 (m := 6) (ISl.mono hJ hK9) (by omega)), trivial⟩ (by kernel_rfl) ⟨?c7_1, ?c7_3, ?c7_9, trivial⟩ ?k7
  case c7_1 =>
    refine kcast (A := ∀ (φ7 : Nat → Nat) (xs7 : Xs) (J1_7 : IM), I5.Le J1_7 → Fun Tryd.prog 14 #[.slice aa1 A.length cc1] J1_7 (fun v J' => ∃ x : UX, v = .slice (x.p 0) (List.length (fewF A)) (x.n 0) ∧ (FSl J' (fewF A) (.slice (x.p 0) (List.length (fewF A)) (x.n 0))))) (by kernel_rfl) ?_
    intro φ7 xs7 J1_7 leJ
    have hA9 := FSl.mono leJ hA9
    exact Fun.mono (few_c hA9 hlA) (fun v J' _ ⟨y0, y1, hv, g0⟩ => ⟨{ UX.d with p := fun j => y0, n := fun j => y1 }, hv, g0⟩)
  case c7_3 =>
    refine kcast (A := ∀ (φ7 : Nat → Nat) (xs7 : Xs) (J3_7 : IM), I5.Le J3_7 → (FSl J3_7 (fewF A) (.slice ((xs7 1).p 0) (List.length (fewF A)) ((xs7 1).n 0))) → Fun Tryd.prog 14 #[.slice aa2 D.length cc2] J3_7 (fun v J' => ∃ x : UX, v = .slice (x.p 0) (List.length (fewF D)) (x.n 0) ∧ (FSl J' (fewF D) (.slice (x.p 0) (List.length (fewF D)) (x.n 0))))) (by kernel_rfl) ?_
    intro φ7 xs7 J3_7 leJ
    rintro h7_1_0
    have hD9 := FSl.mono leJ hD9
    exact Fun.mono (few_c hD9 hlD) (fun v J' _ ⟨y0, y1, hv, g0⟩ => ⟨{ UX.d with p := fun j => y0, n := fun j => y1 }, hv, g0⟩)
  case c7_9 =>
    refine kcast (A := ∀ (φ7 : Nat → Nat) (xs7 : Xs) (J9_7 : IM), I5.Le J9_7 → (FSl J9_7 (fewF A) (.slice ((xs7 1).p 0) (List.length (fewF A)) ((xs7 1).n 0))) → (FSl J9_7 (fewF D) (.slice ((xs7 3).p 0) (List.length (fewF D)) ((xs7 3).n 0))) → Fun Tryd.prog 29 #[.slice aa3 (List.length (List.take 6 K)) cc3] J9_7 (fun v J' => ∃ x : UX, v = .slice (x.p 0) (List.length (List.take 6 K)) (x.n 0) ∧ (ISl J' (List.take 6 K) (.slice (x.p 0) (List.length (List.take 6 K)) (x.n 0))))) (by kernel_rfl) ?_
    intro φ7 xs7 J9_7 leJ
    rintro h7_1_0 h7_3_0
    have hK9 := ISl.mono leJ hK9
    exact Fun.mono (cloneI_c (K := (List.take 6 K)) (isl_take (m := 6) hK9) (by rw [List.length_take]; omega)) (fun v J' _ ⟨y0, y1, hv, g0⟩ => ⟨{ UX.d with p := fun j => y0, n := fun j => y1 }, hv, g0⟩)
  case k7 =>
    rintro φ7 xs7 I7 w7 le7 s h7_1_0 h7_3_0 h7_9_0
    replace h0 := FSl.mono le7 h0
    replace hA9 := FSl.mono le7 hA9
    replace hD9 := FSl.mono le7 hD9
    replace hK9 := ISl.mono le7 hK9
    replace hN := Tx.NmT.mono le7 hN
    replace hT := Tx.U8.mono le7 hT
    replace h5_0 := FSl.mono le7 h5_0
    replace h5_1 := FSl.mono le7 h5_1
    refine wp_seq ?_
    refine region_rule ?_
    refine ops_rule (C := []) [((φ6 0), .cells #[.slice a5 (List.length (madeF L)) c5] 26)] [] 5 [.o 0] 0 (fun φ8 => [(37, .agg #[.slice ((xs7 1).p 0) (List.length (fewF A)) ((xs7 1).n 0), .slice ((xs7 3).p 0) (List.length (fewF D)) ((xs7 3).n 0), .slice ((xs7 9).p 0) (List.length (List.take 6 K)) ((xs7 9).n 0)]), (36, .slice ((xs7 9).p 0) (List.length (List.take 6 K)) ((xs7 9).n 0)), (35, .slice ((xs7 3).p 0) (List.length (fewF D)) ((xs7 3).n 0)), (34, .slice ((xs7 1).p 0) (List.length (fewF A)) ((xs7 1).n 0)), (33, .agg #[.slice a5 (List.length (madeF L)) c5])]) (fun φ8 => [((φ6 0), .cells #[.slice a5 (List.length (madeF L)) c5] 26)]) (fun φ8 => [(φ6 0)]) s trivial (fun φ8 => by kernel_rfl) ?_
    intro φ8 w8 s
    refine call_rule (some 38) s (patchD_c h5_0 (Nat.le_trans made_len (by decide)) (made_asc L) hN hT h7_1_0 h7_3_0 h7_9_0 (Nat.le_trans (few_len (L := A)) (by decide)) (Nat.le_trans (few_len (L := D)) (by decide)) (by rw [List.length_take]; omega) few_shortL) (by kernel_rfl) ?_
    intro v9 I9 w9 le9 h9 s
    replace h0 := FSl.mono le9 h0
    replace hA9 := FSl.mono le9 hA9
    replace hD9 := FSl.mono le9 hD9
    replace hK9 := ISl.mono le9 hK9
    replace hN := Tx.NmT.mono le9 hN
    replace hT := Tx.U8.mono le9 hT
    replace h5_0 := FSl.mono le9 h5_0
    replace h5_1 := FSl.mono le9 h5_1
    replace h7_1_0 := FSl.mono le9 h7_1_0
    replace h7_3_0 := FSl.mono le9 h7_3_0
    replace h7_9_0 := ISl.mono le9 h7_9_0
    obtain ⟨a9, c9, rfl, h9_0⟩ := h9
    refine ops_rule (C := []) [((φ6 0), .cells #[.slice a5 (List.length (madeF L)) c5] 26)] [] 6 [.o 1] 1 (fun φ10 => [(12, .int .i64 ((dcE (madeF L) (fewF A) (fewF D) (List.take 6 K) : Nat) : Int)), (11, .pointer (some ⟨(φ10 0), 0, none⟩)), (40, .int .i64 ((dcE (madeF L) (fewF A) (fewF D) (List.take 6 K) : Nat) : Int)), (39, .agg #[.slice a9 (List.length (dcF (madeF L) (fewF A) (fewF D) (List.take 6 K))) c9]), (32, .tuple #[.agg #[.slice a9 (List.length (dcF (madeF L) (fewF A) (fewF D) (List.take 6 K))) c9], .int .i64 ((dcE (madeF L) (fewF A) (fewF D) (List.take 6 K) : Nat) : Int)])]) (fun φ10 => [((φ6 0), .cells #[.slice a5 (List.length (madeF L)) c5] 26), ((φ10 0), .cells #[.slice a9 (List.length (dcF (madeF L) (fewF A) (fewF D) (List.take 6 K))) c9] 26)]) (fun φ10 => [(φ10 0)]) s trivial (fun φ10 => by kernel_rfl) ?_
    intro φ10 w10 s
    refine ops_done (by kernel_rfl) ?_
    refine wp_seq ?_
    refine region_rule ?_
    refine ops_rule (C := []) [((φ6 0), .cells #[.slice a5 (List.length (madeF L)) c5] 26), ((φ10 0), .cells #[.slice a9 (List.length (dcF (madeF L) (fewF A) (fewF D) (List.take 6 K))) c9] 26)] [] 2 [] 0 (fun φ11 => [(43, .slice ((xs7 1).p 0) (List.length (fewF A)) ((xs7 1).n 0)), (42, .slice b5 (List.length (madeF L)) d5)]) (fun φ11 => [((φ6 0), .cells #[.slice a5 (List.length (madeF L)) c5] 26), ((φ10 0), .cells #[.slice a9 (List.length (dcF (madeF L) (fewF A) (fewF D) (List.take 6 K))) c9] 26)]) (fun φ11 => []) s trivial (fun φ11 => by kernel_rfl) ?_
    intro φ11 w11 s
    refine call_rule (some 44) s (own9_c h7_1_0 (Nat.le_trans (few_len (L := A)) (by decide))) (by kernel_rfl) ?_
    intro v12 I12 w12 le12 h12 s
    replace h0 := FSl.mono le12 h0
    replace hA9 := FSl.mono le12 hA9
    replace hD9 := FSl.mono le12 hD9
    replace hK9 := ISl.mono le12 hK9
    replace hN := Tx.NmT.mono le12 hN
    replace hT := Tx.U8.mono le12 hT
    replace h5_0 := FSl.mono le12 h5_0
    replace h5_1 := FSl.mono le12 h5_1
    replace h7_1_0 := FSl.mono le12 h7_1_0
    replace h7_3_0 := FSl.mono le12 h7_3_0
    replace h7_9_0 := ISl.mono le12 h7_9_0
    replace h9_0 := FSl.mono le12 h9_0
    obtain ⟨a12, c12, rfl, h12_0⟩ := h12
    refine ops_rule (C := []) [((φ6 0), .cells #[.slice a5 (List.length (madeF L)) c5] 26), ((φ10 0), .cells #[.slice a9 (List.length (dcF (madeF L) (fewF A) (fewF D) (List.take 6 K))) c9] 26)] [] 1 [] 0 (fun φ13 => [(45, .slice ((xs7 3).p 0) (List.length (fewF D)) ((xs7 3).n 0))]) (fun φ13 => [((φ6 0), .cells #[.slice a5 (List.length (madeF L)) c5] 26), ((φ10 0), .cells #[.slice a9 (List.length (dcF (madeF L) (fewF A) (fewF D) (List.take 6 K))) c9] 26)]) (fun φ13 => []) s trivial (fun φ13 => by kernel_rfl) ?_
    intro φ13 w13 s
    refine call_rule (some 46) s (own9_c h7_3_0 (Nat.le_trans (few_len (L := D)) (by decide))) (by kernel_rfl) ?_
    intro v14 I14 w14 le14 h14 s
    replace h0 := FSl.mono le14 h0
    replace hA9 := FSl.mono le14 hA9
    replace hD9 := FSl.mono le14 hD9
    replace hK9 := ISl.mono le14 hK9
    replace hN := Tx.NmT.mono le14 hN
    replace hT := Tx.U8.mono le14 hT
    replace h5_0 := FSl.mono le14 h5_0
    replace h5_1 := FSl.mono le14 h5_1
    replace h7_1_0 := FSl.mono le14 h7_1_0
    replace h7_3_0 := FSl.mono le14 h7_3_0
    replace h7_9_0 := ISl.mono le14 h7_9_0
    replace h9_0 := FSl.mono le14 h9_0
    replace h12_0 := FSl.mono le14 h12_0
    obtain ⟨a14, c14, rfl, h14_0⟩ := h14
    refine ops_rule (C := []) [((φ6 0), .cells #[.slice a5 (List.length (madeF L)) c5] 26), ((φ10 0), .cells #[.slice a9 (List.length (dcF (madeF L) (fewF A) (fewF D) (List.take 6 K))) c9] 26)] [] 1 [] 0 (fun φ15 => [(47, .slice ((xs7 9).p 0) (List.length (List.take 6 K)) ((xs7 9).n 0))]) (fun φ15 => [((φ6 0), .cells #[.slice a5 (List.length (madeF L)) c5] 26), ((φ10 0), .cells #[.slice a9 (List.length (dcF (madeF L) (fewF A) (fewF D) (List.take 6 K))) c9] 26)]) (fun φ15 => []) s trivial (fun φ15 => by kernel_rfl) ?_
    intro φ15 w15 s
    refine call_rule (some 48) s (refPatch_c h5_1 (Nat.le_trans made_len (by decide)) made_short h12_0 h14_0 h7_9_0 (Nat.le_trans (few_len (L := A)) (by decide)) (Nat.le_trans (few_len (L := D)) (by decide)) (by rw [List.length_take]; omega) few_shortL) (by kernel_rfl) ?_
    intro v16 I16 w16 le16 h16 s
    replace h0 := FSl.mono le16 h0
    replace hA9 := FSl.mono le16 hA9
    replace hD9 := FSl.mono le16 hD9
    replace hK9 := ISl.mono le16 hK9
    replace hN := Tx.NmT.mono le16 hN
    replace hT := Tx.U8.mono le16 hT
    replace h5_0 := FSl.mono le16 h5_0
    replace h5_1 := FSl.mono le16 h5_1
    replace h7_1_0 := FSl.mono le16 h7_1_0
    replace h7_3_0 := FSl.mono le16 h7_3_0
    replace h7_9_0 := ISl.mono le16 h7_9_0
    replace h9_0 := FSl.mono le16 h9_0
    replace h12_0 := FSl.mono le16 h12_0
    replace h14_0 := FSl.mono le16 h14_0
    obtain ⟨a16, c16, rfl, h16_0⟩ := h16
    refine ops_rule (C := []) [((φ6 0), .cells #[.slice a5 (List.length (madeF L)) c5] 26), ((φ10 0), .cells #[.slice a9 (List.length (dcF (madeF L) (fewF A) (fewF D) (List.take 6 K))) c9] 26)] [] 5 [] 0 (fun φ17 => [(14, .int .i64 ((dcE (madeF L) (fewF A) (fewF D) (List.take 6 K) : Nat) : Int)), (13, .slice a16 (List.length (dcF (madeF L) (fewF A) (fewF D) (List.take 6 K))) c16), (50, .int .i64 ((dcE (madeF L) (fewF A) (fewF D) (List.take 6 K) : Nat) : Int)), (49, .slice a16 (List.length (dcF (madeF L) (fewF A) (fewF D) (List.take 6 K))) c16), (41, .tuple #[.slice a16 (List.length (dcF (madeF L) (fewF A) (fewF D) (List.take 6 K))) c16, .int .i64 ((dcE (madeF L) (fewF A) (fewF D) (List.take 6 K) : Nat) : Int)])]) (fun φ17 => [((φ6 0), .cells #[.slice a5 (List.length (madeF L)) c5] 26), ((φ10 0), .cells #[.slice a9 (List.length (dcF (madeF L) (fewF A) (fewF D) (List.take 6 K))) c9] 26)]) (fun φ17 => []) s trivial (fun φ17 => by kernel_rfl) ?_
    intro φ17 w17 s
    refine ops_done (by kernel_rfl) ?_
    refine wp_seq ?_
    refine region_rule ?_
    refine ops_rule (C := []) [((φ6 0), .cells #[.slice a5 (List.length (madeF L)) c5] 26), ((φ10 0), .cells #[.slice a9 (List.length (dcF (madeF L) (fewF A) (fewF D) (List.take 6 K))) c9] 26)] [] 2 [] 0 (fun φ18 => [(52, .int .i64 ((dcE (madeF L) (fewF A) (fewF D) (List.take 6 K) : Nat) : Int)), (51, .int .i64 ((dcE (madeF L) (fewF A) (fewF D) (List.take 6 K) : Nat) : Int))]) (fun φ18 => [((φ6 0), .cells #[.slice a5 (List.length (madeF L)) c5] 26), ((φ10 0), .cells #[.slice a9 (List.length (dcF (madeF L) (fewF A) (fewF D) (List.take 6 K))) c9] 26)]) (fun φ18 => []) s trivial (fun φ18 => by kernel_rfl) ?_
    intro φ18 w18 s
    refine sem_rule (binOp .eql 3 (.int .i64 ((dcE (madeF L) (fewF A) (fewF D) (List.take 6 K) : Nat) : Int)) (.int .i64 ((dcE (madeF L) (fewF A) (fewF D) (List.take 6 K) : Nat) : Int))) (some 53) (.bool true) (by kernel_rfl) (run_eqI3) ?_
    refine ops_rule (C := []) [((φ6 0), .cells #[.slice a5 (List.length (madeF L)) c5] 26), ((φ10 0), .cells #[.slice a9 (List.length (dcF (madeF L) (fewF A) (fewF D) (List.take 6 K))) c9] 26)] [] 2 [.o 1] 0 (fun φ19 => [(55, .agg #[.slice a9 (List.length (dcF (madeF L) (fewF A) (fewF D) (List.take 6 K))) c9]), (54, .bool true)]) (fun φ19 => [((φ6 0), .cells #[.slice a5 (List.length (madeF L)) c5] 26), ((φ10 0), .cells #[.slice a9 (List.length (dcF (madeF L) (fewF A) (fewF D) (List.take 6 K))) c9] 26)]) (fun φ19 => [(φ10 0)]) s trivial (fun φ19 => by kernel_rfl) ?_
    intro φ19 w19 s
    refine call_rule (some 56) s (fieldsL_c h9_0 (Nat.le_trans (dcF_len made_len) (by decide))) (by kernel_rfl) ?_
    intro v20 I20 w20 le20 h20 s
    replace h0 := FSl.mono le20 h0
    replace hA9 := FSl.mono le20 hA9
    replace hD9 := FSl.mono le20 hD9
    replace hK9 := ISl.mono le20 hK9
    replace hN := Tx.NmT.mono le20 hN
    replace hT := Tx.U8.mono le20 hT
    replace h5_0 := FSl.mono le20 h5_0
    replace h5_1 := FSl.mono le20 h5_1
    replace h7_1_0 := FSl.mono le20 h7_1_0
    replace h7_3_0 := FSl.mono le20 h7_3_0
    replace h7_9_0 := ISl.mono le20 h7_9_0
    replace h9_0 := FSl.mono le20 h9_0
    replace h12_0 := FSl.mono le20 h12_0
    replace h14_0 := FSl.mono le20 h14_0
    replace h16_0 := FSl.mono le20 h16_0
    obtain ⟨a20, c20, rfl, h20_0⟩ := h20
    refine call_rule (some 57) s (own9_c h20_0 (Nat.le_trans (dcF_len made_len) (by decide))) (by kernel_rfl) ?_
    intro v21 I21 w21 le21 h21 s
    replace h0 := FSl.mono le21 h0
    replace hA9 := FSl.mono le21 hA9
    replace hD9 := FSl.mono le21 hD9
    replace hK9 := ISl.mono le21 hK9
    replace hN := Tx.NmT.mono le21 hN
    replace hT := Tx.U8.mono le21 hT
    replace h5_0 := FSl.mono le21 h5_0
    replace h5_1 := FSl.mono le21 h5_1
    replace h7_1_0 := FSl.mono le21 h7_1_0
    replace h7_3_0 := FSl.mono le21 h7_3_0
    replace h7_9_0 := ISl.mono le21 h7_9_0
    replace h9_0 := FSl.mono le21 h9_0
    replace h12_0 := FSl.mono le21 h12_0
    replace h14_0 := FSl.mono le21 h14_0
    replace h16_0 := FSl.mono le21 h16_0
    replace h20_0 := FSl.mono le21 h20_0
    obtain ⟨a21, c21, rfl, h21_0⟩ := h21
    refine ops_rule (C := []) [((φ6 0), .cells #[.slice a5 (List.length (madeF L)) c5] 26), ((φ10 0), .cells #[.slice a9 (List.length (dcF (madeF L) (fewF A) (fewF D) (List.take 6 K))) c9] 26)] [] 1 [] 0 (fun φ22 => [(58, .slice a16 (List.length (dcF (madeF L) (fewF A) (fewF D) (List.take 6 K))) c16)]) (fun φ22 => [((φ6 0), .cells #[.slice a5 (List.length (madeF L)) c5] 26), ((φ10 0), .cells #[.slice a9 (List.length (dcF (madeF L) (fewF A) (fewF D) (List.take 6 K))) c9] 26)]) (fun φ22 => []) s trivial (fun φ22 => by kernel_rfl) ?_
    intro φ22 w22 s
    refine call_rule (some 59) s (sameF_c h21_0 h16_0 (Nat.le_trans (dcF_len made_len) (by decide))) (by kernel_rfl) ?_
    intro v23 I23 w23 le23 h23 s
    replace h0 := FSl.mono le23 h0
    replace hA9 := FSl.mono le23 hA9
    replace hD9 := FSl.mono le23 hD9
    replace hK9 := ISl.mono le23 hK9
    replace hN := Tx.NmT.mono le23 hN
    replace hT := Tx.U8.mono le23 hT
    replace h5_0 := FSl.mono le23 h5_0
    replace h5_1 := FSl.mono le23 h5_1
    replace h7_1_0 := FSl.mono le23 h7_1_0
    replace h7_3_0 := FSl.mono le23 h7_3_0
    replace h7_9_0 := ISl.mono le23 h7_9_0
    replace h9_0 := FSl.mono le23 h9_0
    replace h12_0 := FSl.mono le23 h12_0
    replace h14_0 := FSl.mono le23 h14_0
    replace h16_0 := FSl.mono le23 h16_0
    replace h20_0 := FSl.mono le23 h20_0
    replace h21_0 := FSl.mono le23 h21_0
    obtain rfl := h23
    refine ops_rule (C := []) [((φ6 0), .cells #[.slice a5 (List.length (madeF L)) c5] 26), ((φ10 0), .cells #[.slice a9 (List.length (dcF (madeF L) (fewF A) (fewF D) (List.take 6 K))) c9] 26)] [] 3 [.o 0] 0 (fun φ24 => [(62, .agg #[.slice a5 (List.length (madeF L)) c5]), (61, .bool true), (60, .bool true)]) (fun φ24 => [((φ6 0), .cells #[.slice a5 (List.length (madeF L)) c5] 26), ((φ10 0), .cells #[.slice a9 (List.length (dcF (madeF L) (fewF A) (fewF D) (List.take 6 K))) c9] 26)]) (fun φ24 => [(φ6 0)]) s trivial (fun φ24 => by kernel_rfl) ?_
    intro φ24 w24 s
    refine call_rule (some 63) s (fieldsL_c h5_0 (Nat.le_trans made_len (by decide))) (by kernel_rfl) ?_
    intro v25 I25 w25 le25 h25 s
    replace h0 := FSl.mono le25 h0
    replace hA9 := FSl.mono le25 hA9
    replace hD9 := FSl.mono le25 hD9
    replace hK9 := ISl.mono le25 hK9
    replace hN := Tx.NmT.mono le25 hN
    replace hT := Tx.U8.mono le25 hT
    replace h5_0 := FSl.mono le25 h5_0
    replace h5_1 := FSl.mono le25 h5_1
    replace h7_1_0 := FSl.mono le25 h7_1_0
    replace h7_3_0 := FSl.mono le25 h7_3_0
    replace h7_9_0 := ISl.mono le25 h7_9_0
    replace h9_0 := FSl.mono le25 h9_0
    replace h12_0 := FSl.mono le25 h12_0
    replace h14_0 := FSl.mono le25 h14_0
    replace h16_0 := FSl.mono le25 h16_0
    replace h20_0 := FSl.mono le25 h20_0
    replace h21_0 := FSl.mono le25 h21_0
    obtain ⟨a25, c25, rfl, h25_0⟩ := h25
    refine call_rule (some 64) s (own9_c h25_0 (Nat.le_trans made_len (by decide))) (by kernel_rfl) ?_
    intro v26 I26 w26 le26 h26 s
    replace h0 := FSl.mono le26 h0
    replace hA9 := FSl.mono le26 hA9
    replace hD9 := FSl.mono le26 hD9
    replace hK9 := ISl.mono le26 hK9
    replace hN := Tx.NmT.mono le26 hN
    replace hT := Tx.U8.mono le26 hT
    replace h5_0 := FSl.mono le26 h5_0
    replace h5_1 := FSl.mono le26 h5_1
    replace h7_1_0 := FSl.mono le26 h7_1_0
    replace h7_3_0 := FSl.mono le26 h7_3_0
    replace h7_9_0 := ISl.mono le26 h7_9_0
    replace h9_0 := FSl.mono le26 h9_0
    replace h12_0 := FSl.mono le26 h12_0
    replace h14_0 := FSl.mono le26 h14_0
    replace h16_0 := FSl.mono le26 h16_0
    replace h20_0 := FSl.mono le26 h20_0
    replace h21_0 := FSl.mono le26 h21_0
    replace h25_0 := FSl.mono le26 h25_0
    obtain ⟨a26, c26, rfl, h26_0⟩ := h26
    refine ops_rule (C := []) [((φ6 0), .cells #[.slice a5 (List.length (madeF L)) c5] 26), ((φ10 0), .cells #[.slice a9 (List.length (dcF (madeF L) (fewF A) (fewF D) (List.take 6 K))) c9] 26)] [] 1 [] 0 (fun φ27 => [(65, .slice b5 (List.length (madeF L)) d5)]) (fun φ27 => [((φ6 0), .cells #[.slice a5 (List.length (madeF L)) c5] 26), ((φ10 0), .cells #[.slice a9 (List.length (dcF (madeF L) (fewF A) (fewF D) (List.take 6 K))) c9] 26)]) (fun φ27 => []) s trivial (fun φ27 => by kernel_rfl) ?_
    intro φ27 w27 s
    refine call_rule (some 66) s (sameF_c h26_0 h5_1 (Nat.le_trans made_len (by decide))) (by kernel_rfl) ?_
    intro v28 I28 w28 le28 h28 s
    replace h0 := FSl.mono le28 h0
    replace hA9 := FSl.mono le28 hA9
    replace hD9 := FSl.mono le28 hD9
    replace hK9 := ISl.mono le28 hK9
    replace hN := Tx.NmT.mono le28 hN
    replace hT := Tx.U8.mono le28 hT
    replace h5_0 := FSl.mono le28 h5_0
    replace h5_1 := FSl.mono le28 h5_1
    replace h7_1_0 := FSl.mono le28 h7_1_0
    replace h7_3_0 := FSl.mono le28 h7_3_0
    replace h7_9_0 := ISl.mono le28 h7_9_0
    replace h9_0 := FSl.mono le28 h9_0
    replace h12_0 := FSl.mono le28 h12_0
    replace h14_0 := FSl.mono le28 h14_0
    replace h16_0 := FSl.mono le28 h16_0
    replace h20_0 := FSl.mono le28 h20_0
    replace h21_0 := FSl.mono le28 h21_0
    replace h25_0 := FSl.mono le28 h25_0
    replace h26_0 := FSl.mono le28 h26_0
    obtain rfl := h28
    refine ops_rule (C := []) [((φ6 0), .cells #[.slice a5 (List.length (madeF L)) c5] 26), ((φ10 0), .cells #[.slice a9 (List.length (dcF (madeF L) (fewF A) (fewF D) (List.take 6 K))) c9] 26)] [] 2 [] 0 (fun φ29 => [(8, .bool true), (67, .bool true)]) (fun φ29 => [((φ6 0), .cells #[.slice a5 (List.length (madeF L)) c5] 26), ((φ10 0), .cells #[.slice a9 (List.length (dcF (madeF L) (fewF A) (fewF D) (List.take 6 K))) c9] 26)]) (fun φ29 => []) s trivial (fun φ29 => by kernel_rfl) ?_
    intro φ29 w29 s
    refine ops_done (by kernel_rfl) ?_
    refine wp_ret ?_
    refine ret_rule (C := []) [((φ6 0), .cells #[.slice a5 (List.length (madeF L)) c5] 26), ((φ10 0), .cells #[.slice a9 (List.length (dcF (madeF L) (fewF A) (fewF D) (List.take 6 K))) c9] 26)] [] (.bool true) [] [] s trivial (by kernel_rfl) ?_
    exact ⟨_, _, _, rfl, s, rfl⟩

end Go.Proofs.YtcpmjogeafhpnaaDoor
/- What the laid variables give. -/
set_option linter.all false
set_option maxRecDepth 100000
namespace Go.Proofs.YtcpmjogeafhpnaaDoor
open Go.RowKit Go.Sep Go.Lib
theorem ownKnob_none : ownKnob Tryd.prog.godebug = none := by kernel_rfl
abbrev laidT : List (String × DataW Unit) := Rows.cardMakesRow.laid
theorem tabs_of_laid {W : World} (h : laidMetH Tryd.prog laidT W) : Lib.Utf8Tabs 1 2 W := by
  rw [MakeChecks.laidMetH_plain _ _ _ (by kernel_rfl)] at h
  have h4 := Lib.laidMet.reads h (.head _)
  have h3 := Lib.laidMet.reads h (.tail _ (.tail _ (.head _)))
  exact utf8Tabs_of_readsT (ρ := Tryd.lays196_ren) (U8Types.of196 Tryd.lays196) ⟨by kernel_rfl, by kernel_rfl, by kernel_rfl, by kernel_rfl, by kernel_rfl, by kernel_rfl, by kernel_rfl⟩ (kcast (by kernel_rfl) h3) (kcast (by kernel_rfl) h4)
theorem block_of {W : World} {b o : Nat} {v : Value} (h : W.cell? ⟨b, o, none⟩ = some v) : ∃ cs T fr, W.heap[b]? = some (.cells cs T fr) ∧ cs[o]? = some v := by
  unfold World.cell? at h
  cases hb : W.heap[b]? with
  | none => simp [hb] at h
  | some ob =>
    cases ob <;> simp [hb] at h
    exact ⟨_, _, _, rfl, h⟩
theorem nm_of_laid {W : World} (h : laidMetH Tryd.prog laidT W) : Tx.NmT (fun k => W.heap[k]?) := by
  rw [MakeChecks.laidMetH_plain _ _ _ (by kernel_rfl)] at h
  obtain ⟨g, t, cs, fuel, p, hg, hty, hvar, hd⟩ := Lib.laidMet.reads h (.tail _ (.head _))
  obtain rfl := Option.some.inj ((show Tryd.prog.globalNamed "kinfolk/card.names" = some 0 by kernel_rfl).symm.trans hg)
  obtain rfl := Option.some.inj ((show (Tryd.prog.globals[0]?).map (·.type) = some 98 by kernel_rfl).symm.trans hty)
  have one : ∀ i, i < 7 → W.cell? ⟨0, i, none⟩ = some (.string ⟨(Tx.nmL.getD i []).toArray⟩) := fun i hi => by
    obtain ⟨fuel', d, q, hdi, he⟩ := array_elem (show Tryd.prog.underlying 98 = some (.array 7 9) by kernel_rfl) hd i hi
    have hdl : d = DataW.lit (.string (Tx.nmL.getD i [])) := by
      have : i = 0 ∨ i = 1 ∨ i = 2 ∨ i = 3 ∨ i = 4 ∨ i = 5 ∨ i = 6 := by omega
      rcases this with rfl | rfl | rfl | rfl | rfl | rfl | rfl <;> exact (Option.some.inj hdi).symm
    subst hdl
    obtain ⟨s, hc, hx, -⟩ := DataW.trod_string Tryd.underlying9 he
    have hs : s = ⟨(Tx.nmL.getD i []).toArray⟩ := by
      have h1 := congrArg Prod.fst hx
      simp only [DataW.lit.injEq, Lit.string.injEq] at h1
      obtain ⟨⟨l⟩⟩ := s
      simp only at h1
      exact congrArg ByteArray.mk (congrArg Array.mk h1.symm)
    rw [show Tryd.prog.cellsOf 9 = 1 by kernel_rfl] at hc
    have e0 := congrArg (·[0]?) hc
    simp only [List.getElem?_take, List.getElem?_drop] at e0
    have h2 := World.var?_cell hg hvar i
    rw [← Array.getElem?_toList] at h2
    rw [← hs]
    exact h2.trans (by simpa using e0)
  obtain ⟨cs', T, fr, e1, -⟩ := block_of (one 0 (by decide))
  refine ⟨cs', T, fr, e1, fun i hi => ?_⟩
  obtain ⟨cs2, T2, fr2, f1, f2⟩ := block_of (one i hi)
  rw [e1] at f1
  cases f1
  exact f2
theorem cell_up {W w : World} (hw : IM.Sub (fun k => W.heap[k]?) w) {a : Addr} {v : Value} (h : W.cell? a = some v) : w.cell? a = some v := by
  unfold World.cell? at h ⊢
  cases e : W.heap[a.block]? with
  | none => rw [e] at h; cases h
  | some o => rw [hw _ _ e]; rw [e] at h; exact h
theorem u8_of_laid {W : World} (h : laidMetH Tryd.prog laidT W) : Tx.U8 (fun k => W.heap[k]?) := fun w hw =>
  have t := tabs_of_laid h
  ⟨fun c hc => cell_up hw (t.1 c hc), fun i hi => ⟨cell_up hw (t.2 i hi).1, cell_up hw (t.2 i hi).2⟩⟩
theorem met_wit (os : Os) (args : Array Value) : laidMetH Tryd.prog laidT ((World.laidAll Tryd.prog os laidT).forCall (fun _ _ => 0) ⟨#[], args, []⟩).memory := by
  rw [MakeChecks.laidMetH_plain _ _ _ (by kernel_rfl)]; exact laidMet_laidAll _ (by kernel_rfl) (by kernel_rfl)
end Go.Proofs.YtcpmjogeafhpnaaDoor
/- A slice of bytes that came in, as the contracts want it. -/
set_option linter.all false
namespace Go.Proofs.YtcpmjogeafhpnaaDoor
open Go.RowKit Go.Sep

theorem cell_block {w : World} {b o : Nat} {v : Value} (h : w.cell? ⟨b, o, none⟩ = some v) : ∃ cs T fr, w.heap[b]? = some (.cells cs T fr) ∧ cs[o]? = some v := by
  unfold World.cell? at h
  cases hb : w.heap[b]? with
  | none => simp [hb] at h
  | some ob =>
    cases ob <;> simp [hb] at h
    exact ⟨_, _, _, rfl, h⟩
end Go.Proofs.YtcpmjogeafhpnaaDoor
/- Slices of fields that came in. -/
set_option linter.all false
set_option maxRecDepth 100000
namespace Go.Proofs.YtcpmjogeafhpnaaDoor
open Go.Sep
open Go.ChangeShapes Go.WideShapes Go.ChangeAt Go.RowKit
structure FX where
  k : Int
  a : List UInt8
  v : List UInt8
def FX.d : FX := ⟨0, [], []⟩
instance : Inhabited FX := ⟨FX.d⟩
def FXl (I : IM) (L : List FX) (v : Value) : Prop := ∃ a cap, v = .slice a L.length cap ∧ L.length ≤ cap ∧ ∀ (j : Nat) (x : FX), L[j]? = some x → (-9223372036854775808 ≤ x.k ∧ x.k < 9223372036854775808 ∧ x.a.length ≤ maxLen ∧ x.v.length ≤ maxLen) ∧ ∃ (b o : Nat) (cs : Array Value) (T : TypeId) (fr : Nat × Nat), a = some ⟨b, o, none⟩ ∧ I b = some (.cells cs T fr) ∧ cs[o + j * 3]? = some (.int .i64 x.k) ∧ cs[o + j * 3 + 1]? = some (.string ⟨x.a.toArray⟩) ∧ cs[o + j * 3 + 2]? = some (.string ⟨x.v.toArray⟩)
theorem FXl.mono {I J : IM} (le : I.Le J) {L : List FX} {v : Value} (h : FXl I L v) : FXl J L v := by
  obtain ⟨a, cap, hv, hc, hr⟩ := h
  refine ⟨a, cap, hv, hc, fun j x hj => ?_⟩
  obtain ⟨hx, b, o, cs, T, fr, h1, h2, h3, h4, h5⟩ := hr j x hj
  exact ⟨hx, b, o, cs, T, fr, h1, le _ _ h2, h3, h4, h5⟩
theorem FXl.cap {I : IM} {L : List FX} {a : Option Addr} {n c : Nat} (h : FXl I L (.slice a n c)) : n = L.length ∧ L.length ≤ c := by
  obtain ⟨a', c', hv, hc, _⟩ := h
  cases hv; exact ⟨rfl, hc⟩
theorem fXl_nil (I : IM) : FXl I [] (.slice none 0 0) := ⟨none, 0, rfl, Nat.le_refl _, fun j x h => by simp at h⟩
theorem fXl_cells {cs : List Value} (h : cs.length = 3) : ∃ v0 v1 v2, cs = [v0, v1, v2] := by
  match cs, h with
  | [v0, v1, v2], _ => exact ⟨v0, v1, v2, rfl⟩
theorem fXl_open {H : Type} {enc : TypeId × Value → H} {w : World} {fuel : Nat} {a0 : Option Addr} {len0 cap0 : Nat} {x : DataW H × List MemPlace} (hf : DataW.trod enc Tryd.prog w 0 (fun _ => true) true fuel 22 [.slice a0 len0 cap0] = some x) :
    ∃ L, FXl (fun k => w.heap[k]?) L (.slice a0 len0 cap0) ∧ L.length ≤ maxLen := by
  rcases Go.Deep.open_slice Tryd.underlying22 hf with ⟨hcs, _⟩ | ⟨a, len, cap, m, n, D, Pl, hcs, _, hl, hml, hm, _, hx⟩
  · simp at hcs
    obtain ⟨rfl, rfl, rfl⟩ := hcs
    exact ⟨[], fXl_nil _, Nat.zero_le _⟩
  · simp at hcs
    obtain ⟨rfl, rfl, rfl⟩ := hcs
    have hm' : m = cap0 := by simpa using hm
    subst hm'
    have ce : Tryd.prog.cellsOf 39 = 3 := by kernel_rfl
    have c3 : Tryd.prog.cellsOf 3 = 1 := by kernel_rfl
    have c9 : Tryd.prog.cellsOf 9 = 1 := by kernel_rfl
    have one : ∀ i, i < len0 → ∃ y : FX, (-9223372036854775808 ≤ y.k ∧ y.k < 9223372036854775808 ∧ y.a.length ≤ maxLen ∧ y.v.length ≤ maxLen) ∧ w.cell? (a.add (i * 3)) = some (.int .i64 y.k) ∧ w.cell? (a.add (i * 3 + 1)) = some (.string ⟨y.a.toArray⟩) ∧ w.cell? (a.add (i * 3 + 2)) = some (.string ⟨y.v.toArray⟩) := by
      intro i hi
      obtain ⟨cs', h1, h2⟩ := hx i (by omega)
      rw [ce] at h1
      obtain ⟨_, hlen, hcell⟩ := World.cells?_some h1
      obtain ⟨xs, n', _, _, _, hxl, hfs⟩ := DataW.trod_struct Tryd.underlying39 h2
      obtain ⟨v0, v1, v2, rfl⟩ := fXl_cells hlen
      have hxl' : xs.length = 3 := hxl
      have hx0 : 0 < xs.length := by omega
      have t0 := hfs 0 _ rfl
      rw [List.getElem?_eq_getElem hx0] at t0
      simp [c3] at t0
      obtain ⟨y0, e0, _, b0⟩ := DataW.trod_int Tryd.underlying3 t0
      simp at e0
      subst e0
      have hx1 : 1 < xs.length := by omega
      have t1 := hfs 1 _ rfl
      rw [List.getElem?_eq_getElem hx1] at t1
      simp [c9] at t1
      obtain ⟨y1, e1, _, b1⟩ := DataW.trod_string Tryd.underlying9 t1
      simp at e1
      subst e1
      have hx2 : 2 < xs.length := by omega
      have t2 := hfs 2 _ rfl
      rw [List.getElem?_eq_getElem hx2] at t2
      simp [c9] at t2
      obtain ⟨y2, e2, _, b2⟩ := DataW.trod_string Tryd.underlying9 t2
      simp at e2
      subst e2
      have d0 : -9223372036854775808 ≤ y0 ∧ y0 < 9223372036854775808 := by
        have := b0; simp [Lit.wf, IntKind.min, IntKind.max, IntKind.signed, IntKind.bits] at this; omega
      have g0 := hcell 0 (by omega)
      have g1 := hcell 1 (by omega)
      have g2 := hcell 2 (by omega)
      rw [Go.Deep.add_add] at g0 g1 g2
      exact ⟨⟨y0, y1.data.toList, y2.data.toList⟩, ⟨d0.1, d0.2, b1, b2⟩, (by simpa using g0), (by simpa using g1), (by simpa using g2)⟩
    obtain ⟨f, hfn⟩ := Go.Deep.choose_lt one
    refine ⟨(List.range len0).map f, ⟨some a, m, by simp, by simpa using hl, fun j y hj => ?_⟩, by simp; omega⟩
    have hj' : j < len0 := by
      have := (List.getElem?_eq_some_iff.1 hj).1
      simpa using this
    have hy : y = f j := by simpa [hj'] using hj.symm
    subst hy
    obtain ⟨hb, h0, h1, h2⟩ := hfn j hj'
    obtain ⟨b, o, sp⟩ := a
    cases sp with
    | none =>
      rw [addr_addO b o (j * 3)] at h0
      obtain ⟨cs0, T0, fr0, e0, k0⟩ := cell_block h0
      rw [addr_addO b o (j * 3 + 1)] at h1
      obtain ⟨cs1, T1, fr1, e1, k1⟩ := cell_block h1
      rw [addr_addO b o (j * 3 + 2)] at h2
      obtain ⟨cs2, T2, fr2, e2, k2⟩ := cell_block h2
      rw [e0] at e1
      cases e1
      rw [e0] at e2
      cases e2
      exact ⟨hb, b, o, cs0, T0, fr0, rfl, e0, k0, (by rw [Nat.add_assoc]; exact k1), (by rw [Nat.add_assoc]; exact k2)⟩
    | some sp =>
      exfalso
      obtain ⟨_, h0, _⟩ := hfn 0 (by omega)
      unfold World.cell? Addr.add at h0
      rw [if_pos (by rfl)] at h0
      revert h0
      split <;> simp
def toFe (x : FX) : Fe := ⟨x.k, x.a, x.v⟩
theorem fxl_fsl {I : IM} {L : List FX} {v : Value} (h : FXl I L v) : FSl I (L.map toFe) v := by
  obtain ⟨a, cap, hv, hc, hr⟩ := h
  refine ⟨a, cap, by rw [List.length_map]; exact hv, by rw [List.length_map]; exact hc, fun j x hj => ?_⟩
  rw [List.getElem?_map] at hj
  cases hq : L[j]? with
  | none => rw [hq] at hj; cases hj
  | some y =>
    rw [hq] at hj
    simp only [Option.map_some, Option.some.injEq] at hj
    subst hj
    obtain ⟨_, b, o, cs, T, fr, h1, h2, h3, h4, h5⟩ := hr j y hq
    exact ⟨b, o, cs, T, fr, h1, h2, h3, h4, h5⟩
/-- fields that came in -/
def FIn (I : IM) (L : List Fe) (v : Value) : Prop := FSl I L v ∧ L.length ≤ maxLen
theorem fin_open {H : Type} {enc : TypeId × Value → H} {w : World} {fuel : Nat} {a0 : Option Addr} {len0 cap0 : Nat} {x : DataW H × List MemPlace} (hf : DataW.trod enc Tryd.prog w 0 (fun _ => true) true fuel 22 [.slice a0 len0 cap0] = some x) :
    ∃ L, FIn (fun k => w.heap[k]?) L (.slice a0 len0 cap0) := by
  obtain ⟨L, h, hl⟩ := fXl_open hf
  exact ⟨L.map toFe, fxl_fsl h, by rw [List.length_map]; exact hl⟩
end Go.Proofs.YtcpmjogeafhpnaaDoor
/- Slices of ints that came in. -/
set_option linter.all false
set_option maxRecDepth 100000
namespace Go.Proofs.YtcpmjogeafhpnaaDoor
open Go.Sep
open Go.ChangeShapes Go.WideShapes Go.ChangeAt Go.RowKit
theorem islI_row {w : World} {a : Option Addr} {len cap : Nat} {zs : List Int}
    (h : (a = none ∧ len = 0 ∧ cap = 0 ∧ zs = []) ∨ ∃ x, a = some x ∧ len ≤ cap ∧ cap ≤ maxLen ∧ zs.length = cap ∧ (∀ i, i < zs.length → w.cell? (x.add i) = some (.int .i64 (zs.getD i 0))) ∧ ∀ n ∈ zs, (Lit.int .i64 n).wf = true) :
    ∃ l, ISl (fun k => w.heap[k]?) l (.slice a len cap) := by
  rcases h with ⟨rfl, rfl, rfl, rfl⟩ | ⟨x, rfl, hl, hm, hz, hc, hw⟩
  · exact ⟨[], isl_nil _⟩
  · refine ⟨zs.take len, some x, cap, by rw [List.length_take, Nat.min_eq_left (show len ≤ zs.length by omega)], by rw [List.length_take]; omega, fun j z hz1 => ?_⟩
    rw [List.getElem?_take] at hz1
    split at hz1
    · have hjl : j < zs.length := (List.getElem?_eq_some_iff.1 hz1).1
      have h1 := hc j hjl
      have h2 : zs.getD j 0 = z := by simp [hz1]
      rw [h2] at h1
      obtain ⟨b, o, sp⟩ := x
      cases sp with
      | none =>
        have : (⟨b, o, none⟩ : Addr).add j = ⟨b, o + j, none⟩ := by unfold Addr.add; split <;> simp_all
        rw [this] at h1
        obtain ⟨cs, T, fr, e1, e2⟩ := cell_block h1
        exact ⟨b, o, cs, T, fr, rfl, e1, e2⟩
      | some sp =>
        exfalso
        have h0 := hc 0 (by omega)
        unfold World.cell? Addr.add at h0
        rw [if_pos rfl] at h0
        revert h0
        split <;> simp
    · cases hz1
theorem iin_open {H : Type} {enc : TypeId × Value → H} {w : World} {fuel : Nat} {a0 : Option Addr} {len0 cap0 : Nat} {x : DataW H × List MemPlace} (hf : DataW.trod enc Tryd.prog w 0 (fun _ => true) true fuel 52 [.slice a0 len0 cap0] = some x) :
    ∃ K, ISl (fun k => w.heap[k]?) K (.slice a0 len0 cap0) := by
  rcases open_ints Tryd.underlying52 Tryd.underlying3 (by kernel_rfl) hf with ⟨hcs, _⟩ | ⟨x, l, c, zs, hcs, _, hl, hm, hz, _, hcell, hwz⟩
  · simp at hcs
    obtain ⟨rfl, rfl, rfl⟩ := hcs
    exact islI_row (zs := []) (.inl ⟨rfl, rfl, rfl, rfl⟩)
  · simp at hcs
    obtain ⟨rfl, rfl, rfl⟩ := hcs
    exact islI_row (.inr ⟨_, rfl, hl, hm, by simpa using hz, hcell, hwz⟩)
end Go.Proofs.YtcpmjogeafhpnaaDoor
