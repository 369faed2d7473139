/- share: what two have in common, spans, measures -/
import Derived.Test.YtgdickihjaomjaaSmM20
import Derived.Test.YtgdickihjaomjaaSmM17
set_option linter.all false
set_option maxRecDepth 100000
namespace Go.Proofs.Ytgdickihjaomjaa.Ev
open Go.RowKit Go.Sep
attribute [local irreducible] Go.wpList Go.Code.wp
theorem leMono {I J K : IM} (le : I.Le J) (h : IM.Le K I) : IM.Le K J := h.trans le
def pAt (a : Option Addr) (i : Nat) : Option Addr := a.map fun x => x.add i
theorem pAt_g (g i : Nat) : pAt (some ⟨g, 0, none⟩) i = some ⟨g, i, none⟩ := congrArg some (addr_add g i)
theorem row_slice {e : TypeId} {size n : Nat} {v : Value} {xs : List Value} {F : List OB} (h : RowH e size v n xs F) : ∃ a c, v = .slice a n c := by
  rcases h.2 with ⟨rfl, rfl, _⟩ | ⟨g, cap, cur, rfl, _⟩
  · exact ⟨_, _, rfl⟩
  · exact ⟨_, _, rfl⟩
theorem row_at {e : TypeId} {size n c : Nat} {a : Option Addr} {xs : List Value} {F : List OB} (h : RowH e size (.slice a n c) n xs F) (hn : 0 < n) : ∃ g, a = some ⟨g, 0, none⟩ := by
  obtain ⟨g, cap, hv⟩ := row_some h hn
  cases hv; exact ⟨g, rfl⟩
theorem row_idx35 {w : World} {a : Option Addr} {n c i : Nat} {xs : List Value} {F : List OB} (h : RowH 35 1 (.slice a n c) n xs F) (hi : i < n) : (Instr.indexAt 30 (.slice a n c) (.int .i64 ((i : Nat) : Int))).run Try.prog w = .ok (.pointer (pAt a i)) w := by
  obtain ⟨g, rfl⟩ := row_at h (by omega)
  rw [run_idx30 hi, pAt_g]
theorem row_ld35 {w0 : World} {I0 : IM} {m : List Nat} {I : IM} {H F : List OB} {w : World} (s : St w0 I0 m I w (H ++ F)) {a : Option Addr} {n c i : Nat} {xs : List Value} {x : Value} (h : RowH 35 1 (.slice a n c) n xs F) (hi : i < n) (hx : xs[i]? = some x) :
    (Instr.loadAt 35 (.pointer (pAt a i))).run Try.prog w = .ok x w := by
  obtain ⟨g, rfl⟩ := row_at h (by omega)
  rw [pAt_g]
  exact run_load35 (row_cell s h hx)
theorem cxs_at {L : List (Nat × Nat)} {i : Nat} (h : i < L.length) : (cxs L)[i]? = some (.complex .f64 (dF (L.getD i (0, 0)).1) (dF (L.getD i (0, 0)).2)) := by
  rw [cxs, List.getElem?_map]; simp [h]
theorem run_mkC1 {w : World} {t1 t2 t3 : TypeId} {a : Nat} : (Builtin.complex_ #[t1, t2] t3 #[.float .f64 (dF a), .float .f64 4607182418800017408]).run Try.prog w = .ok (.complex .f64 (dF a) (dF 65536)) w := by rw [dF_one]; rfl
theorem sumW_take {L : List (Nat × Nat)} {i : Nat} (h : i < L.length) : sumW (L.take (i + 1)) = sumW (L.take i) + (L.getD i (0, 0)).2 := by
  have e : L.take (i + 1) = L.take i ++ [L.getD i (0, 0)] := by
    rw [List.take_add_one]; simp [h]
  rw [e, sumW_append]; simp [sumW]
theorem sumW_take_le (L : List (Nat × Nat)) (i : Nat) : sumW (L.take i) ≤ sumW L := by
  have := sumW_append (L.take i) (L.drop i)
  rw [List.take_append_drop] at this; omega
theorem sumW_getD_le (L : List (Nat × Nat)) (i : Nat) : (L.getD i (0, 0)).2 ≤ sumW L := by
  by_cases h : i < L.length
  · have h1 := sumW_take h
    have h2 := sumW_take_le L (i + 1)
    omega
  · simp [List.getD_eq_getElem?_getD, List.getElem?_eq_none (Nat.le_of_not_lt h)]

set_option maxHeartbeats 2000000 in
theorem both_step {I : IM} {A B : T} {ba bb : Bool} {pa pb : Option Addr} (hA : TRep I A ba pa) (hB : TRep I B bb pb) {UL UR : T} (hd : (T.mk UL UR).depth ≤ 16) (hd1 : UL.depth ≤ 1000) (hd2 : UR.depth ≤ 1000) (ihl : A.isZero = false → B.isOne = false → B.isZero = false → A.isOne = false → ∀ {J : IM} {b1 b2 : Bool} {p1 p2 : Option Addr}, TRep J A.left b1 p1 → TRep J B.left b2 p2 → Fun Try.prog 39 #[idv b1 p1, idv b2 p2] J (fun v J => ∃ b p, v = idv b p ∧ TRep J UL b p)) (ihr : A.isZero = false → B.isOne = false → B.isZero = false → A.isOne = false → ∀ {J : IM} {b1 b2 : Bool} {p1 p2 : Option Addr}, TRep J A.right b1 p1 → TRep J B.right b2 p2 → Fun Try.prog 39 #[idv b1 p1, idv b2 p2] J (fun v J => ∃ b p, v = idv b p ∧ TRep J UR b p)) : Fun Try.prog 39 #[idv ba pa, idv bb pb] I (fun v J => ∃ b p, v = idv b p ∧ TRep J (if A.isZero = true then A else if B.isOne = true then A else if B.isZero = true then B else if A.isOne = true then B else T.mk UL UR) b p) := by
  refine enter_rule 36 [(0, .agg #[.bool ba, .pointer pa]), (1, .agg #[.bool bb, .pointer pb])] Try.func39 rfl (by kernel_rfl) ?_
  intro w s
  refine wp_seq ?_
  refine region_rule ?_
  refine ops_rule (C := []) [] [] 3 [] 3 (fun φ1 => [(4, .pointer (some ⟨(φ1 2), 0, none⟩)), (3, .pointer (some ⟨(φ1 1), 0, none⟩)), (2, .pointer (some ⟨(φ1 0), 0, none⟩))]) (fun φ1 => [((φ1 0), .cells #[.bool ba, .pointer pa] 26), ((φ1 1), .cells #[.bool bb, .pointer pb] 26), ((φ1 2), .cells #[.bool false, .pointer none] 26)]) (fun φ1 => []) s trivial (fun φ1 => by kernel_rfl) ?_
  intro φ1 w1 s
  refine ops_done (by kernel_rfl) ?_
  refine wp_seq ?_
  refine wp_seq ?_
  refine region_rule ?_
  refine ops_rule (C := []) [((φ1 0), .cells #[.bool ba, .pointer pa] 26), ((φ1 1), .cells #[.bool bb, .pointer pb] 26), ((φ1 2), .cells #[.bool false, .pointer none] 26)] [] 1 [.o 0, .o 0] 0 (fun φ2 => [(7, .agg #[.bool ba, .pointer pa])]) (fun φ2 => [((φ1 0), .cells #[.bool ba, .pointer pa] 26), ((φ1 1), .cells #[.bool bb, .pointer pb] 26), ((φ1 2), .cells #[.bool false, .pointer none] 26)]) (fun φ2 => [(φ1 0), (φ1 0)]) s trivial (fun φ2 => by kernel_rfl) ?_
  intro φ2 w2 s
  refine call_rule (some 8) s (isZero_c hA) (by kernel_rfl) ?_
  intro v3 I3 w3 le3 h3 s
  replace hA := TRep.mono le3 hA
  replace hB := TRep.mono le3 hB
  obtain rfl := h3
  refine ops_rule (C := []) [((φ1 0), .cells #[.bool ba, .pointer pa] 26), ((φ1 1), .cells #[.bool bb, .pointer pb] 26), ((φ1 2), .cells #[.bool false, .pointer none] 26)] [] 1 [] 0 (fun φ4 => [(9, .bool (T.isZero A))]) (fun φ4 => [((φ1 0), .cells #[.bool ba, .pointer pa] 26), ((φ1 1), .cells #[.bool bb, .pointer pb] 26), ((φ1 2), .cells #[.bool false, .pointer none] 26)]) (fun φ4 => []) s trivial (fun φ4 => by kernel_rfl) ?_
  intro φ4 w4 s
  rcases Bool.eq_false_or_eq_true (T.isZero A) with hc5 | hc5
  ·
    rw [hc5]
    refine ops_rule (C := []) [((φ1 0), .cells #[.bool ba, .pointer pa] 26), ((φ1 1), .cells #[.bool bb, .pointer pb] 26), ((φ1 2), .cells #[.bool false, .pointer none] 26)] [] 3 [] 0 (fun φ6 => [(12, .bool true), (11, undef), (10, undef)]) (fun φ6 => [((φ1 0), .cells #[.bool ba, .pointer pa] 26), ((φ1 1), .cells #[.bool bb, .pointer pb] 26), ((φ1 2), .cells #[.bool false, .pointer none] 26)]) (fun φ6 => []) s trivial (fun φ6 => by kernel_rfl) ?_
    intro φ6 w6 s
    refine ops_done (by kernel_rfl) ?_
    refine cond_true_rule (b := true) (by kernel_rfl) rfl ?_
    refine wp_seq ?_
    refine region_rule ?_
    refine ops_rule (C := []) [((φ1 0), .cells #[.bool ba, .pointer pa] 26), ((φ1 1), .cells #[.bool bb, .pointer pb] 26), ((φ1 2), .cells #[.bool false, .pointer none] 26)] [] 2 [.o 0, .o 0, .o 2, .o 2] 0 (fun φ7 => [(13, .agg #[.bool ba, .pointer pa])]) (fun φ7 => [((φ1 0), .cells #[.bool ba, .pointer pa] 26), ((φ1 1), .cells #[.bool bb, .pointer pb] 26), ((φ1 2), .cells #[.bool ba, .pointer pa] 26)]) (fun φ7 => [(φ1 0), (φ1 0), (φ1 2), (φ1 2)]) s trivial (fun φ7 => by kernel_rfl) ?_
    intro φ7 w7 s
    refine ops_done (by kernel_rfl) ?_
    refine wp_ret ?_
    refine ret_rule (C := []) [((φ1 0), .cells #[.bool ba, .pointer pa] 26), ((φ1 1), .cells #[.bool bb, .pointer pb] 26), ((φ1 2), .cells #[.bool ba, .pointer pa] 26)] [] (.agg #[.bool ba, .pointer pa]) [.o 2, .o 2] [(φ1 2), (φ1 2)] s trivial (by kernel_rfl) ?_
    simp only [hc5, ↓reduceIte, Bool.false_eq_true]
    exact ⟨_, _, _, rfl, s, ⟨_, _, rfl, hA⟩⟩
  ·
    rw [hc5]
    refine ops_rule (C := []) [((φ1 0), .cells #[.bool ba, .pointer pa] 26), ((φ1 1), .cells #[.bool bb, .pointer pb] 26), ((φ1 2), .cells #[.bool false, .pointer none] 26)] [] 1 [.o 1, .o 1] 0 (fun φ8 => [(10, .agg #[.bool bb, .pointer pb])]) (fun φ8 => [((φ1 0), .cells #[.bool ba, .pointer pa] 26), ((φ1 1), .cells #[.bool bb, .pointer pb] 26), ((φ1 2), .cells #[.bool false, .pointer none] 26)]) (fun φ8 => [(φ1 1), (φ1 1)]) s trivial (fun φ8 => by kernel_rfl) ?_
    intro φ8 w8 s
    refine call_rule (some 11) s (isOne_c hB) (by kernel_rfl) ?_
    intro v9 I9 w9 le9 h9 s
    replace hA := TRep.mono le9 hA
    replace hB := TRep.mono le9 hB
    obtain rfl := h9
    refine ops_rule (C := []) [((φ1 0), .cells #[.bool ba, .pointer pa] 26), ((φ1 1), .cells #[.bool bb, .pointer pb] 26), ((φ1 2), .cells #[.bool false, .pointer none] 26)] [] 1 [] 0 (fun φ10 => [(12, .bool (T.isOne B))]) (fun φ10 => [((φ1 0), .cells #[.bool ba, .pointer pa] 26), ((φ1 1), .cells #[.bool bb, .pointer pb] 26), ((φ1 2), .cells #[.bool false, .pointer none] 26)]) (fun φ10 => []) s trivial (fun φ10 => by kernel_rfl) ?_
    intro φ10 w10 s
    refine ops_done (by kernel_rfl) ?_
    rcases Bool.eq_false_or_eq_true (T.isOne B) with hc11 | hc11
    ·
      rw [hc11]
      refine cond_true_rule (b := true) (by kernel_rfl) rfl ?_
      refine wp_seq ?_
      refine region_rule ?_
      refine ops_rule (C := []) [((φ1 0), .cells #[.bool ba, .pointer pa] 26), ((φ1 1), .cells #[.bool bb, .pointer pb] 26), ((φ1 2), .cells #[.bool false, .pointer none] 26)] [] 2 [.o 0, .o 0, .o 2, .o 2] 0 (fun φ12 => [(13, .agg #[.bool ba, .pointer pa])]) (fun φ12 => [((φ1 0), .cells #[.bool ba, .pointer pa] 26), ((φ1 1), .cells #[.bool bb, .pointer pb] 26), ((φ1 2), .cells #[.bool ba, .pointer pa] 26)]) (fun φ12 => [(φ1 0), (φ1 0), (φ1 2), (φ1 2)]) s trivial (fun φ12 => by kernel_rfl) ?_
      intro φ12 w12 s
      refine ops_done (by kernel_rfl) ?_
      refine wp_ret ?_
      refine ret_rule (C := []) [((φ1 0), .cells #[.bool ba, .pointer pa] 26), ((φ1 1), .cells #[.bool bb, .pointer pb] 26), ((φ1 2), .cells #[.bool ba, .pointer pa] 26)] [] (.agg #[.bool ba, .pointer pa]) [.o 2, .o 2] [(φ1 2), (φ1 2)] s trivial (by kernel_rfl) ?_
      simp only [hc5, hc11, ↓reduceIte, Bool.false_eq_true]
      exact ⟨_, _, _, rfl, s, ⟨_, _, rfl, hA⟩⟩
    ·
      rw [hc11]
      refine cond_false_rule (b := false) (by kernel_rfl) rfl ?_
      refine wp_skip ?_
      refine wp_seq ?_
      refine wp_seq ?_
      refine region_rule ?_
      refine ops_rule (C := []) [((φ1 0), .cells #[.bool ba, .pointer pa] 26), ((φ1 1), .cells #[.bool bb, .pointer pb] 26), ((φ1 2), .cells #[.bool false, .pointer none] 26)] [] 1 [.o 1, .o 1] 0 (fun φ13 => [(14, .agg #[.bool bb, .pointer pb])]) (fun φ13 => [((φ1 0), .cells #[.bool ba, .pointer pa] 26), ((φ1 1), .cells #[.bool bb, .pointer pb] 26), ((φ1 2), .cells #[.bool false, .pointer none] 26)]) (fun φ13 => [(φ1 1), (φ1 1)]) s trivial (fun φ13 => by kernel_rfl) ?_
      intro φ13 w13 s
      refine call_rule (some 15) s (isZero_c hB) (by kernel_rfl) ?_
      intro v14 I14 w14 le14 h14 s
      replace hA := TRep.mono le14 hA
      replace hB := TRep.mono le14 hB
      obtain rfl := h14
      refine ops_rule (C := []) [((φ1 0), .cells #[.bool ba, .pointer pa] 26), ((φ1 1), .cells #[.bool bb, .pointer pb] 26), ((φ1 2), .cells #[.bool false, .pointer none] 26)] [] 1 [] 0 (fun φ15 => [(16, .bool (T.isZero B))]) (fun φ15 => [((φ1 0), .cells #[.bool ba, .pointer pa] 26), ((φ1 1), .cells #[.bool bb, .pointer pb] 26), ((φ1 2), .cells #[.bool false, .pointer none] 26)]) (fun φ15 => []) s trivial (fun φ15 => by kernel_rfl) ?_
      intro φ15 w15 s
      rcases Bool.eq_false_or_eq_true (T.isZero B) with hc16 | hc16
      ·
        rw [hc16]
        refine ops_rule (C := []) [((φ1 0), .cells #[.bool ba, .pointer pa] 26), ((φ1 1), .cells #[.bool bb, .pointer pb] 26), ((φ1 2), .cells #[.bool false, .pointer none] 26)] [] 3 [] 0 (fun φ17 => [(19, .bool true), (18, undef), (17, undef)]) (fun φ17 => [((φ1 0), .cells #[.bool ba, .pointer pa] 26), ((φ1 1), .cells #[.bool bb, .pointer pb] 26), ((φ1 2), .cells #[.bool false, .pointer none] 26)]) (fun φ17 => []) s trivial (fun φ17 => by kernel_rfl) ?_
        intro φ17 w17 s
        refine ops_done (by kernel_rfl) ?_
        refine cond_true_rule (b := true) (by kernel_rfl) rfl ?_
        refine wp_seq ?_
        refine region_rule ?_
        refine ops_rule (C := []) [((φ1 0), .cells #[.bool ba, .pointer pa] 26), ((φ1 1), .cells #[.bool bb, .pointer pb] 26), ((φ1 2), .cells #[.bool false, .pointer none] 26)] [] 2 [.o 1, .o 1, .o 2, .o 2] 0 (fun φ18 => [(20, .agg #[.bool bb, .pointer pb])]) (fun φ18 => [((φ1 0), .cells #[.bool ba, .pointer pa] 26), ((φ1 1), .cells #[.bool bb, .pointer pb] 26), ((φ1 2), .cells #[.bool bb, .pointer pb] 26)]) (fun φ18 => [(φ1 1), (φ1 1), (φ1 2), (φ1 2)]) s trivial (fun φ18 => by kernel_rfl) ?_
        intro φ18 w18 s
        refine ops_done (by kernel_rfl) ?_
        refine wp_ret ?_
        refine ret_rule (C := []) [((φ1 0), .cells #[.bool ba, .pointer pa] 26), ((φ1 1), .cells #[.bool bb, .pointer pb] 26), ((φ1 2), .cells #[.bool bb, .pointer pb] 26)] [] (.agg #[.bool bb, .pointer pb]) [.o 2, .o 2] [(φ1 2), (φ1 2)] s trivial (by kernel_rfl) ?_
        simp only [hc5, hc11, hc16, ↓reduceIte, Bool.false_eq_true]
        exact ⟨_, _, _, rfl, s, ⟨_, _, rfl, hB⟩⟩
      ·
        rw [hc16]
        refine ops_rule (C := []) [((φ1 0), .cells #[.bool ba, .pointer pa] 26), ((φ1 1), .cells #[.bool bb, .pointer pb] 26), ((φ1 2), .cells #[.bool false, .pointer none] 26)] [] 1 [.o 0, .o 0] 0 (fun φ19 => [(17, .agg #[.bool ba, .pointer pa])]) (fun φ19 => [((φ1 0), .cells #[.bool ba, .pointer pa] 26), ((φ1 1), .cells #[.bool bb, .pointer pb] 26), ((φ1 2), .cells #[.bool false, .pointer none] 26)]) (fun φ19 => [(φ1 0), (φ1 0)]) s trivial (fun φ19 => by kernel_rfl) ?_
        intro φ19 w19 s
        refine call_rule (some 18) s (isOne_c hA) (by kernel_rfl) ?_
        intro v20 I20 w20 le20 h20 s
        replace hA := TRep.mono le20 hA
        replace hB := TRep.mono le20 hB
        obtain rfl := h20
        refine ops_rule (C := []) [((φ1 0), .cells #[.bool ba, .pointer pa] 26), ((φ1 1), .cells #[.bool bb, .pointer pb] 26), ((φ1 2), .cells #[.bool false, .pointer none] 26)] [] 1 [] 0 (fun φ21 => [(19, .bool (T.isOne A))]) (fun φ21 => [((φ1 0), .cells #[.bool ba, .pointer pa] 26), ((φ1 1), .cells #[.bool bb, .pointer pb] 26), ((φ1 2), .cells #[.bool false, .pointer none] 26)]) (fun φ21 => []) s trivial (fun φ21 => by kernel_rfl) ?_
        intro φ21 w21 s
        refine ops_done (by kernel_rfl) ?_
        rcases Bool.eq_false_or_eq_true (T.isOne A) with hc22 | hc22
        ·
          rw [hc22]
          refine cond_true_rule (b := true) (by kernel_rfl) rfl ?_
          refine wp_seq ?_
          refine region_rule ?_
          refine ops_rule (C := []) [((φ1 0), .cells #[.bool ba, .pointer pa] 26), ((φ1 1), .cells #[.bool bb, .pointer pb] 26), ((φ1 2), .cells #[.bool false, .pointer none] 26)] [] 2 [.o 1, .o 1, .o 2, .o 2] 0 (fun φ23 => [(20, .agg #[.bool bb, .pointer pb])]) (fun φ23 => [((φ1 0), .cells #[.bool ba, .pointer pa] 26), ((φ1 1), .cells #[.bool bb, .pointer pb] 26), ((φ1 2), .cells #[.bool bb, .pointer pb] 26)]) (fun φ23 => [(φ1 1), (φ1 1), (φ1 2), (φ1 2)]) s trivial (fun φ23 => by kernel_rfl) ?_
          intro φ23 w23 s
          refine ops_done (by kernel_rfl) ?_
          refine wp_ret ?_
          refine ret_rule (C := []) [((φ1 0), .cells #[.bool ba, .pointer pa] 26), ((φ1 1), .cells #[.bool bb, .pointer pb] 26), ((φ1 2), .cells #[.bool bb, .pointer pb] 26)] [] (.agg #[.bool bb, .pointer pb]) [.o 2, .o 2] [(φ1 2), (φ1 2)] s trivial (by kernel_rfl) ?_
          simp only [hc5, hc11, hc16, hc22, ↓reduceIte, Bool.false_eq_true]
          exact ⟨_, _, _, rfl, s, ⟨_, _, rfl, hB⟩⟩
        ·
          rw [hc22]
          refine cond_false_rule (b := false) (by kernel_rfl) rfl ?_
          refine wp_skip ?_
          refine wp_seq ?_
          refine draw_rule (C := []) ⟨(fun φ24 xs24 => [.look 0 [.o 0, .o 0] [(φ1 0), (φ1 0)], .call 42 #[.agg #[.bool ba, .pointer pa]], .look 0 [.o 1, .o 1] [(φ1 1), (φ1 1)], .call 42 #[.agg #[.bool bb, .pointer pb]], .call 39 #[.agg #[.bool ((xs24 1).b 0), .pointer ((xs24 1).p 0)], .agg #[.bool ((xs24 3).b 0), .pointer ((xs24 3).p 0)]], .look 0 [.o 0, .o 0] [(φ1 0), (φ1 0)], .call 43 #[.agg #[.bool ba, .pointer pa]], .look 0 [.o 1, .o 1] [(φ1 1), (φ1 1)], .call 43 #[.agg #[.bool bb, .pointer pb]], .call 39 #[.agg #[.bool ((xs24 6).b 0), .pointer ((xs24 6).p 0)], .agg #[.bool ((xs24 8).b 0), .pointer ((xs24 8).p 0)]], .call 58 #[.agg #[.bool ((xs24 4).b 0), .pointer ((xs24 4).p 0)], .agg #[.bool ((xs24 9).b 0), .pointer ((xs24 9).p 0)]], .look 0 [] [], .look 0 [] [], .look 0 [] [], .new, .store 0 [.o 3, .o 3] [(φ24 14), (φ24 14)], .look 1 [] []]), (fun φ24 xs24 => [.agg #[.bool ba, .pointer pa], .agg #[.bool ((xs24 1).b 0), .pointer ((xs24 1).p 0)], .agg #[.bool bb, .pointer pb], .agg #[.bool ((xs24 3).b 0), .pointer ((xs24 3).p 0)], .agg #[.bool ((xs24 4).b 0), .pointer ((xs24 4).p 0)], .agg #[.bool ba, .pointer pa], .agg #[.bool ((xs24 6).b 0), .pointer ((xs24 6).p 0)], .agg #[.bool bb, .pointer pb], .agg #[.bool ((xs24 8).b 0), .pointer ((xs24 8).p 0)], .agg #[.bool ((xs24 9).b 0), .pointer ((xs24 9).p 0)], .tuple #[.agg #[.bool ((xs24 10).b 0), .pointer ((xs24 10).p 0)], .int .i64 0], .tuple #[.agg #[.bool ((xs24 10).b 0), .pointer ((xs24 10).p 0)], .int .i64 0], .agg #[.bool ((xs24 10).b 0), .pointer ((xs24 10).p 0)], .int .i64 0, .pointer (some ⟨(φ24 14), 0, none⟩), undef, .int .i64 0]), (fun φ24 xs24 => [[((φ1 0), .cells #[.bool ba, .pointer pa] 26), ((φ1 1), .cells #[.bool bb, .pointer pb] 26), ((φ1 2), .cells #[.bool false, .pointer none] 26)], [((φ1 0), .cells #[.bool ba, .pointer pa] 26), ((φ1 1), .cells #[.bool bb, .pointer pb] 26), ((φ1 2), .cells #[.bool false, .pointer none] 26)]]), (fun φ24 xs24 => [[default, default, default, default, default, default, default, default, default, default, default, default, default, default, .cells #[.bool false, .pointer none] 26, default, default], [default, default, default, default, default, default, default, default, default, default, default, default, default, default, .cells #[.bool ((xs24 10).b 0), .pointer ((xs24 10).p 0)] 26, default, default]]), [15], [1, 3, 1, 3, 3, 1, 3, 1, 3, 3, 3, 1, 1, 1, 2, 4, 1]⟩ (fun j => ([MP.any, ⟨fun x J => TRep J (T.left A) (x.b 0) (x.p 0), fun le h => TRep.mono le h⟩, MP.any, ⟨fun x J => TRep J (T.left B) (x.b 0) (x.p 0), fun le h => TRep.mono le h⟩, ⟨fun x J => TRep J UL (x.b 0) (x.p 0), fun le h => TRep.mono le h⟩, MP.any, ⟨fun x J => TRep J (T.right A) (x.b 0) (x.p 0), fun le h => TRep.mono le h⟩, MP.any, ⟨fun x J => TRep J (T.right B) (x.b 0) (x.p 0), fun le h => TRep.mono le h⟩, ⟨fun x J => TRep J UR (x.b 0) (x.p 0), fun le h => TRep.mono le h⟩, ⟨fun x J => TRep J (T.mk UL UR) (x.b 0) (x.p 0), fun le h => TRep.mono le h⟩, MP.any, MP.any, MP.any, MP.any, MP.any, MP.any] : List MP).getD j MP.any) [1, 3, 4, 6, 8, 9, 10] [] [] (fun φ24 xs24 => [[none, none, none, none, none, none, none, none, none, none, none, none, none, none, none, none, none]]) (fun φ24 xs24 => [(22, .agg #[.bool ba, .pointer pa]), (23, .agg #[.bool ((xs24 1).b 0), .pointer ((xs24 1).p 0)]), (24, .agg #[.bool bb, .pointer pb]), (25, .agg #[.bool ((xs24 3).b 0), .pointer ((xs24 3).p 0)]), (26, .agg #[.bool ((xs24 4).b 0), .pointer ((xs24 4).p 0)]), (27, .agg #[.bool ba, .pointer pa]), (28, .agg #[.bool ((xs24 6).b 0), .pointer ((xs24 6).p 0)]), (29, .agg #[.bool bb, .pointer pb]), (30, .agg #[.bool ((xs24 8).b 0), .pointer ((xs24 8).p 0)]), (31, .agg #[.bool ((xs24 9).b 0), .pointer ((xs24 9).p 0)]), (32, .tuple #[.agg #[.bool ((xs24 10).b 0), .pointer ((xs24 10).p 0)], .int .i64 0]), (21, .tuple #[.agg #[.bool ((xs24 10).b 0), .pointer ((xs24 10).p 0)], .int .i64 0]), (33, .agg #[.bool ((xs24 10).b 0), .pointer ((xs24 10).p 0)]), (34, .int .i64 0), (5, .pointer (some ⟨(φ24 14), 0, none⟩)), (6, .int .i64 0)]) (fun φ24 xs24 => [((φ1 0), .cells #[.bool ba, .pointer pa] 26), ((φ1 1), .cells #[.bool bb, .pointer pb] 26), ((φ1 2), .cells #[.bool false, .pointer none] 26), ((φ24 14), .cells #[.bool ((xs24 10).b 0), .pointer ((xs24 10).p 0)] 26)]) s trivial (by kernel_rfl) (by kernel_rfl) (fun _ _ => by kernel_rfl) (fun _ _ => by kernel_rfl) ⟨fun _ _ => by kernel_rfl, fun _ _ => by kernel_rfl, fun _ _ => by kernel_rfl, fun _ _ => by kernel_rfl⟩ (fun _ _ _ => by kernel_rfl) (fun _ _ => by kernel_rfl) (fun _ _ => by kernel_rfl) (fun _ _ => by kernel_rfl) (fun _ _ => by kernel_rfl) (fun _ _ => by kernel_rfl) trivial trivial (by kernel_rfl) ⟨?c24_1, ?c24_3, ?c24_4, ?c24_6, ?c24_8, ?c24_9, ?c24_10, trivial⟩ ?k24
          case c24_1 =>
            refine kcast (A := ∀ (φ24 : Nat → Nat) (xs24 : Xs) (J1_24 : IM), I20.Le J1_24 → Fun Try.prog 42 #[.agg #[.bool ba, .pointer pa]] J1_24 (fun v J' => ∃ x : UX, v = .agg #[.bool (x.b 0), .pointer (x.p 0)] ∧ (TRep J' (T.left A) (x.b 0) (x.p 0)))) (by kernel_rfl) ?_
            intro φ24 xs24 J1_24 leJ
            have hA := TRep.mono leJ hA
            exact Fun.mono (tleft_c hA) (fun v J' _ ⟨y0, y1, hv, g0⟩ => ⟨{ UX.d with b := fun j => y0, p := fun j => y1 }, hv, g0⟩)
          case c24_3 =>
            refine kcast (A := ∀ (φ24 : Nat → Nat) (xs24 : Xs) (J3_24 : IM), I20.Le J3_24 → (TRep J3_24 (T.left A) ((xs24 1).b 0) ((xs24 1).p 0)) → Fun Try.prog 42 #[.agg #[.bool bb, .pointer pb]] J3_24 (fun v J' => ∃ x : UX, v = .agg #[.bool (x.b 0), .pointer (x.p 0)] ∧ (TRep J' (T.left B) (x.b 0) (x.p 0)))) (by kernel_rfl) ?_
            intro φ24 xs24 J3_24 leJ
            rintro h24_1_0
            have hB := TRep.mono leJ hB
            exact Fun.mono (tleft_c hB) (fun v J' _ ⟨y0, y1, hv, g0⟩ => ⟨{ UX.d with b := fun j => y0, p := fun j => y1 }, hv, g0⟩)
          case c24_4 =>
            refine kcast (A := ∀ (φ24 : Nat → Nat) (xs24 : Xs) (J4_24 : IM), I20.Le J4_24 → (TRep J4_24 (T.left A) ((xs24 1).b 0) ((xs24 1).p 0)) → (TRep J4_24 (T.left B) ((xs24 3).b 0) ((xs24 3).p 0)) → Fun Try.prog 39 #[.agg #[.bool ((xs24 1).b 0), .pointer ((xs24 1).p 0)], .agg #[.bool ((xs24 3).b 0), .pointer ((xs24 3).p 0)]] J4_24 (fun v J' => ∃ x : UX, v = .agg #[.bool (x.b 0), .pointer (x.p 0)] ∧ (TRep J' UL (x.b 0) (x.p 0)))) (by kernel_rfl) ?_
            intro φ24 xs24 J4_24 leJ
            rintro h24_1_0 h24_3_0
            exact Fun.mono (ihl hc5 hc11 hc16 hc22 h24_1_0 h24_3_0) (fun v J' _ ⟨y0, y1, hv, g0⟩ => ⟨{ UX.d with b := fun j => y0, p := fun j => y1 }, hv, g0⟩)
          case c24_6 =>
            refine kcast (A := ∀ (φ24 : Nat → Nat) (xs24 : Xs) (J6_24 : IM), I20.Le J6_24 → (TRep J6_24 (T.left A) ((xs24 1).b 0) ((xs24 1).p 0)) → (TRep J6_24 (T.left B) ((xs24 3).b 0) ((xs24 3).p 0)) → (TRep J6_24 UL ((xs24 4).b 0) ((xs24 4).p 0)) → Fun Try.prog 43 #[.agg #[.bool ba, .pointer pa]] J6_24 (fun v J' => ∃ x : UX, v = .agg #[.bool (x.b 0), .pointer (x.p 0)] ∧ (TRep J' (T.right A) (x.b 0) (x.p 0)))) (by kernel_rfl) ?_
            intro φ24 xs24 J6_24 leJ
            rintro h24_1_0 h24_3_0 h24_4_0
            have hA := TRep.mono leJ hA
            exact Fun.mono (tright_c hA) (fun v J' _ ⟨y0, y1, hv, g0⟩ => ⟨{ UX.d with b := fun j => y0, p := fun j => y1 }, hv, g0⟩)
          case c24_8 =>
            refine kcast (A := ∀ (φ24 : Nat → Nat) (xs24 : Xs) (J8_24 : IM), I20.Le J8_24 → (TRep J8_24 (T.left A) ((xs24 1).b 0) ((xs24 1).p 0)) → (TRep J8_24 (T.left B) ((xs24 3).b 0) ((xs24 3).p 0)) → (TRep J8_24 UL ((xs24 4).b 0) ((xs24 4).p 0)) → (TRep J8_24 (T.right A) ((xs24 6).b 0) ((xs24 6).p 0)) → Fun Try.prog 43 #[.agg #[.bool bb, .pointer pb]] J8_24 (fun v J' => ∃ x : UX, v = .agg #[.bool (x.b 0), .pointer (x.p 0)] ∧ (TRep J' (T.right B) (x.b 0) (x.p 0)))) (by kernel_rfl) ?_
            intro φ24 xs24 J8_24 leJ
            rintro h24_1_0 h24_3_0 h24_4_0 h24_6_0
            have hB := TRep.mono leJ hB
            exact Fun.mono (tright_c hB) (fun v J' _ ⟨y0, y1, hv, g0⟩ => ⟨{ UX.d with b := fun j => y0, p := fun j => y1 }, hv, g0⟩)
          case c24_9 =>
            refine kcast (A := ∀ (φ24 : Nat → Nat) (xs24 : Xs) (J9_24 : IM), I20.Le J9_24 → (TRep J9_24 (T.left A) ((xs24 1).b 0) ((xs24 1).p 0)) → (TRep J9_24 (T.left B) ((xs24 3).b 0) ((xs24 3).p 0)) → (TRep J9_24 UL ((xs24 4).b 0) ((xs24 4).p 0)) → (TRep J9_24 (T.right A) ((xs24 6).b 0) ((xs24 6).p 0)) → (TRep J9_24 (T.right B) ((xs24 8).b 0) ((xs24 8).p 0)) → Fun Try.prog 39 #[.agg #[.bool ((xs24 6).b 0), .pointer ((xs24 6).p 0)], .agg #[.bool ((xs24 8).b 0), .pointer ((xs24 8).p 0)]] J9_24 (fun v J' => ∃ x : UX, v = .agg #[.bool (x.b 0), .pointer (x.p 0)] ∧ (TRep J' UR (x.b 0) (x.p 0)))) (by kernel_rfl) ?_
            intro φ24 xs24 J9_24 leJ
            rintro h24_1_0 h24_3_0 h24_4_0 h24_6_0 h24_8_0
            exact Fun.mono (ihr hc5 hc11 hc16 hc22 h24_6_0 h24_8_0) (fun v J' _ ⟨y0, y1, hv, g0⟩ => ⟨{ UX.d with b := fun j => y0, p := fun j => y1 }, hv, g0⟩)
          case c24_10 =>
            refine kcast (A := ∀ (φ24 : Nat → Nat) (xs24 : Xs) (J10_24 : IM), I20.Le J10_24 → (TRep J10_24 (T.left A) ((xs24 1).b 0) ((xs24 1).p 0)) → (TRep J10_24 (T.left B) ((xs24 3).b 0) ((xs24 3).p 0)) → (TRep J10_24 UL ((xs24 4).b 0) ((xs24 4).p 0)) → (TRep J10_24 (T.right A) ((xs24 6).b 0) ((xs24 6).p 0)) → (TRep J10_24 (T.right B) ((xs24 8).b 0) ((xs24 8).p 0)) → (TRep J10_24 UR ((xs24 9).b 0) ((xs24 9).p 0)) → Fun Try.prog 58 #[.agg #[.bool ((xs24 4).b 0), .pointer ((xs24 4).p 0)], .agg #[.bool ((xs24 9).b 0), .pointer ((xs24 9).p 0)]] J10_24 (fun v J' => ∃ x : UX, v = .tuple #[.agg #[.bool (x.b 0), .pointer (x.p 0)], .int .i64 0] ∧ (TRep J' (T.mk UL UR) (x.b 0) (x.p 0)))) (by kernel_rfl) ?_
            intro φ24 xs24 J10_24 leJ
            rintro h24_1_0 h24_3_0 h24_4_0 h24_6_0 h24_8_0 h24_9_0
            exact Fun.mono (pairOk_c h24_4_0 h24_9_0 (by omega) (by omega) (by omega)) (fun v J' _ ⟨y0, y1, hv, g0⟩ => ⟨{ UX.d with b := fun j => y0, p := fun j => y1 }, hv, g0⟩)
          case k24 =>
            rintro φ24 xs24 I24 w24 le24 s h24_1_0 h24_3_0 h24_4_0 h24_6_0 h24_8_0 h24_9_0 h24_10_0
            replace hA := TRep.mono le24 hA
            replace hB := TRep.mono le24 hB
            refine wp_seq ?_
            refine region_rule ?_
            refine ops_rule (C := []) [((φ1 0), .cells #[.bool ba, .pointer pa] 26), ((φ1 1), .cells #[.bool bb, .pointer pb] 26), ((φ1 2), .cells #[.bool false, .pointer none] 26), ((φ24 14), .cells #[.bool ((xs24 10).b 0), .pointer ((xs24 10).p 0)] 26)] [] 2 [.o 3, .o 3, .o 2, .o 2] 0 (fun φ25 => [(35, .agg #[.bool ((xs24 10).b 0), .pointer ((xs24 10).p 0)])]) (fun φ25 => [((φ1 0), .cells #[.bool ba, .pointer pa] 26), ((φ1 1), .cells #[.bool bb, .pointer pb] 26), ((φ1 2), .cells #[.bool ((xs24 10).b 0), .pointer ((xs24 10).p 0)] 26), ((φ24 14), .cells #[.bool ((xs24 10).b 0), .pointer ((xs24 10).p 0)] 26)]) (fun φ25 => [(φ24 14), (φ24 14), (φ1 2), (φ1 2)]) s trivial (fun φ25 => by kernel_rfl) ?_
            intro φ25 w25 s
            refine ops_done (by kernel_rfl) ?_
            refine wp_ret ?_
            refine ret_rule (C := []) [((φ1 0), .cells #[.bool ba, .pointer pa] 26), ((φ1 1), .cells #[.bool bb, .pointer pb] 26), ((φ1 2), .cells #[.bool ((xs24 10).b 0), .pointer ((xs24 10).p 0)] 26), ((φ24 14), .cells #[.bool ((xs24 10).b 0), .pointer ((xs24 10).p 0)] 26)] [] (.agg #[.bool ((xs24 10).b 0), .pointer ((xs24 10).p 0)]) [.o 2, .o 2] [(φ1 2), (φ1 2)] s trivial (by kernel_rfl) ?_
            simp only [hc5, hc11, hc16, hc22, ↓reduceIte, Bool.false_eq_true]
            exact ⟨_, _, _, rfl, s, ⟨_, _, rfl, h24_10_0⟩⟩

theorem both_c : ∀ (A B : T) {I : IM} {ba bb : Bool} {pa pb : Option Addr}, A.depth ≤ 16 → B.depth ≤ 16 → TRep I A ba pa → TRep I B bb pb → Fun Try.prog 39 #[idv ba pa, idv bb pb] I (fun v J => ∃ b p, v = idv b p ∧ TRep J (bothT A B) b p)
  | .zero, B, _, _, _, _, _, _, _, hA, hB => (by cases B <;> simpa [bothT, T.isZero, T.isOne] using both_step (UL := .zero) (UR := .zero) hA hB (by decide) (by decide) (by decide) (by simp [T.isZero, T.isOne]) (by simp [T.isZero, T.isOne]))
  | .one, B, _, _, _, _, _, _, _, hA, hB => (by cases B <;> simpa [bothT, T.isZero, T.isOne] using both_step (UL := .zero) (UR := .zero) hA hB (by decide) (by decide) (by decide) (by simp [T.isZero, T.isOne]) (by simp [T.isZero, T.isOne]))
  | .node l r, .zero, _, _, _, _, _, _, _, hA, hB => (by simpa [bothT, T.isZero, T.isOne] using both_step (UL := .zero) (UR := .zero) hA hB (by decide) (by decide) (by decide) (by simp [T.isZero, T.isOne]) (by simp [T.isZero, T.isOne]))
  | .node l r, .one, _, _, _, _, _, _, _, hA, hB => (by simpa [bothT, T.isZero, T.isOne] using both_step (UL := .zero) (UR := .zero) hA hB (by decide) (by decide) (by decide) (by simp [T.isZero, T.isOne]) (by simp [T.isZero, T.isOne]))
  | .node l r, .node l' r', _, _, _, _, _, hdA, hdB, hA, hB => by
    have e1 : 1 + max l.depth r.depth ≤ 16 := hdA
    have e2 : 1 + max l'.depth r'.depth ≤ 16 := hdB
    have u1 := both_depth l l'
    have u2 := both_depth r r'
    have u3 := T.mk_depth (bothT l l') (bothT r r')
    have := both_step (UL := bothT l l') (UR := bothT r r') hA hB (by omega) (by omega) (by omega) (fun _ _ _ _ {J} {b1} {b2} {p1} {p2} k1 k2 => both_c l l' (by omega) (by omega) k1 k2) (fun _ _ _ _ {J} {b1} {b2} {p1} {p2} k1 k2 => both_c r r' (by omega) (by omega) k1 k2)
    simpa [bothT, T.isZero, T.isOne] using this
theorem sp0_c (t : T) {I : IM} {b : Bool} {p : Option Addr} (h : TRep I t b p) (hc : cntT t ≤ 100000) (hd : t.depth ≤ 16) : FunM Try.prog 32 #[.slice none 0 0, idv b p, .float .f64 0, .float .f64 4607182418800017408] I [] (fun v J F' => RowH 35 1 v (cntT t) (cxs (spT t 0 16)) F') := by
  have e := sp_c t (a := 0) (k := 16) h (RowH.nil 35 1) (by omega) hd (by decide)
  rw [dF_zero, show dF (2 ^ 16) = 4607182418800017408 from dF_one] at e
  simpa only [Nat.zero_add, List.nil_append] using e

set_option maxHeartbeats 1000000 in
theorem spans_c {I : IM} {t : T} {b : Bool} {p : Option Addr} (h : TRep I t b p) (hc : cntT t ≤ 100000) (hd : t.depth ≤ 16) : FunM Try.prog 10 #[idv b p] I [] (fun v J F' => RowH 35 1 v (cntT t) (cxs (spT t 0 16)) F') := by
  refine enterM_rule 5 [(0, .agg #[.bool b, .pointer p])] Try.func10 rfl (by kernel_rfl) ?_
  intro w s
  refine wp_seq ?_
  refine region_rule ?_
  refine ops_rule (C := []) [] [] 2 [] 1 (fun φ1 => [(2, .slice none 0 0), (1, .pointer (some ⟨(φ1 0), 0, none⟩))]) (fun φ1 => [((φ1 0), .cells #[.bool b, .pointer p] 26)]) (fun φ1 => []) s trivial (fun φ1 => by kernel_rfl) ?_
  intro φ1 w1 s
  refine ops_done (by kernel_rfl) ?_
  refine wp_seq ?_
  refine region_rule ?_
  refine ops_rule (C := []) [((φ1 0), .cells #[.bool b, .pointer p] 26)] [] 1 [.o 0, .o 0] 0 (fun φ2 => [(3, .agg #[.bool b, .pointer p])]) (fun φ2 => [((φ1 0), .cells #[.bool b, .pointer p] 26)]) (fun φ2 => [(φ1 0), (φ1 0)]) s trivial (fun φ2 => by kernel_rfl) ?_
  intro φ2 w2 s
  refine callF_rule (H := [((φ1 0), .cells #[.bool b, .pointer p] 26)]) (F := []) (some 4) s (sp0_c t h (by omega) (by omega)) (by kernel_rfl) ?_
  intro v3 I3 w3 F3 le3 h3 s
  replace h := TRep.mono le3 h
  refine ops_rule (C := []) [((φ1 0), .cells #[.bool b, .pointer p] 26)] F3 1 [] 0 (fun φ4 => [(2, v3)]) (fun φ4 => [((φ1 0), .cells #[.bool b, .pointer p] 26)]) (fun φ4 => []) s trivial (fun φ4 => by kernel_rfl) ?_
  intro φ4 w4 s
  refine ops_done (by kernel_rfl) ?_
  refine wp_ret ?_
  refine ret_rule (C := []) [((φ1 0), .cells #[.bool b, .pointer p] 26)] F3 (v3) [] [] s trivial (by kernel_rfl) ?_
  replace s := s.drop (List.sublist_append_right [((φ1 0), .cells #[.bool b, .pointer p] 26)] F3)
  exact ⟨_, _, _, rfl, s, h3⟩

set_option maxHeartbeats 1000000 in
theorem measure_c {I : IM} {t : T} {b : Bool} {p : Option Addr} (h : TRep I t b p) (hc : cntT t ≤ 100000) (hd : t.depth ≤ 16) : Fun Try.prog 16 #[idv b p] I (fun v J => v = .complex .f64 (dF (widT t 16)) (dF (cntT t * 65536))) := by
  refine enter_rule 20 [(0, .agg #[.bool b, .pointer p])] Try.func16 rfl (by kernel_rfl) ?_
  intro w s
  refine wp_seq ?_
  refine region_rule ?_
  refine ops_rule (C := []) [] [] 2 [] 1 (fun φ1 => [(2, .complex .f64 0 0), (1, .pointer (some ⟨(φ1 0), 0, none⟩))]) (fun φ1 => [((φ1 0), .cells #[.bool b, .pointer p] 26)]) (fun φ1 => []) s trivial (fun φ1 => by kernel_rfl) ?_
  intro φ1 w1 s
  refine ops_done (by kernel_rfl) ?_
  refine wp_seq ?_
  refine region_rule ?_
  refine ops_rule (C := []) [((φ1 0), .cells #[.bool b, .pointer p] 26)] [] 1 [] 0 (fun φ2 => [(3, .complex .f64 0 0)]) (fun φ2 => [((φ1 0), .cells #[.bool b, .pointer p] 26)]) (fun φ2 => []) s trivial (fun φ2 => by kernel_rfl) ?_
  intro φ2 w2 s
  refine ops_done (by kernel_rfl) ?_
  refine wp_seq ?_
  refine wp_seq ?_
  refine region_rule ?_
  refine ops_rule (C := []) [((φ1 0), .cells #[.bool b, .pointer p] 26)] [] 1 [.o 0, .o 0] 0 (fun φ3 => [(6, .agg #[.bool b, .pointer p])]) (fun φ3 => [((φ1 0), .cells #[.bool b, .pointer p] 26)]) (fun φ3 => [(φ1 0), (φ1 0)]) s trivial (fun φ3 => by kernel_rfl) ?_
  intro φ3 w3 s
  refine callF_rule (H := [((φ1 0), .cells #[.bool b, .pointer p] 26)]) (F := []) (some 7) s (spans_c h (by omega) (by omega)) (by kernel_rfl) ?_
  intro v4 I4 w4 F4 le4 h4 s
  obtain ⟨a4, c4, rfl⟩ := row_slice h4
  replace h := TRep.mono le4 h
  refine ops_rule (C := []) [((φ1 0), .cells #[.bool b, .pointer p] 26)] F4 2 [] 0 (fun φ5 => [(9, .int .i64 0), (8, .int .i64 (((cntT t) : Nat) : Int))]) (fun φ5 => [((φ1 0), .cells #[.bool b, .pointer p] 26)]) (fun φ5 => []) s trivial (fun φ5 => by kernel_rfl) ?_
  intro φ5 w5 s
  refine ops_done (by kernel_rfl) ?_
  refine wp_block ?_
  have hL6 : (spT t 0 16).length = cntT t := spT_length t 0 16
  have hW6 := sumW_spT t 0 16
  have hD6 := wid_le 16 hd
  rw [show (2 : Nat) ^ 16 = 65536 from by decide] at hD6
  have h06 : (0 : Nat) = dF 0 := dF_zero.symm
  rw [show (Value.complex .f64 0 0) = .complex .f64 (dF 0) (dF 0) from by rw [dF_zero]]
  have hle7 := IM.Le.refl I4
  refine loop_rule (fun (x : Nat × Nat × Nat) => [(0, .agg #[.bool b, .pointer p]), (1, .pointer (some ⟨(φ1 0), 0, none⟩)), (2, .complex .f64 0 0), (6, .agg #[.bool b, .pointer p]), (7, .slice a4 (cntT t) c4), (8, .int .i64 (((cntT t) : Nat) : Int)), (9, .int .i64 ((x.1 : Nat) : Int)), (3, .complex .f64 (dF x.2.1) (dF x.2.2))]) (fun (x : Nat × Nat × Nat) => [((φ1 0), .cells #[.bool b, .pointer p] 26)] ++ F4) (fun m (x : Nat × Nat × Nat) J => IM.Le I4 J ∧ x.1 + m = cntT t ∧ x.2.1 = sumW ((spT t 0 16).take x.1) ∧ x.2.2 = x.1 * 65536) (cntT t) (0, 0, 0) s (by kernel_rfl) (List.Sublist.refl _) ⟨IM.Le.refl _, Nat.zero_add _, rfl, rfl⟩ ?_
  rintro m8 ⟨i8, a8, q8⟩ I8 w8 ev8 s ⟨le8, hi8_0, hi8_1, hi8_2⟩
  try dsimp only at s hi8_0 hi8_1 hi8_2 ⊢
  replace h := TRep.mono le8 h
  replace hle7 := leMono le8 hle7
  have hs6 := sumW_take_le (spT t 0 16) i8
  have hg6 := sumW_getD_le (spT t 0 16) i8
  refine wp_seq ?_
  refine region_rule ?_
  refine ops_rule (C := []) [((φ1 0), .cells #[.bool b, .pointer p] 26)] F4 1 [] 0 (fun φ9 => [(10, .bool (decide (((i8 : Nat) : Int) < (((cntT t) : Nat) : Int))))]) (fun φ9 => [((φ1 0), .cells #[.bool b, .pointer p] 26)]) (fun φ9 => []) s trivial (fun φ9 => by kernel_rfl) ?_
  intro φ9 w9 s
  rw [nat_lss (a := i8) (b := (cntT t))]
  refine ops_done (by kernel_rfl) ?_
  refine wp_seq ?_
  rcases Bool.eq_false_or_eq_true (decide (i8 < (cntT t))) with hc10 | hc10
  ·
    rw [hc10]
    refine cond_true_rule (b := true) (by kernel_rfl) rfl ?_
    refine wp_skip ?_
    refine wp_seq ?_
    refine wp_block ?_
    refine wp_seq ?_
    refine region_rule ?_
    refine sem_rule (Instr.indexAt 30 (.slice a4 (cntT t) c4) (.int .i64 ((i8 : Nat) : Int))) (some 11) (.pointer (pAt a4 i8)) (by kernel_rfl) (row_idx35 h4 (by have hq0 := of_decide_eq_true hc10; have hL := hL6; have hW := hW6; have hD := hD6; have e1 := hi8_0; have e2 := hi8_1; have e3 := hi8_2; have e4 := hs6; have e5 := hg6; omega)) ?_
    refine sem_rule (Instr.loadAt 35 (.pointer (pAt a4 i8))) (some 12) (.complex .f64 (dF ((List.getD (spT t 0 16) i8 (0, 0)).1)) (dF ((List.getD (spT t 0 16) i8 (0, 0)).2))) (by kernel_rfl) (row_ld35 (H := [((φ1 0), .cells #[.bool b, .pointer p] 26)]) (F := F4) s h4 (by have hq0 := of_decide_eq_true hc10; have hL := hL6; have hW := hW6; have hD := hD6; have e1 := hi8_0; have e2 := hi8_1; have e3 := hi8_2; have e4 := hs6; have e5 := hg6; omega) (cxs_at (by have hq0 := of_decide_eq_true hc10; have hL := hL6; have hW := hW6; have hD := hD6; have e1 := hi8_0; have e2 := hi8_1; have e3 := hi8_2; have e4 := hs6; have e5 := hg6; omega))) ?_
    refine ops_rule (C := []) [((φ1 0), .cells #[.bool b, .pointer p] 26)] F4 1 [] 0 (fun φ11 => [(5, .complex .f64 (dF ((List.getD (spT t 0 16) i8 (0, 0)).1)) (dF ((List.getD (spT t 0 16) i8 (0, 0)).2)))]) (fun φ11 => [((φ1 0), .cells #[.bool b, .pointer p] 26)]) (fun φ11 => []) s trivial (fun φ11 => by kernel_rfl) ?_
    intro φ11 w11 s
    refine ops_done (by kernel_rfl) ?_
    refine region_rule ?_
    refine ops_rule (C := []) [((φ1 0), .cells #[.bool b, .pointer p] 26)] F4 2 [] 0 (fun φ12 => [(14, .complex .f64 (dF ((List.getD (spT t 0 16) i8 (0, 0)).1)) (dF ((List.getD (spT t 0 16) i8 (0, 0)).2))), (13, .complex .f64 (dF a8) (dF q8))]) (fun φ12 => [((φ1 0), .cells #[.bool b, .pointer p] 26)]) (fun φ12 => []) s trivial (fun φ12 => by kernel_rfl) ?_
    intro φ12 w12 s
    refine sem_rule (Builtin.imag_ #[35] 37 #[.complex .f64 (dF ((List.getD (spT t 0 16) i8 (0, 0)).1)) (dF ((List.getD (spT t 0 16) i8 (0, 0)).2))]) (some 15) (.float .f64 (dF ((List.getD (spT t 0 16) i8 (0, 0)).2))) (by kernel_rfl) ((by kernel_rfl : ((Builtin.imag_ #[35] 37 #[.complex .f64 (dF ((List.getD (spT t 0 16) i8 (0, 0)).1)) (dF ((List.getD (spT t 0 16) i8 (0, 0)).2))]) : Sem Value).run Try.prog w12 = .ok (.float .f64 (dF ((List.getD (spT t 0 16) i8 (0, 0)).2))) w12)) ?_
    refine sem_rule (Builtin.complex_ #[37, 37] 35 #[.float .f64 (dF ((List.getD (spT t 0 16) i8 (0, 0)).2)), .float .f64 4607182418800017408]) (some 16) (.complex .f64 (dF ((List.getD (spT t 0 16) i8 (0, 0)).2)) (dF 65536)) (by kernel_rfl) ((run_mkC1)) ?_
    refine sem_rule (binOp .add 35 (.complex .f64 (dF a8) (dF q8)) (.complex .f64 (dF ((List.getD (spT t 0 16) i8 (0, 0)).2)) (dF 65536))) (some 17) (.complex .f64 (dF (a8 + ((List.getD (spT t 0 16) i8 (0, 0)).2))) (dF (q8 + 65536))) (by kernel_rfl) (run_addC (by have hq0 := of_decide_eq_true hc10; have hL := hL6; have hW := hW6; have hD := hD6; have e1 := hi8_0; have e2 := hi8_1; have e3 := hi8_2; have e4 := hs6; have e5 := hg6; omega) (by have hq0 := of_decide_eq_true hc10; have hL := hL6; have hW := hW6; have hD := hD6; have e1 := hi8_0; have e2 := hi8_1; have e3 := hi8_2; have e4 := hs6; have e5 := hg6; omega)) ?_
    refine ops_rule (C := []) [((φ1 0), .cells #[.bool b, .pointer p] 26)] F4 1 [] 0 (fun φ13 => [(3, .complex .f64 (dF (a8 + ((List.getD (spT t 0 16) i8 (0, 0)).2))) (dF (q8 + 65536)))]) (fun φ13 => [((φ1 0), .cells #[.bool b, .pointer p] 26)]) (fun φ13 => []) s trivial (fun φ13 => by kernel_rfl) ?_
    intro φ13 w13 s
    refine ops_done (by kernel_rfl) ?_
    refine region_rule ?_
    refine ops_rule (C := []) [((φ1 0), .cells #[.bool b, .pointer p] 26)] F4 2 [] 0 (fun φ14 => [(9, .int .i64 (IntKind.wrap .i64 (((i8 : Nat) : Int) + ((1 : Nat) : Int)))), (18, .int .i64 (IntKind.wrap .i64 (((i8 : Nat) : Int) + ((1 : Nat) : Int))))]) (fun φ14 => [((φ1 0), .cells #[.bool b, .pointer p] 26)]) (fun φ14 => []) s trivial (fun φ14 => by kernel_rfl) ?_
    intro φ14 w14 s
    rw [nat_addI (a := i8) (b := 1) (by have hq0 := of_decide_eq_true hc10; have hL := hL6; have hW := hW6; have hD := hD6; have e1 := hi8_0; have e2 := hi8_1; have e3 := hi8_2; have e4 := hs6; have e5 := hg6; omega)]
    refine ops_done (by kernel_rfl) ?_
    exact ⟨⟨m8 - 1, (i8 + 1, a8 + (List.getD (spT t 0 16) i8 (0, 0)).2, q8 + 65536), _, _, _, by have hq0 := of_decide_eq_true hc10; have := hi8_0; omega, rfl, s, (List.Sublist.append (List.Sublist.cons₂ _ List.Sublist.slnil) (List.Sublist.refl _)), by kernel_rfl, hle7, by have hq0 := of_decide_eq_true hc10; have := hi8_0; show i8 + 1 + (m8 - 1) = cntT t; omega, by have hq0 := of_decide_eq_true hc10; have h1 := hi8_1; show a8 + (List.getD (spT t 0 16) i8 (0, 0)).2 = _; rw [sumW_take (by omega), h1], by have := hi8_2; show q8 + 65536 = (i8 + 1) * 65536; omega⟩⟩
  ·
    rw [hc10]
    refine cond_false_rule (b := false) (by kernel_rfl) rfl ?_
    refine wp_exit ?_
    refine wp_seq ?_
    refine region_rule ?_
    refine ops_rule (C := []) [((φ1 0), .cells #[.bool b, .pointer p] 26)] F4 2 [] 0 (fun φ15 => [(2, .complex .f64 (dF a8) (dF q8)), (19, .complex .f64 (dF a8) (dF q8))]) (fun φ15 => [((φ1 0), .cells #[.bool b, .pointer p] 26)]) (fun φ15 => []) s trivial (fun φ15 => by kernel_rfl) ?_
    intro φ15 w15 s
    refine ops_done (by kernel_rfl) ?_
    refine wp_ret ?_
    refine ret_rule (C := []) [((φ1 0), .cells #[.bool b, .pointer p] 26)] F4 (.complex .f64 (dF a8) (dF q8)) [] [] s trivial (by kernel_rfl) ?_
    exact ⟨_, _, _, rfl, s, (by have hL := hL6; have hW := hW6; have hD := hD6; have e1 := hi8_0; have e2 := hi8_1; have e3 := hi8_2; have e4 := hs6; have e5 := hg6; have hq0 := of_decide_eq_false hc10; have ei : i8 = cntT t := (by omega); rw [e2, e3, ei, ← hL, List.take_length, hW])⟩

set_option maxHeartbeats 1000000 in
theorem common_c {I : IM} {A B : T} {ba bb : Bool} {pa pb : Option Addr} (hA : TRep I A ba pa) (hB : TRep I B bb pb) (hc : cntT (bothT A B) ≤ 100000) (hd1 : A.depth ≤ 16) (hd2 : B.depth ≤ 16) : Fun Try.prog 17 #[idv ba pa, idv bb pb] I (fun v J => v = .complex .f64 (dF (widT (bothT A B) 16)) (dF (cntT (bothT A B) * 65536))) := by
  have hd := both_depth A B
  refine enter_rule 9 [(0, .agg #[.bool ba, .pointer pa]), (1, .agg #[.bool bb, .pointer pb])] Try.func17 rfl (by kernel_rfl) ?_
  intro w s
  refine wp_seq ?_
  refine region_rule ?_
  refine ops_rule (C := []) [] [] 3 [] 2 (fun φ1 => [(4, .complex .f64 0 0), (3, .pointer (some ⟨(φ1 1), 0, none⟩)), (2, .pointer (some ⟨(φ1 0), 0, none⟩))]) (fun φ1 => [((φ1 0), .cells #[.bool ba, .pointer pa] 26), ((φ1 1), .cells #[.bool bb, .pointer pb] 26)]) (fun φ1 => []) s trivial (fun φ1 => by kernel_rfl) ?_
  intro φ1 w1 s
  refine ops_done (by kernel_rfl) ?_
  refine wp_seq ?_
  refine region_rule ?_
  refine ops_rule (C := []) [((φ1 0), .cells #[.bool ba, .pointer pa] 26), ((φ1 1), .cells #[.bool bb, .pointer pb] 26)] [] 2 [.o 0, .o 0, .o 1, .o 1] 0 (fun φ2 => [(6, .agg #[.bool bb, .pointer pb]), (5, .agg #[.bool ba, .pointer pa])]) (fun φ2 => [((φ1 0), .cells #[.bool ba, .pointer pa] 26), ((φ1 1), .cells #[.bool bb, .pointer pb] 26)]) (fun φ2 => [(φ1 0), (φ1 0), (φ1 1), (φ1 1)]) s trivial (fun φ2 => by kernel_rfl) ?_
  intro φ2 w2 s
  refine call_rule (some 7) s (both_c A B (by omega) (by omega) hA hB) (by kernel_rfl) ?_
  intro v3 I3 w3 le3 h3 s
  replace hA := TRep.mono le3 hA
  replace hB := TRep.mono le3 hB
  obtain ⟨b3, p3, rfl, h3_0⟩ := h3
  refine call_rule (some 8) s (measure_c h3_0 (by omega) (by omega)) (by kernel_rfl) ?_
  intro v4 I4 w4 le4 h4 s
  replace hA := TRep.mono le4 hA
  replace hB := TRep.mono le4 hB
  replace h3_0 := TRep.mono le4 h3_0
  obtain rfl := h4
  refine ops_rule (C := []) [((φ1 0), .cells #[.bool ba, .pointer pa] 26), ((φ1 1), .cells #[.bool bb, .pointer pb] 26)] [] 1 [] 0 (fun φ5 => [(4, .complex .f64 (dF (widT (bothT A B) 16)) (dF (cntT (bothT A B) * 65536)))]) (fun φ5 => [((φ1 0), .cells #[.bool ba, .pointer pa] 26), ((φ1 1), .cells #[.bool bb, .pointer pb] 26)]) (fun φ5 => []) s trivial (fun φ5 => by kernel_rfl) ?_
  intro φ5 w5 s
  refine ops_done (by kernel_rfl) ?_
  refine wp_ret ?_
  refine ret_rule (C := []) [((φ1 0), .cells #[.bool ba, .pointer pa] 26), ((φ1 1), .cells #[.bool bb, .pointer pb] 26)] [] (.complex .f64 (dF (widT (bothT A B) 16)) (dF (cntT (bothT A B) * 65536))) [] [] s trivial (by kernel_rfl) ?_
  exact ⟨_, _, _, rfl, s, rfl⟩

end Go.Proofs.Ytgdickihjaomjaa.Ev
/- share: the document: what two have in common, spans -/
set_option linter.all false
set_option maxRecDepth 100000
namespace Go.Proofs.Ytgdickihjaomjaa.Ev
open Go.RowKit Go.Sep
attribute [local irreducible] Go.wpList Go.Code.wp
theorem addr_addO (b o k : Nat) : (⟨b, o, none⟩ : Addr).add k = ⟨b, o + k, none⟩ := by unfold Addr.add; split <;> simp_all
/-- spans as the document's program holds them -/
def sps (l : List (Nat × Nat)) : List Value := l.flatMap fun s => [.int .u64 ((s.1 : Nat) : Int), .int .u64 ((s.2 : Nat) : Int)]
theorem sps_append (l m : List (Nat × Nat)) : sps (l ++ m) = sps l ++ sps m := List.flatMap_append
theorem sps_length : ∀ l : List (Nat × Nat), (sps l).length = l.length * 2
  | [] => rfl
  | s :: l => by
    have := sps_length l
    have e : sps (s :: l) = [.int .u64 ((s.1 : Nat) : Int), .int .u64 ((s.2 : Nat) : Int)] ++ sps l := rfl
    rw [e, List.length_append, this]; simp only [List.length_cons, List.length_nil]; omega
theorem sps_at : ∀ {L : List (Nat × Nat)} {i : Nat}, i < L.length → (sps L)[i * 2]? = some (.int .u64 (((L.getD i (0, 0)).1 : Nat) : Int)) ∧ (sps L)[i * 2 + 1]? = some (.int .u64 (((L.getD i (0, 0)).2 : Nat) : Int))
  | [], _, h => by cases h
  | s :: L, 0, _ => ⟨rfl, rfl⟩
  | s :: L, i + 1, h => by
    have := sps_at (L := L) (i := i) (by simpa using h)
    have e : sps (s :: L) = [.int .u64 ((s.1 : Nat) : Int), .int .u64 ((s.2 : Nat) : Int)] ++ sps L := rfl
    rw [e, List.getElem?_append_right (by simp only [List.length_cons, List.length_nil]; omega), List.getElem?_append_right (by simp only [List.length_cons, List.length_nil]; omega)]
    simp only [List.length_cons, List.length_nil, List.getD_cons_succ]
    rw [show (i + 1) * 2 - (0 + 1 + 1) = i * 2 by omega, show (i + 1) * 2 + 1 - (0 + 1 + 1) = i * 2 + 1 by omega]
    exact this
theorem sps_one : ∀ (L : List (Nat × Nat)) (u : Value), u ∈ sps L → u.oneCell' = true
  | [], _, h => by cases h
  | s :: L, u, h => by
    have e : sps (s :: L) = [.int .u64 ((s.1 : Nat) : Int), .int .u64 ((s.2 : Nat) : Int)] ++ sps L := rfl
    rw [e, List.mem_append] at h
    rcases h with h | h
    · simp only [List.mem_cons, List.not_mem_nil, or_false] at h
      rcases h with rfl | rfl <;> rfl
    · exact sps_one L u h
/-- v is a slice of these spans, never written -/
def SpS (I : IM) (L : List (Nat × Nat)) (v : Value) : Prop := ∃ a cap, v = .slice a L.length cap ∧ L.length ≤ cap ∧ ∀ (j : Nat) (x : Value), (sps L)[j]? = some x → ∃ (b : Nat) (cs : Array Value) (T : TypeId) (fr : Nat × Nat), a = some ⟨b, 0, none⟩ ∧ I b = some (.cells cs T fr) ∧ cs[j]? = some x
theorem SpS.mono {I J : IM} (le : I.Le J) {L : List (Nat × Nat)} {v : Value} (h : SpS I L v) : SpS J L v := by
  obtain ⟨a, cap, hv, hc, hr⟩ := h
  refine ⟨a, cap, hv, hc, fun j x hj => ?_⟩
  obtain ⟨b, cs, T, fr, h1, h2, h3⟩ := hr j x hj
  exact ⟨b, cs, T, fr, h1, le _ _ h2, h3⟩
theorem under32 : Try.prog.underlying 32 = some (.slice 39) := by kernel_rfl
theorem size39 (w : World) : (sizeOf 39).run Try.prog w = .ok 2 w := by kernel_rfl
theorem sps_idx {I : IM} {w : World} {L : List (Nat × Nat)} {a : Option Addr} {n c i : Nat} (h : SpS I L (.slice a n c)) (hi : i < L.length) :
    (Instr.indexAt 32 (.slice a n c) (.int .i64 ((i : Nat) : Int))).run Try.prog w = .ok (.pointer (pAt a (i * 2))) w := by
  obtain ⟨a', c', hv, hc, hr⟩ := h
  cases hv
  obtain ⟨b, cs, T, fr, rfl, h2, h3⟩ := hr _ _ (sps_at hi).1
  have h2 : (i : Int) < (L.length : Int) := by omega
  simp [Instr.indexAt, asIntOf, run_underlying under32, size39, h2, pAt]
  intro h3; omega
theorem sps_ld {I : IM} {w : World} (hS : I.Sub w) {L : List (Nat × Nat)} {a : Option Addr} {n c i : Nat} (h : SpS I L (.slice a n c)) (hi : i < L.length) :
    (Instr.loadAt 39 (.pointer (pAt a (i * 2)))).run Try.prog w = .ok (.agg #[.int .u64 (((L.getD i (0, 0)).1 : Nat) : Int), .int .u64 (((L.getD i (0, 0)).2 : Nat) : Int)]) w := by
  obtain ⟨a', c', hv, hc, hr⟩ := h
  cases hv
  obtain ⟨b, cs, T, fr, rfl, h2, h3⟩ := hr _ _ (sps_at hi).1
  obtain ⟨b', cs', T', fr', e1, e2, h4⟩ := hr _ _ (sps_at hi).2
  cases e1
  rw [h2] at e2
  cases e2
  rw [show pAt (some ⟨b, 0, none⟩) (i * 2) = some ⟨b, i * 2, none⟩ from pAt_g b (i * 2)]
  have c1 := run_cell (a := ⟨b, i * 2, none⟩) (hS _ _ h2) rfl rfl
  have c2 := run_cell (a := ⟨b, i * 2 + 1, none⟩) (hS _ _ h2) rfl rfl
  rw [h3] at c1
  rw [h4] at c2
  have e : (Instr.loadAt 39 (.pointer (some ⟨b, i * 2, none⟩))).run Try.prog w = ((do pure (.agg (← loadCells ⟨b, i * 2, none⟩ 2))) : Sem Value).run Try.prog w := by kernel_rfl
  have l1 : (load ⟨b, i * 2, none⟩).run Try.prog w = .ok (.int .u64 (((L.getD i (0, 0)).1 : Nat) : Int)) w := by simp only [load, Sem.run, c1]
  have l2 : (load ⟨b, i * 2 + 1, none⟩).run Try.prog w = .ok (.int .u64 (((L.getD i (0, 0)).2 : Nat) : Int)) w := by simp only [load, Sem.run, c2]
  have a1 : (⟨b, i * 2, none⟩ : Addr).add 0 = ⟨b, i * 2, none⟩ := rfl
  have a2 : (⟨b, i * 2, none⟩ : Addr).add 1 = ⟨b, i * 2 + 1, none⟩ := rfl
  rw [e]
  simp only [loadCells, loadCellsFrom, Sem.run_bind, Sem.run_pure, a1, a2, Nat.zero_add, l1, l2, Result.andThen_ok]
  rfl
theorem SpS.cap {I : IM} {L : List (Nat × Nat)} {a : Option Addr} {n c : Nat} (h : SpS I L (.slice a n c)) : n = L.length ∧ L.length ≤ c := by
  obtain ⟨a', c', hv, hc, _⟩ := h
  cases hv; exact ⟨rfl, hc⟩
theorem src_sps {I : IM} {w : World} (hs : I.Sub w) {L : List (Nat × Nat)} {a : Option Addr} {n c : Nat} (h : SpS I L (.slice a n c)) : Src Try.prog 2 32 (.slice a n c) L.length (sps L) w := by
  obtain ⟨a', c', hv, hc, hr⟩ := h
  cases hv
  cases L with
  | nil =>
    cases a with
    | none => exact Src.ofNil w under32 c
    | some x => exact Src.ofSlice w under32 x 0 c [] rfl (fun j u hu => by simp at hu) (fun u hu => by simp at hu)
  | cons y L =>
    obtain ⟨b, cs, T, fr, rfl, _, _⟩ := hr 0 _ rfl
    refine Src.ofSlice w under32 ⟨b, 0, none⟩ _ c _ (sps_length _) (fun j u hu => ?_) (fun u hu => sps_one _ u hu)
    obtain ⟨b', cs', T', fr', e1, e2, e3⟩ := hr j u hu
    cases e1
    rw [addr_addO, run_cell (a := ⟨b, 0 + j, none⟩) (hs _ _ e2) rfl rfl]
    show cs'[0 + j]? = _
    rw [Nat.zero_add]; exact e3
theorem freeze_rowS {w0 : World} {I0 : IM} {m : List Nat} {I : IM} {w : World} {H F : List OB} {L : List (Nat × Nat)} {v : Value} {n : Nat} (s : St w0 I0 m I w (H ++ F)) (h : RowH 39 2 v n (sps L) F) :
    ∃ I', I.Le I' ∧ SpS I' L v ∧ St w0 I0 m I' w H := by
  have hl : L.length = n := by have := h.1; rw [sps_length] at this; omega
  rcases h.2 with ⟨rfl, rfl, rfl⟩ | ⟨g, cap, cur, rfl, rfl, hnc, hcm, hcs, ht⟩
  · have : L = [] := List.eq_nil_of_length_eq_zero hl
    subst this
    exact ⟨I, IM.Le.refl I, ⟨none, 0, rfl, Nat.le_refl _, fun j x h => by cases h⟩, by simpa using s⟩
  · have s2 := (s.perm (H' := (g, .cells cur 39) :: H) (by exact List.perm_append_comm))
    refine ⟨_, IM.le_add (s2.free (g, .cells cur 39) (by simp)) _, ?_, s2.freeze⟩
    refine ⟨some ⟨g, 0, none⟩, cap, congrArg (fun q => Value.slice (some ⟨g, 0, none⟩) q cap) hl.symm, by omega, fun j x hj => ⟨g, cur, 39, (0, 0), rfl, IM.add_self _ _ _, ?_⟩⟩
    rw [← ht, List.getElem?_take] at hj
    split at hj
    · simpa using hj
    · cases hj
def spR (L : List (Nat × Nat)) (v : Value) (J : IM) : Prop := ∃ a c, v = .slice a (List.length L) c ∧ SpS J L (.slice a (List.length L) c)
theorem fun_of_rowS {f : FuncId} {args : Array Value} {I : IM} {n : Nat} {L : List (Nat × Nat)} (h : FunM Try.prog f args I [] (fun v J F => RowH 39 2 v n (sps L) F)) :
    Fun Try.prog f args I (fun v J => spR L v J) := by
  intro w hw
  refine (h w hw (Owns.nil I w)).mono ?_
  rintro en w' ⟨v, I', H', he, s, hr⟩
  obtain ⟨J, le, hb, s2⟩ := freeze_rowS (H := []) s hr
  obtain ⟨a, c, rfl, hc, hb⟩ := hb
  exact ⟨_, J, [], he, s2, a, c, rfl, ⟨a, c, rfl, hc, hb⟩⟩
theorem run_half64 {w : World} {n : Nat} (h : 2 * n < 18446744073709551616) : (binOp .quo 34 (.int .u64 ((2 * n : Nat) : Int)) (.int .u64 2)).run Try.prog w = .ok (.int .u64 ((n : Nat) : Int)) w := by
  have e : (binOp .quo 34 (.int .u64 ((2 * n : Nat) : Int)) (.int .u64 2)).run Try.prog w = .ok (.int .u64 (IntKind.wrap .u64 (Int.tdiv ((2 * n : Nat) : Int) 2))) w := by kernel_rfl
  rw [e]
  have e1 : Int.tdiv ((2 * n : Nat) : Int) 2 = (n : Int) := by rw [Int.tdiv_eq_ediv_of_nonneg (by omega)]; omega
  have e2 : IntKind.wrap .u64 (n : Int) = (n : Int) := by simp only [IntKind.wrap, IntKind.signed, IntKind.bits]; simp; omega
  rw [e1, e2]
theorem run_add64 {w : World} {a b : Nat} (h : a + b < 18446744073709551616) : (binOp .add 34 (.int .u64 ((a : Nat) : Int)) (.int .u64 ((b : Nat) : Int))).run Try.prog w = .ok (.int .u64 ((a + b : Nat) : Int)) w := by
  have e : (binOp .add 34 (.int .u64 ((a : Nat) : Int)) (.int .u64 ((b : Nat) : Int))).run Try.prog w = .ok (.int .u64 (IntKind.wrap .u64 ((a : Int) + (b : Int)))) w := by kernel_rfl
  rw [e]
  have e2 : IntKind.wrap .u64 ((a : Int) + (b : Int)) = ((a + b : Nat) : Int) := by simp only [IntKind.wrap, IntKind.signed, IntKind.bits]; simp; omega
  rw [e2]
theorem row_one39 (g a k : Nat) : RowH 39 2 (.slice (some ⟨g, 0, none⟩) 1 1) 1 (sps [(a, k)]) [(g, .cells #[.int .u64 ((a : Nat) : Int), .int .u64 ((k : Nat) : Int)] 39)] :=
  ⟨rfl, .inr ⟨g, 1, _, rfl, rfl, Nat.le_refl _, by decide, rfl, rfl⟩⟩

set_option maxHeartbeats 1000000 in
theorem rboth_zero_zero {I : IM} {B : T} {k q : Nat} (hx : RT I T.zero k) (hy : RT I B q) : Fun Try.prog 15 #[.pointer (some ⟨k, 0, none⟩), .pointer (some ⟨q, 0, none⟩)] I (fun v J => ∃ k, v = .pointer (some ⟨k, 0, none⟩) ∧ RT J (bothT T.zero B) k) := by
  have hxz : RT _ T.zero k := hx
  skip
  refine enter_rule 49 [(0, .pointer (some ⟨k, 0, none⟩)), (1, .pointer (some ⟨q, 0, none⟩))] Try.func15 rfl (by kernel_rfl) ?_
  intro w s
  refine wp_seq ?_
  refine region_rule ?_
  refine ops_rule (C := []) [] [] 1 [] 0 (fun φ1 => [(4, .pointer none)]) (fun φ1 => []) (fun φ1 => []) s trivial (fun φ1 => by kernel_rfl) ?_
  intro φ1 w1 s
  refine ops_done (by kernel_rfl) ?_
  refine wp_seq ?_
  refine wp_seq ?_
  refine region_rule ?_
  refine ops_rule (C := [(k, .cells #[.int .i64 0, .pointer none, .pointer none] 73)]) [] [] 12 [.c 0] 0 (fun φ2 => [(16, .bool true), (15, undef), (14, undef), (13, undef), (12, undef), (11, undef), (10, .bool true), (9, .bool true), (8, .int .i64 0), (7, .pointer (some ⟨k, 0, none⟩)), (6, .pointer (some ⟨k, 0, none⟩)), (5, .pointer (some ⟨k, 0, none⟩))]) (fun φ2 => []) (fun φ2 => [k]) s ⟨hx, trivial⟩ (fun φ2 => by kernel_rfl) ?_
  intro φ2 w2 s
  refine ops_done (by kernel_rfl) ?_
  refine cond_true_rule (b := true) (by kernel_rfl) rfl ?_
  refine wp_seq ?_
  refine region_rule ?_
  refine call_rule (some 17) s (rzero_c) (by kernel_rfl) ?_
  intro v3 I3 w3 le3 h3 s
  replace hxz := RT.mono le3 hxz
  replace hy := RT.mono le3 hy
  replace hx := le3 _ _ hx
  obtain ⟨k3, rfl, h3_0⟩ := h3
  refine ops_rule (C := []) [] [] 1 [] 0 (fun φ4 => [(4, .pointer (some ⟨k3, 0, none⟩))]) (fun φ4 => []) (fun φ4 => []) s trivial (fun φ4 => by kernel_rfl) ?_
  intro φ4 w4 s
  refine ops_done (by kernel_rfl) ?_
  refine wp_ret ?_
  refine ret_rule (C := []) [] [] (.pointer (some ⟨k3, 0, none⟩)) [] [] s trivial (by kernel_rfl) ?_
  exact ⟨_, _, _, rfl, s, ⟨_, rfl, h3_0⟩⟩

set_option maxHeartbeats 1000000 in
theorem rboth_one_zero {I : IM} {k q : Nat} (hx : RT I T.one k) (hy : RT I T.zero q) : Fun Try.prog 15 #[.pointer (some ⟨k, 0, none⟩), .pointer (some ⟨q, 0, none⟩)] I (fun v J => ∃ k, v = .pointer (some ⟨k, 0, none⟩) ∧ RT J (bothT T.one T.zero) k) := by
  have hxz : RT _ T.one k := hx
  have hyz : RT _ T.zero q := hy
  refine enter_rule 49 [(0, .pointer (some ⟨k, 0, none⟩)), (1, .pointer (some ⟨q, 0, none⟩))] Try.func15 rfl (by kernel_rfl) ?_
  intro w s
  refine wp_seq ?_
  refine region_rule ?_
  refine ops_rule (C := []) [] [] 1 [] 0 (fun φ1 => [(4, .pointer none)]) (fun φ1 => []) (fun φ1 => []) s trivial (fun φ1 => by kernel_rfl) ?_
  intro φ1 w1 s
  refine ops_done (by kernel_rfl) ?_
  refine wp_seq ?_
  refine wp_seq ?_
  refine region_rule ?_
  refine ops_rule (C := [(k, .cells #[.int .i64 1, .pointer none, .pointer none] 73), (q, .cells #[.int .i64 0, .pointer none, .pointer none] 73)]) [] [] 12 [.c 0, .c 1] 0 (fun φ2 => [(16, .bool true), (15, .bool true), (14, .int .i64 0), (13, .pointer (some ⟨q, 0, none⟩)), (12, .pointer (some ⟨q, 0, none⟩)), (11, .pointer (some ⟨q, 0, none⟩)), (10, .bool false), (9, .bool false), (8, .int .i64 1), (7, .pointer (some ⟨k, 0, none⟩)), (6, .pointer (some ⟨k, 0, none⟩)), (5, .pointer (some ⟨k, 0, none⟩))]) (fun φ2 => []) (fun φ2 => [k, q]) s ⟨hx, ⟨hy, trivial⟩⟩ (fun φ2 => by kernel_rfl) ?_
  intro φ2 w2 s
  refine ops_done (by kernel_rfl) ?_
  refine cond_true_rule (b := true) (by kernel_rfl) rfl ?_
  refine wp_seq ?_
  refine region_rule ?_
  refine call_rule (some 17) s (rzero_c) (by kernel_rfl) ?_
  intro v3 I3 w3 le3 h3 s
  replace hxz := RT.mono le3 hxz
  replace hyz := RT.mono le3 hyz
  replace hx := le3 _ _ hx
  replace hy := le3 _ _ hy
  obtain ⟨k3, rfl, h3_0⟩ := h3
  refine ops_rule (C := []) [] [] 1 [] 0 (fun φ4 => [(4, .pointer (some ⟨k3, 0, none⟩))]) (fun φ4 => []) (fun φ4 => []) s trivial (fun φ4 => by kernel_rfl) ?_
  intro φ4 w4 s
  refine ops_done (by kernel_rfl) ?_
  refine wp_ret ?_
  refine ret_rule (C := []) [] [] (.pointer (some ⟨k3, 0, none⟩)) [] [] s trivial (by kernel_rfl) ?_
  exact ⟨_, _, _, rfl, s, ⟨_, rfl, h3_0⟩⟩

set_option maxHeartbeats 1000000 in
theorem rboth_one_one {I : IM} {k q : Nat} (hx : RT I T.one k) (hy : RT I T.one q) : Fun Try.prog 15 #[.pointer (some ⟨k, 0, none⟩), .pointer (some ⟨q, 0, none⟩)] I (fun v J => ∃ k, v = .pointer (some ⟨k, 0, none⟩) ∧ RT J (bothT T.one T.one) k) := by
  have hxz : RT _ T.one k := hx
  have hyz : RT _ T.one q := hy
  refine enter_rule 49 [(0, .pointer (some ⟨k, 0, none⟩)), (1, .pointer (some ⟨q, 0, none⟩))] Try.func15 rfl (by kernel_rfl) ?_
  intro w s
  refine wp_seq ?_
  refine region_rule ?_
  refine ops_rule (C := []) [] [] 1 [] 0 (fun φ1 => [(4, .pointer none)]) (fun φ1 => []) (fun φ1 => []) s trivial (fun φ1 => by kernel_rfl) ?_
  intro φ1 w1 s
  refine ops_done (by kernel_rfl) ?_
  refine wp_seq ?_
  refine wp_seq ?_
  refine region_rule ?_
  refine ops_rule (C := [(k, .cells #[.int .i64 1, .pointer none, .pointer none] 73), (q, .cells #[.int .i64 1, .pointer none, .pointer none] 73)]) [] [] 12 [.c 0, .c 1] 0 (fun φ2 => [(16, .bool false), (15, .bool false), (14, .int .i64 1), (13, .pointer (some ⟨q, 0, none⟩)), (12, .pointer (some ⟨q, 0, none⟩)), (11, .pointer (some ⟨q, 0, none⟩)), (10, .bool false), (9, .bool false), (8, .int .i64 1), (7, .pointer (some ⟨k, 0, none⟩)), (6, .pointer (some ⟨k, 0, none⟩)), (5, .pointer (some ⟨k, 0, none⟩))]) (fun φ2 => []) (fun φ2 => [k, q]) s ⟨hx, ⟨hy, trivial⟩⟩ (fun φ2 => by kernel_rfl) ?_
  intro φ2 w2 s
  refine ops_done (by kernel_rfl) ?_
  refine cond_false_rule (b := false) (by kernel_rfl) rfl ?_
  refine wp_skip ?_
  refine wp_seq ?_
  refine wp_seq ?_
  refine region_rule ?_
  refine ops_rule (C := [(k, .cells #[.int .i64 1, .pointer none, .pointer none] 73)]) [] [] 5 [.c 0] 0 (fun φ3 => [(22, .bool true), (21, .int .i64 1), (20, .pointer (some ⟨k, 0, none⟩)), (19, .pointer (some ⟨k, 0, none⟩)), (18, .pointer (some ⟨k, 0, none⟩))]) (fun φ3 => []) (fun φ3 => [k]) s ⟨hx, trivial⟩ (fun φ3 => by kernel_rfl) ?_
  intro φ3 w3 s
  refine ops_done (by kernel_rfl) ?_
  refine cond_true_rule (b := true) (by kernel_rfl) rfl ?_
  refine wp_seq ?_
  refine region_rule ?_
  refine ops_rule (C := []) [] [] 2 [] 0 (fun φ4 => [(4, .pointer (some ⟨q, 0, none⟩)), (23, .pointer (some ⟨q, 0, none⟩))]) (fun φ4 => []) (fun φ4 => []) s trivial (fun φ4 => by kernel_rfl) ?_
  intro φ4 w4 s
  refine ops_done (by kernel_rfl) ?_
  refine wp_ret ?_
  refine ret_rule (C := []) [] [] (.pointer (some ⟨q, 0, none⟩)) [] [] s trivial (by kernel_rfl) ?_
  exact ⟨_, _, _, rfl, s, ⟨_, rfl, hyz⟩⟩

set_option maxHeartbeats 1000000 in
theorem rboth_one_node {I : IM} {l' r' : T} {k q : Nat} (hx : RT I T.one k) (hy : RT I (T.node l' r') q) : Fun Try.prog 15 #[.pointer (some ⟨k, 0, none⟩), .pointer (some ⟨q, 0, none⟩)] I (fun v J => ∃ k, v = .pointer (some ⟨k, 0, none⟩) ∧ RT J (bothT T.one (T.node l' r')) k) := by
  have hxz : RT _ T.one k := hx
  have hyn := hy
  obtain ⟨ql, qr, hyk, hyl, hyr⟩ := hy
  refine enter_rule 49 [(0, .pointer (some ⟨k, 0, none⟩)), (1, .pointer (some ⟨q, 0, none⟩))] Try.func15 rfl (by kernel_rfl) ?_
  intro w s
  refine wp_seq ?_
  refine region_rule ?_
  refine ops_rule (C := []) [] [] 1 [] 0 (fun φ1 => [(4, .pointer none)]) (fun φ1 => []) (fun φ1 => []) s trivial (fun φ1 => by kernel_rfl) ?_
  intro φ1 w1 s
  refine ops_done (by kernel_rfl) ?_
  refine wp_seq ?_
  refine wp_seq ?_
  refine region_rule ?_
  refine ops_rule (C := [(k, .cells #[.int .i64 1, .pointer none, .pointer none] 73), (q, .cells #[.int .i64 2, .pointer (some ⟨ql, 0, none⟩), .pointer (some ⟨qr, 0, none⟩)] 73)]) [] [] 12 [.c 0, .c 1] 0 (fun φ2 => [(16, .bool false), (15, .bool false), (14, .int .i64 2), (13, .pointer (some ⟨q, 0, none⟩)), (12, .pointer (some ⟨q, 0, none⟩)), (11, .pointer (some ⟨q, 0, none⟩)), (10, .bool false), (9, .bool false), (8, .int .i64 1), (7, .pointer (some ⟨k, 0, none⟩)), (6, .pointer (some ⟨k, 0, none⟩)), (5, .pointer (some ⟨k, 0, none⟩))]) (fun φ2 => []) (fun φ2 => [k, q]) s ⟨hx, ⟨hyk, trivial⟩⟩ (fun φ2 => by kernel_rfl) ?_
  intro φ2 w2 s
  refine ops_done (by kernel_rfl) ?_
  refine cond_false_rule (b := false) (by kernel_rfl) rfl ?_
  refine wp_skip ?_
  refine wp_seq ?_
  refine wp_seq ?_
  refine region_rule ?_
  refine ops_rule (C := [(k, .cells #[.int .i64 1, .pointer none, .pointer none] 73)]) [] [] 5 [.c 0] 0 (fun φ3 => [(22, .bool true), (21, .int .i64 1), (20, .pointer (some ⟨k, 0, none⟩)), (19, .pointer (some ⟨k, 0, none⟩)), (18, .pointer (some ⟨k, 0, none⟩))]) (fun φ3 => []) (fun φ3 => [k]) s ⟨hx, trivial⟩ (fun φ3 => by kernel_rfl) ?_
  intro φ3 w3 s
  refine ops_done (by kernel_rfl) ?_
  refine cond_true_rule (b := true) (by kernel_rfl) rfl ?_
  refine wp_seq ?_
  refine region_rule ?_
  refine ops_rule (C := []) [] [] 2 [] 0 (fun φ4 => [(4, .pointer (some ⟨q, 0, none⟩)), (23, .pointer (some ⟨q, 0, none⟩))]) (fun φ4 => []) (fun φ4 => []) s trivial (fun φ4 => by kernel_rfl) ?_
  intro φ4 w4 s
  refine ops_done (by kernel_rfl) ?_
  refine wp_ret ?_
  refine ret_rule (C := []) [] [] (.pointer (some ⟨q, 0, none⟩)) [] [] s trivial (by kernel_rfl) ?_
  exact ⟨_, _, _, rfl, s, ⟨_, rfl, hyn⟩⟩

set_option maxHeartbeats 1000000 in
theorem rboth_node_zero {I : IM} {l r : T} {k q : Nat} (hx : RT I (T.node l r) k) (hy : RT I T.zero q) : Fun Try.prog 15 #[.pointer (some ⟨k, 0, none⟩), .pointer (some ⟨q, 0, none⟩)] I (fun v J => ∃ k, v = .pointer (some ⟨k, 0, none⟩) ∧ RT J (bothT (T.node l r) T.zero) k) := by
  have hxn := hx
  obtain ⟨kl, kr, hxk, hxl, hxr⟩ := hx
  have hyz : RT _ T.zero q := hy
  refine enter_rule 49 [(0, .pointer (some ⟨k, 0, none⟩)), (1, .pointer (some ⟨q, 0, none⟩))] Try.func15 rfl (by kernel_rfl) ?_
  intro w s
  refine wp_seq ?_
  refine region_rule ?_
  refine ops_rule (C := []) [] [] 1 [] 0 (fun φ1 => [(4, .pointer none)]) (fun φ1 => []) (fun φ1 => []) s trivial (fun φ1 => by kernel_rfl) ?_
  intro φ1 w1 s
  refine ops_done (by kernel_rfl) ?_
  refine wp_seq ?_
  refine wp_seq ?_
  refine region_rule ?_
  refine ops_rule (C := [(k, .cells #[.int .i64 2, .pointer (some ⟨kl, 0, none⟩), .pointer (some ⟨kr, 0, none⟩)] 73), (q, .cells #[.int .i64 0, .pointer none, .pointer none] 73)]) [] [] 12 [.c 0, .c 1] 0 (fun φ2 => [(16, .bool true), (15, .bool true), (14, .int .i64 0), (13, .pointer (some ⟨q, 0, none⟩)), (12, .pointer (some ⟨q, 0, none⟩)), (11, .pointer (some ⟨q, 0, none⟩)), (10, .bool false), (9, .bool false), (8, .int .i64 2), (7, .pointer (some ⟨k, 0, none⟩)), (6, .pointer (some ⟨k, 0, none⟩)), (5, .pointer (some ⟨k, 0, none⟩))]) (fun φ2 => []) (fun φ2 => [k, q]) s ⟨hxk, ⟨hy, trivial⟩⟩ (fun φ2 => by kernel_rfl) ?_
  intro φ2 w2 s
  refine ops_done (by kernel_rfl) ?_
  refine cond_true_rule (b := true) (by kernel_rfl) rfl ?_
  refine wp_seq ?_
  refine region_rule ?_
  refine call_rule (some 17) s (rzero_c) (by kernel_rfl) ?_
  intro v3 I3 w3 le3 h3 s
  replace hxl := RT.mono le3 hxl
  replace hxr := RT.mono le3 hxr
  replace hxn := RT.mono le3 hxn
  replace hyz := RT.mono le3 hyz
  replace hxk := le3 _ _ hxk
  replace hy := le3 _ _ hy
  obtain ⟨k3, rfl, h3_0⟩ := h3
  refine ops_rule (C := []) [] [] 1 [] 0 (fun φ4 => [(4, .pointer (some ⟨k3, 0, none⟩))]) (fun φ4 => []) (fun φ4 => []) s trivial (fun φ4 => by kernel_rfl) ?_
  intro φ4 w4 s
  refine ops_done (by kernel_rfl) ?_
  refine wp_ret ?_
  refine ret_rule (C := []) [] [] (.pointer (some ⟨k3, 0, none⟩)) [] [] s trivial (by kernel_rfl) ?_
  exact ⟨_, _, _, rfl, s, ⟨_, rfl, h3_0⟩⟩

set_option maxHeartbeats 1000000 in
theorem rboth_node_one {I : IM} {l r : T} {k q : Nat} (hx : RT I (T.node l r) k) (hy : RT I T.one q) : Fun Try.prog 15 #[.pointer (some ⟨k, 0, none⟩), .pointer (some ⟨q, 0, none⟩)] I (fun v J => ∃ k, v = .pointer (some ⟨k, 0, none⟩) ∧ RT J (bothT (T.node l r) T.one) k) := by
  have hxn := hx
  obtain ⟨kl, kr, hxk, hxl, hxr⟩ := hx
  have hyz : RT _ T.one q := hy
  refine enter_rule 49 [(0, .pointer (some ⟨k, 0, none⟩)), (1, .pointer (some ⟨q, 0, none⟩))] Try.func15 rfl (by kernel_rfl) ?_
  intro w s
  refine wp_seq ?_
  refine region_rule ?_
  refine ops_rule (C := []) [] [] 1 [] 0 (fun φ1 => [(4, .pointer none)]) (fun φ1 => []) (fun φ1 => []) s trivial (fun φ1 => by kernel_rfl) ?_
  intro φ1 w1 s
  refine ops_done (by kernel_rfl) ?_
  refine wp_seq ?_
  refine wp_seq ?_
  refine region_rule ?_
  refine ops_rule (C := [(k, .cells #[.int .i64 2, .pointer (some ⟨kl, 0, none⟩), .pointer (some ⟨kr, 0, none⟩)] 73), (q, .cells #[.int .i64 1, .pointer none, .pointer none] 73)]) [] [] 12 [.c 0, .c 1] 0 (fun φ2 => [(16, .bool false), (15, .bool false), (14, .int .i64 1), (13, .pointer (some ⟨q, 0, none⟩)), (12, .pointer (some ⟨q, 0, none⟩)), (11, .pointer (some ⟨q, 0, none⟩)), (10, .bool false), (9, .bool false), (8, .int .i64 2), (7, .pointer (some ⟨k, 0, none⟩)), (6, .pointer (some ⟨k, 0, none⟩)), (5, .pointer (some ⟨k, 0, none⟩))]) (fun φ2 => []) (fun φ2 => [k, q]) s ⟨hxk, ⟨hy, trivial⟩⟩ (fun φ2 => by kernel_rfl) ?_
  intro φ2 w2 s
  refine ops_done (by kernel_rfl) ?_
  refine cond_false_rule (b := false) (by kernel_rfl) rfl ?_
  refine wp_skip ?_
  refine wp_seq ?_
  refine wp_seq ?_
  refine region_rule ?_
  refine ops_rule (C := [(k, .cells #[.int .i64 2, .pointer (some ⟨kl, 0, none⟩), .pointer (some ⟨kr, 0, none⟩)] 73)]) [] [] 5 [.c 0] 0 (fun φ3 => [(22, .bool false), (21, .int .i64 2), (20, .pointer (some ⟨k, 0, none⟩)), (19, .pointer (some ⟨k, 0, none⟩)), (18, .pointer (some ⟨k, 0, none⟩))]) (fun φ3 => []) (fun φ3 => [k]) s ⟨hxk, trivial⟩ (fun φ3 => by kernel_rfl) ?_
  intro φ3 w3 s
  refine ops_done (by kernel_rfl) ?_
  refine cond_false_rule (b := false) (by kernel_rfl) rfl ?_
  refine wp_skip ?_
  refine wp_seq ?_
  refine wp_seq ?_
  refine region_rule ?_
  refine ops_rule (C := [(q, .cells #[.int .i64 1, .pointer none, .pointer none] 73)]) [] [] 5 [.c 0] 0 (fun φ4 => [(28, .bool true), (27, .int .i64 1), (26, .pointer (some ⟨q, 0, none⟩)), (25, .pointer (some ⟨q, 0, none⟩)), (24, .pointer (some ⟨q, 0, none⟩))]) (fun φ4 => []) (fun φ4 => [q]) s ⟨hy, trivial⟩ (fun φ4 => by kernel_rfl) ?_
  intro φ4 w4 s
  refine ops_done (by kernel_rfl) ?_
  refine cond_true_rule (b := true) (by kernel_rfl) rfl ?_
  refine wp_seq ?_
  refine region_rule ?_
  refine ops_rule (C := []) [] [] 2 [] 0 (fun φ5 => [(4, .pointer (some ⟨k, 0, none⟩)), (29, .pointer (some ⟨k, 0, none⟩))]) (fun φ5 => []) (fun φ5 => []) s trivial (fun φ5 => by kernel_rfl) ?_
  intro φ5 w5 s
  refine ops_done (by kernel_rfl) ?_
  refine wp_ret ?_
  refine ret_rule (C := []) [] [] (.pointer (some ⟨k, 0, none⟩)) [] [] s trivial (by kernel_rfl) ?_
  exact ⟨_, _, _, rfl, s, ⟨_, rfl, hxn⟩⟩

set_option maxHeartbeats 1000000 in
theorem rboth_node_node {I : IM} {l r : T} {l' r' : T} {k q : Nat} (hx : RT I (T.node l r) k) (hy : RT I (T.node l' r') q) (ihl : ∀ {J : IM} {k1 k2 : Nat}, RT J l k1 → RT J l' k2 → Fun Try.prog 15 #[.pointer (some ⟨k1, 0, none⟩), .pointer (some ⟨k2, 0, none⟩)] J (fun v J => ∃ k, v = .pointer (some ⟨k, 0, none⟩) ∧ RT J (bothT l l') k)) (ihr : ∀ {J : IM} {k1 k2 : Nat}, RT J r k1 → RT J r' k2 → Fun Try.prog 15 #[.pointer (some ⟨k1, 0, none⟩), .pointer (some ⟨k2, 0, none⟩)] J (fun v J => ∃ k, v = .pointer (some ⟨k, 0, none⟩) ∧ RT J (bothT r r') k)) : Fun Try.prog 15 #[.pointer (some ⟨k, 0, none⟩), .pointer (some ⟨q, 0, none⟩)] I (fun v J => ∃ k, v = .pointer (some ⟨k, 0, none⟩) ∧ RT J (bothT (T.node l r) (T.node l' r')) k) := by
  have hxn := hx
  obtain ⟨kl, kr, hxk, hxl, hxr⟩ := hx
  have hyn := hy
  obtain ⟨ql, qr, hyk, hyl, hyr⟩ := hy
  refine enter_rule 49 [(0, .pointer (some ⟨k, 0, none⟩)), (1, .pointer (some ⟨q, 0, none⟩))] Try.func15 rfl (by kernel_rfl) ?_
  intro w s
  refine wp_seq ?_
  refine region_rule ?_
  refine ops_rule (C := []) [] [] 1 [] 0 (fun φ1 => [(4, .pointer none)]) (fun φ1 => []) (fun φ1 => []) s trivial (fun φ1 => by kernel_rfl) ?_
  intro φ1 w1 s
  refine ops_done (by kernel_rfl) ?_
  refine wp_seq ?_
  refine wp_seq ?_
  refine region_rule ?_
  refine ops_rule (C := [(k, .cells #[.int .i64 2, .pointer (some ⟨kl, 0, none⟩), .pointer (some ⟨kr, 0, none⟩)] 73), (q, .cells #[.int .i64 2, .pointer (some ⟨ql, 0, none⟩), .pointer (some ⟨qr, 0, none⟩)] 73)]) [] [] 12 [.c 0, .c 1] 0 (fun φ2 => [(16, .bool false), (15, .bool false), (14, .int .i64 2), (13, .pointer (some ⟨q, 0, none⟩)), (12, .pointer (some ⟨q, 0, none⟩)), (11, .pointer (some ⟨q, 0, none⟩)), (10, .bool false), (9, .bool false), (8, .int .i64 2), (7, .pointer (some ⟨k, 0, none⟩)), (6, .pointer (some ⟨k, 0, none⟩)), (5, .pointer (some ⟨k, 0, none⟩))]) (fun φ2 => []) (fun φ2 => [k, q]) s ⟨hxk, ⟨hyk, trivial⟩⟩ (fun φ2 => by kernel_rfl) ?_
  intro φ2 w2 s
  refine ops_done (by kernel_rfl) ?_
  refine cond_false_rule (b := false) (by kernel_rfl) rfl ?_
  refine wp_skip ?_
  refine wp_seq ?_
  refine wp_seq ?_
  refine region_rule ?_
  refine ops_rule (C := [(k, .cells #[.int .i64 2, .pointer (some ⟨kl, 0, none⟩), .pointer (some ⟨kr, 0, none⟩)] 73)]) [] [] 5 [.c 0] 0 (fun φ3 => [(22, .bool false), (21, .int .i64 2), (20, .pointer (some ⟨k, 0, none⟩)), (19, .pointer (some ⟨k, 0, none⟩)), (18, .pointer (some ⟨k, 0, none⟩))]) (fun φ3 => []) (fun φ3 => [k]) s ⟨hxk, trivial⟩ (fun φ3 => by kernel_rfl) ?_
  intro φ3 w3 s
  refine ops_done (by kernel_rfl) ?_
  refine cond_false_rule (b := false) (by kernel_rfl) rfl ?_
  refine wp_skip ?_
  refine wp_seq ?_
  refine wp_seq ?_
  refine region_rule ?_
  refine ops_rule (C := [(q, .cells #[.int .i64 2, .pointer (some ⟨ql, 0, none⟩), .pointer (some ⟨qr, 0, none⟩)] 73)]) [] [] 5 [.c 0] 0 (fun φ4 => [(28, .bool false), (27, .int .i64 2), (26, .pointer (some ⟨q, 0, none⟩)), (25, .pointer (some ⟨q, 0, none⟩)), (24, .pointer (some ⟨q, 0, none⟩))]) (fun φ4 => []) (fun φ4 => [q]) s ⟨hyk, trivial⟩ (fun φ4 => by kernel_rfl) ?_
  intro φ4 w4 s
  refine ops_done (by kernel_rfl) ?_
  refine cond_false_rule (b := false) (by kernel_rfl) rfl ?_
  refine wp_skip ?_
  refine wp_seq ?_
  refine draw_rule (C := [(k, .cells #[.int .i64 2, .pointer (some ⟨kl, 0, none⟩), .pointer (some ⟨kr, 0, none⟩)] 73), (q, .cells #[.int .i64 2, .pointer (some ⟨ql, 0, none⟩), .pointer (some ⟨qr, 0, none⟩)] 73)]) ⟨(fun φ5 xs5 => [.look 0 [] [], .look 0 [] [], .look 0 [] [], .look 0 [.c 0] [k], .look 0 [] [], .look 0 [] [], .look 0 [] [], .look 0 [.c 1] [q], .call 15 #[.pointer (some ⟨kl, 0, none⟩), .pointer (some ⟨ql, 0, none⟩)], .look 0 [] [], .look 0 [] [], .look 0 [] [], .look 0 [.c 0] [k], .look 0 [] [], .look 0 [] [], .look 0 [] [], .look 0 [.c 1] [q], .call 15 #[.pointer (some ⟨kr, 0, none⟩), .pointer (some ⟨qr, 0, none⟩)], .call 38 #[.pointer (some ⟨(xs5 8).n 0, 0, none⟩), .pointer (some ⟨(xs5 17).n 0, 0, none⟩)], .look 0 [] []]), (fun φ5 xs5 => [.pointer (some ⟨k, 0, none⟩), .pointer (some ⟨k, 0, none⟩), .pointer (some ⟨k, 1, none⟩), .pointer (some ⟨kl, 0, none⟩), .pointer (some ⟨q, 0, none⟩), .pointer (some ⟨q, 0, none⟩), .pointer (some ⟨q, 1, none⟩), .pointer (some ⟨ql, 0, none⟩), .pointer (some ⟨(xs5 8).n 0, 0, none⟩), .pointer (some ⟨k, 0, none⟩), .pointer (some ⟨k, 0, none⟩), .pointer (some ⟨k, 2, none⟩), .pointer (some ⟨kr, 0, none⟩), .pointer (some ⟨q, 0, none⟩), .pointer (some ⟨q, 0, none⟩), .pointer (some ⟨q, 2, none⟩), .pointer (some ⟨qr, 0, none⟩), .pointer (some ⟨(xs5 17).n 0, 0, none⟩), .pointer (some ⟨(xs5 18).n 0, 0, none⟩), .pointer (some ⟨(xs5 18).n 0, 0, none⟩)]), (fun φ5 xs5 => [[]]), (fun φ5 xs5 => [[default, default, default, default, default, default, default, default, default, default, default, default, default, default, default, default, default, default, default, default]]), [], [1, 1, 1, 1, 1, 1, 1, 1, 3, 1, 1, 1, 1, 1, 1, 1, 1, 3, 3, 1]⟩ (fun j => ([MP.any, MP.any, MP.any, MP.any, MP.any, MP.any, MP.any, MP.any, ⟨fun x J => RT J (bothT l l') (x.n 0), fun le h => RT.mono le h⟩, MP.any, MP.any, MP.any, MP.any, MP.any, MP.any, MP.any, MP.any, ⟨fun x J => RT J (bothT r r') (x.n 0), fun le h => RT.mono le h⟩, ⟨fun x J => RT J (T.mk (bothT l l') (bothT r r')) (x.n 0), fun le h => RT.mono le h⟩, MP.any] : List MP).getD j MP.any) [8, 17, 18] [] [] (fun φ5 xs5 => []) (fun φ5 xs5 => [(30, .pointer (some ⟨k, 0, none⟩)), (31, .pointer (some ⟨k, 0, none⟩)), (32, .pointer (some ⟨k, 1, none⟩)), (33, .pointer (some ⟨kl, 0, none⟩)), (34, .pointer (some ⟨q, 0, none⟩)), (35, .pointer (some ⟨q, 0, none⟩)), (36, .pointer (some ⟨q, 1, none⟩)), (37, .pointer (some ⟨ql, 0, none⟩)), (38, .pointer (some ⟨(xs5 8).n 0, 0, none⟩)), (39, .pointer (some ⟨k, 0, none⟩)), (40, .pointer (some ⟨k, 0, none⟩)), (41, .pointer (some ⟨k, 2, none⟩)), (42, .pointer (some ⟨kr, 0, none⟩)), (43, .pointer (some ⟨q, 0, none⟩)), (44, .pointer (some ⟨q, 0, none⟩)), (45, .pointer (some ⟨q, 2, none⟩)), (46, .pointer (some ⟨qr, 0, none⟩)), (47, .pointer (some ⟨(xs5 17).n 0, 0, none⟩)), (48, .pointer (some ⟨(xs5 18).n 0, 0, none⟩)), (4, .pointer (some ⟨(xs5 18).n 0, 0, none⟩))]) (fun φ5 xs5 => []) s ⟨hxk, ⟨hyk, trivial⟩⟩ (by kernel_rfl) (by kernel_rfl) (fun _ _ => by kernel_rfl) (fun _ _ => by kernel_rfl) ⟨fun _ _ => by kernel_rfl, fun _ _ => by kernel_rfl, fun _ _ => by kernel_rfl, fun _ _ => by kernel_rfl⟩ (fun _ _ _ => by kernel_rfl) (fun _ _ => by kernel_rfl) (fun _ _ => by kernel_rfl) (fun _ _ => by kernel_rfl) (fun _ _ => by kernel_rfl) (fun _ _ => by kernel_rfl) trivial trivial (by kernel_rfl) ⟨?c5_8, ?c5_17, ?c5_18, trivial⟩ ?k5
  case c5_8 =>
    refine kcast (A := ∀ (φ5 : Nat → Nat) (xs5 : Xs) (J8_5 : IM), I.Le J8_5 → Fun Try.prog 15 #[.pointer (some ⟨kl, 0, none⟩), .pointer (some ⟨ql, 0, none⟩)] J8_5 (fun v J' => ∃ x : UX, v = .pointer (some ⟨x.n 0, 0, none⟩) ∧ (RT J' (bothT l l') (x.n 0)))) (by kernel_rfl) ?_
    intro φ5 xs5 J8_5 leJ
    have hxl := RT.mono leJ hxl
    have hyl := RT.mono leJ hyl
    exact Fun.mono (ihl hxl hyl) (fun v J' _ ⟨y0, hv, g0⟩ => ⟨{ UX.d with n := fun j => y0 }, hv, g0⟩)
  case c5_17 =>
    refine kcast (A := ∀ (φ5 : Nat → Nat) (xs5 : Xs) (J17_5 : IM), I.Le J17_5 → (RT J17_5 (bothT l l') ((xs5 8).n 0)) → Fun Try.prog 15 #[.pointer (some ⟨kr, 0, none⟩), .pointer (some ⟨qr, 0, none⟩)] J17_5 (fun v J' => ∃ x : UX, v = .pointer (some ⟨x.n 0, 0, none⟩) ∧ (RT J' (bothT r r') (x.n 0)))) (by kernel_rfl) ?_
    intro φ5 xs5 J17_5 leJ
    rintro h5_8_0
    have hxr := RT.mono leJ hxr
    have hyr := RT.mono leJ hyr
    exact Fun.mono (ihr hxr hyr) (fun v J' _ ⟨y0, hv, g0⟩ => ⟨{ UX.d with n := fun j => y0 }, hv, g0⟩)
  case c5_18 =>
    refine kcast (A := ∀ (φ5 : Nat → Nat) (xs5 : Xs) (J18_5 : IM), I.Le J18_5 → (RT J18_5 (bothT l l') ((xs5 8).n 0)) → (RT J18_5 (bothT r r') ((xs5 17).n 0)) → Fun Try.prog 38 #[.pointer (some ⟨(xs5 8).n 0, 0, none⟩), .pointer (some ⟨(xs5 17).n 0, 0, none⟩)] J18_5 (fun v J' => ∃ x : UX, v = .pointer (some ⟨x.n 0, 0, none⟩) ∧ (RT J' (T.mk (bothT l l') (bothT r r')) (x.n 0)))) (by kernel_rfl) ?_
    intro φ5 xs5 J18_5 leJ
    rintro h5_8_0 h5_17_0
    exact Fun.mono (rpair_c h5_8_0 h5_17_0) (fun v J' _ ⟨y0, hv, g0⟩ => ⟨{ UX.d with n := fun j => y0 }, hv, g0⟩)
  case k5 =>
    rintro φ5 xs5 I5 w5 le5 s h5_8_0 h5_17_0 h5_18_0
    replace hxl := RT.mono le5 hxl
    replace hxr := RT.mono le5 hxr
    replace hxn := RT.mono le5 hxn
    replace hyl := RT.mono le5 hyl
    replace hyr := RT.mono le5 hyr
    replace hyn := RT.mono le5 hyn
    replace hxk := le5 _ _ hxk
    replace hyk := le5 _ _ hyk
    refine wp_ret ?_
    refine ret_rule (C := []) [] [] (.pointer (some ⟨(xs5 18).n 0, 0, none⟩)) [] [] s trivial (by kernel_rfl) ?_
    exact ⟨_, _, _, rfl, s, ⟨_, rfl, h5_18_0⟩⟩

theorem rboth_c : ∀ (A B : T) {I : IM} {k q : Nat}, RT I A k → RT I B q → Fun Try.prog 15 #[.pointer (some ⟨k, 0, none⟩), .pointer (some ⟨q, 0, none⟩)] I (fun v J => ∃ k, v = .pointer (some ⟨k, 0, none⟩) ∧ RT J (bothT A B) k)
  | .zero, B, _, _, _, h1, h2 => rboth_zero_zero h1 h2
  | .one, .zero, _, _, _, h1, h2 => rboth_one_zero h1 h2
  | .one, .one, _, _, _, h1, h2 => rboth_one_one h1 h2
  | .one, .node _ _, _, _, _, h1, h2 => rboth_one_node h1 h2
  | .node _ _, .zero, _, _, _, h1, h2 => rboth_node_zero h1 h2
  | .node _ _, .one, _, _, _, h1, h2 => rboth_node_one h1 h2
  | .node l r, .node l' r', _, _, _, h1, h2 => rboth_node_node h1 h2 (fun a b => rboth_c l l' a b) (fun a b => rboth_c r r' a b)

set_option maxHeartbeats 2000000 in
theorem rs_zero {I : IM} {q a k : Nat} (h : RT I T.zero q) (hc : cntT T.zero ≤ 100000) (ha : a + 2 ^ k ≤ 65536) : FunM Try.prog 11 #[.pointer (some ⟨q, 0, none⟩), .int .u64 ((a : Nat) : Int), .int .u64 ((2 ^ k : Nat) : Int)] I [] (fun v J F' => RowH 39 2 v (cntT T.zero) (sps (spT T.zero a k)) F') := by
  have hz : RT _ T.zero q := h
  refine enterM_rule 41 [(0, .pointer (some ⟨q, 0, none⟩)), (1, .int .u64 ((a : Nat) : Int)), (2, .int .u64 ((2 ^ k : Nat) : Int))] Try.func11 rfl (by kernel_rfl) ?_
  intro w s
  refine wp_seq ?_
  refine region_rule ?_
  refine ops_rule (C := []) [] [] 1 [] 0 (fun φ1 => [(6, .slice none 0 0)]) (fun φ1 => []) (fun φ1 => []) s trivial (fun φ1 => by kernel_rfl) ?_
  intro φ1 w1 s
  refine ops_done (by kernel_rfl) ?_
  refine wp_seq ?_
  refine wp_seq ?_
  refine region_rule ?_
  refine ops_rule (C := [(q, .cells #[.int .i64 0, .pointer none, .pointer none] 73)]) [] [] 5 [.c 0] 0 (fun φ2 => [(11, .bool true), (10, .int .i64 0), (9, .pointer (some ⟨q, 0, none⟩)), (8, .pointer (some ⟨q, 0, none⟩)), (7, .pointer (some ⟨q, 0, none⟩))]) (fun φ2 => []) (fun φ2 => [q]) s ⟨h, trivial⟩ (fun φ2 => by kernel_rfl) ?_
  intro φ2 w2 s
  refine ops_done (by kernel_rfl) ?_
  refine cond_true_rule (b := true) (by kernel_rfl) rfl ?_
  refine wp_seq ?_
  refine region_rule ?_
  refine ops_rule (C := []) [] [] 1 [] 0 (fun φ3 => [(6, .slice none 0 0)]) (fun φ3 => []) (fun φ3 => []) s trivial (fun φ3 => by kernel_rfl) ?_
  intro φ3 w3 s
  refine ops_done (by kernel_rfl) ?_
  refine wp_ret ?_
  refine ret_rule (C := []) [] [] (.slice none 0 0) [] [] s trivial (by kernel_rfl) ?_
  replace s := s.drop (List.sublist_append_right [] [])
  exact ⟨_, _, _, rfl, s, (RowH.nil 39 2)⟩

set_option maxHeartbeats 2000000 in
theorem rs_one {I : IM} {q a k : Nat} (h : RT I T.one q) (hc : cntT T.one ≤ 100000) (ha : a + 2 ^ k ≤ 65536) : FunM Try.prog 11 #[.pointer (some ⟨q, 0, none⟩), .int .u64 ((a : Nat) : Int), .int .u64 ((2 ^ k : Nat) : Int)] I [] (fun v J F' => RowH 39 2 v (cntT T.one) (sps (spT T.one a k)) F') := by
  have hz : RT _ T.one q := h
  refine enterM_rule 41 [(0, .pointer (some ⟨q, 0, none⟩)), (1, .int .u64 ((a : Nat) : Int)), (2, .int .u64 ((2 ^ k : Nat) : Int))] Try.func11 rfl (by kernel_rfl) ?_
  intro w s
  refine wp_seq ?_
  refine region_rule ?_
  refine ops_rule (C := []) [] [] 1 [] 0 (fun φ1 => [(6, .slice none 0 0)]) (fun φ1 => []) (fun φ1 => []) s trivial (fun φ1 => by kernel_rfl) ?_
  intro φ1 w1 s
  refine ops_done (by kernel_rfl) ?_
  refine wp_seq ?_
  refine wp_seq ?_
  refine region_rule ?_
  refine ops_rule (C := [(q, .cells #[.int .i64 1, .pointer none, .pointer none] 73)]) [] [] 5 [.c 0] 0 (fun φ2 => [(11, .bool false), (10, .int .i64 1), (9, .pointer (some ⟨q, 0, none⟩)), (8, .pointer (some ⟨q, 0, none⟩)), (7, .pointer (some ⟨q, 0, none⟩))]) (fun φ2 => []) (fun φ2 => [q]) s ⟨h, trivial⟩ (fun φ2 => by kernel_rfl) ?_
  intro φ2 w2 s
  refine ops_done (by kernel_rfl) ?_
  refine cond_false_rule (b := false) (by kernel_rfl) rfl ?_
  refine wp_skip ?_
  refine wp_seq ?_
  refine wp_seq ?_
  refine region_rule ?_
  refine ops_rule (C := [(q, .cells #[.int .i64 1, .pointer none, .pointer none] 73)]) [] [] 5 [.c 0] 0 (fun φ3 => [(16, .bool true), (15, .int .i64 1), (14, .pointer (some ⟨q, 0, none⟩)), (13, .pointer (some ⟨q, 0, none⟩)), (12, .pointer (some ⟨q, 0, none⟩))]) (fun φ3 => []) (fun φ3 => [q]) s ⟨h, trivial⟩ (fun φ3 => by kernel_rfl) ?_
  intro φ3 w3 s
  refine ops_done (by kernel_rfl) ?_
  refine cond_true_rule (b := true) (by kernel_rfl) rfl ?_
  refine wp_seq ?_
  refine region_rule ?_
  refine ops_rule (C := []) [] [] 5 [] 1 (fun φ4 => [(6, .slice (some ⟨(φ4 0), 0, none⟩) 1 1), (20, .slice (some ⟨(φ4 0), 0, none⟩) 1 1), (19, .agg #[.int .u64 ((a : Nat) : Int), .int .u64 ((2 ^ k : Nat) : Int)]), (18, .int .u64 ((2 ^ k : Nat) : Int)), (17, .int .u64 ((a : Nat) : Int))]) (fun φ4 => [((φ4 0), .cells #[.int .u64 ((a : Nat) : Int), .int .u64 ((2 ^ k : Nat) : Int)] 39)]) (fun φ4 => []) s trivial (fun φ4 => by kernel_rfl) ?_
  intro φ4 w4 s
  refine ops_done (by kernel_rfl) ?_
  refine wp_ret ?_
  refine ret_rule (C := []) [((φ4 0), .cells #[.int .u64 ((a : Nat) : Int), .int .u64 ((2 ^ k : Nat) : Int)] 39)] [] (.slice (some ⟨(φ4 0), 0, none⟩) 1 1) [] [] s trivial (by kernel_rfl) ?_
  replace s := s.drop (List.Sublist.append (List.Sublist.cons₂ _ List.Sublist.slnil) (List.Sublist.refl []))
  exact ⟨_, _, _, rfl, s, row_one39 _ a (2 ^ k)⟩

set_option maxHeartbeats 2000000 in
theorem rs_node {I : IM} {l r : T} {q a k : Nat} (h : RT I (T.node l r) q) (hc : cntT (T.node l r) ≤ 100000) (ha : a + 2 * 2 ^ k ≤ 65536) (ihl : ∀ {I : IM} {q : Nat}, RT I l q → FunM Try.prog 11 #[.pointer (some ⟨q, 0, none⟩), .int .u64 ((a : Nat) : Int), .int .u64 ((2 ^ k : Nat) : Int)] I [] (fun v J F' => RowH 39 2 v (cntT l) (sps (spT l a k)) F')) (ihr : ∀ {I : IM} {q : Nat}, RT I r q → FunM Try.prog 11 #[.pointer (some ⟨q, 0, none⟩), .int .u64 (((a + 2 ^ k) : Nat) : Int), .int .u64 ((2 ^ k : Nat) : Int)] I [] (fun v J F' => RowH 39 2 v (cntT r) (sps (spT r (a + 2 ^ k) k)) F')) : FunM Try.prog 11 #[.pointer (some ⟨q, 0, none⟩), .int .u64 ((a : Nat) : Int), .int .u64 ((2 * 2 ^ k : Nat) : Int)] I [] (fun v J F' => RowH 39 2 v (cntT (T.node l r)) (sps (spT (T.node l r) a (k + 1))) F') := by
  have hn := h
  obtain ⟨ql, qr, hk, hl, hr⟩ := h
  have hc1 : cntT l + cntT r ≤ 100000 := hc
  have hl1 := spT_length l a k
  have hl2 := spT_length r (a + 2 ^ k) k
  refine enterM_rule 41 [(0, .pointer (some ⟨q, 0, none⟩)), (1, .int .u64 ((a : Nat) : Int)), (2, .int .u64 ((2 * 2 ^ k : Nat) : Int))] Try.func11 rfl (by kernel_rfl) ?_
  intro w s
  refine wp_seq ?_
  refine region_rule ?_
  refine ops_rule (C := []) [] [] 1 [] 0 (fun φ1 => [(6, .slice none 0 0)]) (fun φ1 => []) (fun φ1 => []) s trivial (fun φ1 => by kernel_rfl) ?_
  intro φ1 w1 s
  refine ops_done (by kernel_rfl) ?_
  refine wp_seq ?_
  refine wp_seq ?_
  refine region_rule ?_
  refine ops_rule (C := [(q, .cells #[.int .i64 2, .pointer (some ⟨ql, 0, none⟩), .pointer (some ⟨qr, 0, none⟩)] 73)]) [] [] 5 [.c 0] 0 (fun φ2 => [(11, .bool false), (10, .int .i64 2), (9, .pointer (some ⟨q, 0, none⟩)), (8, .pointer (some ⟨q, 0, none⟩)), (7, .pointer (some ⟨q, 0, none⟩))]) (fun φ2 => []) (fun φ2 => [q]) s ⟨hk, trivial⟩ (fun φ2 => by kernel_rfl) ?_
  intro φ2 w2 s
  refine ops_done (by kernel_rfl) ?_
  refine cond_false_rule (b := false) (by kernel_rfl) rfl ?_
  refine wp_skip ?_
  refine wp_seq ?_
  refine wp_seq ?_
  refine region_rule ?_
  refine ops_rule (C := [(q, .cells #[.int .i64 2, .pointer (some ⟨ql, 0, none⟩), .pointer (some ⟨qr, 0, none⟩)] 73)]) [] [] 5 [.c 0] 0 (fun φ3 => [(16, .bool false), (15, .int .i64 2), (14, .pointer (some ⟨q, 0, none⟩)), (13, .pointer (some ⟨q, 0, none⟩)), (12, .pointer (some ⟨q, 0, none⟩))]) (fun φ3 => []) (fun φ3 => [q]) s ⟨hk, trivial⟩ (fun φ3 => by kernel_rfl) ?_
  intro φ3 w3 s
  refine ops_done (by kernel_rfl) ?_
  refine cond_false_rule (b := false) (by kernel_rfl) rfl ?_
  refine wp_skip ?_
  refine wp_seq ?_
  have hH4 := IM.Le.refl I
  refine held_begin (n := 21) (SubS I) (by kernel_rfl) (by kernel_rfl) ?_
  replace s := St.drew s
  refine held_take (fuel := 20) [] [] 0 (.pointer (some ⟨q, 0, none⟩)) (some 21) [] (I := I) trivial (by kernel_rfl) (by kernel_rfl) (by kernel_rfl) (by kernel_rfl) (by kernel_rfl) (fun _ d' _ _ _ h => by cases d' <;> exact h) (by kernel_rfl) (by kernel_rfl) s.sub ?_
  refine held_take (fuel := 19) [] [] 1 (.pointer (some ⟨q, 0, none⟩)) (some 22) [] (I := I) trivial (by kernel_rfl) (by kernel_rfl) (by kernel_rfl) (by kernel_rfl) (by kernel_rfl) (fun _ d' _ _ _ h => by cases d' <;> exact h) (by kernel_rfl) (by kernel_rfl) s.sub ?_
  refine held_take (fuel := 18) [] [] 2 (.pointer (some ⟨q, 1, none⟩)) (some 23) [] (I := I) trivial (by kernel_rfl) (by kernel_rfl) (by kernel_rfl) (by kernel_rfl) (by kernel_rfl) (fun _ d' _ _ _ h => by cases d' <;> exact h) (by kernel_rfl) (by kernel_rfl) s.sub ?_
  refine held_take (fuel := 17) [(q, .cells #[.int .i64 2, .pointer (some ⟨ql, 0, none⟩), .pointer (some ⟨qr, 0, none⟩)] 73)] [.c 0] 3 (.pointer (some ⟨ql, 0, none⟩)) (some 24) [q] (I := I) ⟨hk, trivial⟩ (by kernel_rfl) (by kernel_rfl) (by kernel_rfl) (by kernel_rfl) (by kernel_rfl) (fun _ d' _ _ _ h => by cases d' <;> exact h) (by kernel_rfl) (by kernel_rfl) s.sub ?_
  refine held_take (fuel := 16) [] [] 4 (.int .u64 ((a : Nat) : Int)) (some 25) [] (I := I) trivial (by kernel_rfl) (by kernel_rfl) (by kernel_rfl) (by kernel_rfl) (by kernel_rfl) (fun _ d' _ _ _ h => by cases d' <;> exact h) (by kernel_rfl) (by kernel_rfl) s.sub ?_
  refine held_take (fuel := 15) [] [] 5 (.int .u64 ((2 * 2 ^ k : Nat) : Int)) (some 26) [] (I := I) trivial (by kernel_rfl) (by kernel_rfl) (by kernel_rfl) (by kernel_rfl) (by kernel_rfl) (fun _ d' _ _ _ h => by cases d' <;> exact h) (by kernel_rfl) (by kernel_rfl) s.sub ?_
  refine held_take (fuel := 14) [] [] 8 (.pointer (some ⟨q, 0, none⟩)) (some 29) [] (I := I) trivial (by kernel_rfl) (by kernel_rfl) (by kernel_rfl) (by kernel_rfl) (by kernel_rfl) (fun _ d' _ _ _ h => by cases d' <;> exact h) (by kernel_rfl) (by kernel_rfl) s.sub ?_
  refine held_take (fuel := 13) [] [] 9 (.pointer (some ⟨q, 0, none⟩)) (some 30) [] (I := I) trivial (by kernel_rfl) (by kernel_rfl) (by kernel_rfl) (by kernel_rfl) (by kernel_rfl) (fun _ d' _ _ _ h => by cases d' <;> exact h) (by kernel_rfl) (by kernel_rfl) s.sub ?_
  refine held_take (fuel := 12) [] [] 10 (.pointer (some ⟨q, 2, none⟩)) (some 31) [] (I := I) trivial (by kernel_rfl) (by kernel_rfl) (by kernel_rfl) (by kernel_rfl) (by kernel_rfl) (fun _ d' _ _ _ h => by cases d' <;> exact h) (by kernel_rfl) (by kernel_rfl) s.sub ?_
  refine held_take (fuel := 11) [(q, .cells #[.int .i64 2, .pointer (some ⟨ql, 0, none⟩), .pointer (some ⟨qr, 0, none⟩)] 73)] [.c 0] 11 (.pointer (some ⟨qr, 0, none⟩)) (some 32) [q] (I := I) ⟨hk, trivial⟩ (by kernel_rfl) (by kernel_rfl) (by kernel_rfl) (by kernel_rfl) (by kernel_rfl) (fun _ d' _ _ _ h => by cases d' <;> exact h) (by kernel_rfl) (by kernel_rfl) s.sub ?_
  refine held_take (fuel := 10) [] [] 12 (.int .u64 ((a : Nat) : Int)) (some 33) [] (I := I) trivial (by kernel_rfl) (by kernel_rfl) (by kernel_rfl) (by kernel_rfl) (by kernel_rfl) (fun _ d' _ _ _ h => by cases d' <;> exact h) (by kernel_rfl) (by kernel_rfl) s.sub ?_
  refine held_take (fuel := 9) [] [] 13 (.int .u64 ((2 * 2 ^ k : Nat) : Int)) (some 34) [] (I := I) trivial (by kernel_rfl) (by kernel_rfl) (by kernel_rfl) (by kernel_rfl) (by kernel_rfl) (fun _ d' _ _ _ h => by cases d' <;> exact h) (by kernel_rfl) (by kernel_rfl) s.sub ?_
  refine held_take (fuel := 8) [] [] 16 (.int .u64 ((2 * 2 ^ k : Nat) : Int)) (some 37) [] (I := I) trivial (by kernel_rfl) (by kernel_rfl) (by kernel_rfl) (by kernel_rfl) (by kernel_rfl) (fun _ d' _ _ _ h => by cases d' <;> exact h) (by kernel_rfl) (by kernel_rfl) s.sub ?_
  refine held_ran (fuel := 7) (binOp .quo 34 (.int .u64 ((2 * 2 ^ k : Nat) : Int)) (.int .u64 2)) 6 (.int .u64 ((2 ^ k : Nat) : Int)) (some 27) (I := I) (by kernel_rfl) (by kernel_rfl) (by kernel_rfl) (by kernel_rfl) (by kernel_rfl) (fun _ d' _ _ _ h => by cases d' <;> exact h) (by kernel_rfl) (by kernel_rfl) (fun w' => run_half64 (by   omega)) s.sub ?_
  refine held_ran (fuel := 6) (binOp .quo 34 (.int .u64 ((2 * 2 ^ k : Nat) : Int)) (.int .u64 2)) 14 (.int .u64 ((2 ^ k : Nat) : Int)) (some 35) (I := I) (by kernel_rfl) (by kernel_rfl) (by kernel_rfl) (by kernel_rfl) (by kernel_rfl) (fun _ d' _ _ _ h => by cases d' <;> exact h) (by kernel_rfl) (by kernel_rfl) (fun w' => run_half64 (by   omega)) s.sub ?_
  refine held_ran (fuel := 5) (binOp .add 34 (.int .u64 ((a : Nat) : Int)) (.int .u64 ((2 ^ k : Nat) : Int))) 15 (.int .u64 ((a + 2 ^ k : Nat) : Int)) (some 36) (I := I) (by kernel_rfl) (by kernel_rfl) (by kernel_rfl) (by kernel_rfl) (by kernel_rfl) (fun _ d' _ _ _ h => by cases d' <;> exact h) (by kernel_rfl) (by kernel_rfl) (fun w' => run_add64 (a := a) (b := 2 ^ k) (by   omega)) s.sub ?_
  refine held_ran (fuel := 4) (binOp .quo 34 (.int .u64 ((2 * 2 ^ k : Nat) : Int)) (.int .u64 2)) 17 (.int .u64 ((2 ^ k : Nat) : Int)) (some 38) (I := I) (by kernel_rfl) (by kernel_rfl) (by kernel_rfl) (by kernel_rfl) (by kernel_rfl) (fun _ d' _ _ _ h => by cases d' <;> exact h) (by kernel_rfl) (by kernel_rfl) (fun w' => run_half64 (by   omega)) s.sub ?_
  refine held_one (fuel := 3) 7 (by kernel_rfl) (by kernel_rfl) ?_
  refine callF_rule (H := []) (F := []) (some 28) s (ihl hl) (by kernel_rfl) ?_
  intro v5 I5 w5 F5 le5 h5 s
  obtain ⟨a5, c5, rfl⟩ := row_slice h5
  replace hl := RT.mono le5 hl
  replace hr := RT.mono le5 hr
  replace hn := RT.mono le5 hn
  replace hH4 := leMono le5 hH4
  replace hk := le5 _ _ hk
  refine ops_done (by kernel_rfl) ?_
  refine held_next s hH4 ?_
  refine held_one (fuel := 2) 18 (by kernel_rfl) (by kernel_rfl) ?_
  refine call_rule (some 39) s (fun_of_rowS (ihr hr)) (by kernel_rfl) ?_
  intro v6 I6 w6 le6 h6 s
  replace hl := RT.mono le6 hl
  replace hr := RT.mono le6 hr
  replace hn := RT.mono le6 hn
  replace hH4 := leMono le6 hH4
  replace hk := le6 _ _ hk
  obtain ⟨a6, c6, rfl, h6_0⟩ := h6
  refine ops_done (by kernel_rfl) ?_
  refine held_next s hH4 ?_
  refine held_one (fuel := 1) 19 (by kernel_rfl) (by kernel_rfl) ?_
  refine append_rule (H := []) (F := F5) 32 32 39 Try.t39 (.agg #[.int .u64 0, .int .u64 0]) 2 16 (some 40) s Try.underlying32 (by kernel_rfl) (by kernel_rfl) (by kernel_rfl) (by kernel_rfl) (by kernel_rfl) (by decide) h5 (src_sps s.sub h6_0) (by simp only [maxLen]; omega) (by omega) (by kernel_rfl) ?_
  intro v7 w7 F7 s h7
  refine ops_done (by kernel_rfl) ?_
  refine held_next s hH4 ?_
  refine held_take (fuel := 0) [] [] 20 (v7) (some 6) [] (I := I) trivial (by kernel_rfl) (by kernel_rfl) (by kernel_rfl) (by kernel_rfl) (by kernel_rfl) (fun _ d' _ _ _ h => by cases d' <;> exact h) (by kernel_rfl) (by kernel_rfl) (fun k o hk => s.sub k o (hH4 k o hk)) ?_
  refine Go.wpAnyH_done (by kernel_rfl) ?_ _
  refine wp_ret ?_
  refine ret_rule (C := []) [] F7 (v7) [] [] s trivial (by kernel_rfl) ?_
  replace s := s.drop (List.sublist_append_right [] F7)
  exact ⟨_, _, _, rfl, s, (by have e := h7; simp only [spT_length] at e; simp only [spT, cntT, sps_append, Nat.add_sub_cancel] at e ⊢; exact e)⟩

theorem rs_c : ∀ (t : T) {I : IM} {q a k : Nat}, RT I t q → cntT t ≤ 100000 → t.depth ≤ k → a + 2 ^ k ≤ 65536 →
    FunM Try.prog 11 #[.pointer (some ⟨q, 0, none⟩), .int .u64 ((a : Nat) : Int), .int .u64 ((2 ^ k : Nat) : Int)] I [] (fun v J F' => RowH 39 2 v (cntT t) (sps (spT t a k)) F')
  | .zero, _, _, _, _, h, hc, hd, ha => rs_zero h hc ha
  | .one, _, _, _, _, h, hc, hd, ha => rs_one h hc ha
  | .node l r, _, _, _, 0, h, hc, hd, ha => by simp only [T.depth] at hd; omega
  | .node l r, _, _, a, k + 1, h, hc, hd, ha => by
    simp only [T.depth] at hd
    simp only [cntT] at hc
    rw [Nat.pow_succ'] at ha ⊢
    exact rs_node h hc ha (fun h1 => rs_c l h1 (by omega) (by omega) (by omega)) (fun h1 => rs_c r h1 (by omega) (by omega) (by omega))
theorem rs0_c (t : T) {I : IM} {q : Nat} (h : RT I t q) (hc : cntT t ≤ 100000) (hd : t.depth ≤ 16) : Fun Try.prog 11 #[.pointer (some ⟨q, 0, none⟩), .int .u64 0, .int .u64 65536] I (fun v J => spR (spT t 0 16) v J) :=
  fun_of_rowS (rs_c t (a := 0) (k := 16) h hc hd (by decide))

end Go.Proofs.Ytgdickihjaomjaa.Ev
