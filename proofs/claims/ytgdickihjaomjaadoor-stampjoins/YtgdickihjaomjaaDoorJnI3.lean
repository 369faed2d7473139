/- The program's ids: union, Sum, Pair, Text. -/
import Derived.Test.YtgdickihjaomjaaDoorJnI2
set_option linter.all false
set_option maxRecDepth 100000
namespace Go.Proofs.YtgdickihjaomjaaDoor
open Go.RowKit Go.Sep

set_option maxHeartbeats 1000000 in
theorem union_step {I : IM} {A B : T} {ba bb : Bool} {pa pb : Option Addr} (hA : TRep I A ba pa) (hB : TRep I B bb pb) {UL UR : T} (hd1 : UL.depth ≤ 1000) (hd2 : UR.depth ≤ 1000) (ihl : A.isZero = false → B.isOne = false → B.isZero = false → A.isOne = false → ∀ {J : IM} {b1 b2 : Bool} {p1 p2 : Option Addr}, TRep J A.left b1 p1 → TRep J B.left b2 p2 → Fun Tryd.prog 117 #[idv b1 p1, idv b2 p2] J (fun v J => ∃ b p, v = idv b p ∧ TRep J UL b p)) (ihr : A.isZero = false → B.isOne = false → B.isZero = false → A.isOne = false → ∀ {J : IM} {b1 b2 : Bool} {p1 p2 : Option Addr}, TRep J A.right b1 p1 → TRep J B.right b2 p2 → Fun Tryd.prog 117 #[idv b1 p1, idv b2 p2] J (fun v J => ∃ b p, v = idv b p ∧ TRep J UR b p)) : Fun Tryd.prog 117 #[idv ba pa, idv bb pb] I (fun v J => ∃ b p, v = idv b p ∧ TRep J (if A.isZero = true then B else if B.isOne = true then B else if B.isZero = true then A else if A.isOne = true then A else T.mk UL UR) b p) := by
  refine enter_rule 30 [(0, .agg #[.bool ba, .pointer pa]), (1, .agg #[.bool bb, .pointer pb])] Tryd.func117 rfl (by kernel_rfl) ?_
  intro w s
  refine wp_seq ?_
  refine region_rule ?_
  refine ops_rule (C := []) [] [] 3 [] 3 (fun φ1 => [(4, .pointer (some ⟨(φ1 2), 0, none⟩)), (3, .pointer (some ⟨(φ1 1), 0, none⟩)), (2, .pointer (some ⟨(φ1 0), 0, none⟩))]) (fun φ1 => [((φ1 0), .cells #[.bool ba, .pointer pa] 62), ((φ1 1), .cells #[.bool bb, .pointer pb] 62), ((φ1 2), .cells #[.bool false, .pointer none] 62)]) (fun φ1 => []) s trivial (fun φ1 => by kernel_rfl) ?_
  intro φ1 w1 s
  refine ops_done (by kernel_rfl) ?_
  refine wp_seq ?_
  refine wp_seq ?_
  refine region_rule ?_
  refine ops_rule (C := []) [((φ1 0), .cells #[.bool ba, .pointer pa] 62), ((φ1 1), .cells #[.bool bb, .pointer pb] 62), ((φ1 2), .cells #[.bool false, .pointer none] 62)] [] 1 [.o 0, .o 0] 0 (fun φ2 => [(5, .agg #[.bool ba, .pointer pa])]) (fun φ2 => [((φ1 0), .cells #[.bool ba, .pointer pa] 62), ((φ1 1), .cells #[.bool bb, .pointer pb] 62), ((φ1 2), .cells #[.bool false, .pointer none] 62)]) (fun φ2 => [(φ1 0), (φ1 0)]) s trivial (fun φ2 => by kernel_rfl) ?_
  intro φ2 w2 s
  refine call_rule (some 6) s (isZero_c hA) (by kernel_rfl) ?_
  intro v3 I3 w3 le3 h3 s
  replace hA := TRep.mono le3 hA
  replace hB := TRep.mono le3 hB
  obtain rfl := h3
  refine ops_rule (C := []) [((φ1 0), .cells #[.bool ba, .pointer pa] 62), ((φ1 1), .cells #[.bool bb, .pointer pb] 62), ((φ1 2), .cells #[.bool false, .pointer none] 62)] [] 1 [] 0 (fun φ4 => [(7, .bool (T.isZero A))]) (fun φ4 => [((φ1 0), .cells #[.bool ba, .pointer pa] 62), ((φ1 1), .cells #[.bool bb, .pointer pb] 62), ((φ1 2), .cells #[.bool false, .pointer none] 62)]) (fun φ4 => []) s trivial (fun φ4 => by kernel_rfl) ?_
  intro φ4 w4 s
  rcases Bool.eq_false_or_eq_true (T.isZero A) with hc5 | hc5
  ·
    rw [hc5]
    refine ops_rule (C := []) [((φ1 0), .cells #[.bool ba, .pointer pa] 62), ((φ1 1), .cells #[.bool bb, .pointer pb] 62), ((φ1 2), .cells #[.bool false, .pointer none] 62)] [] 3 [] 0 (fun φ6 => [(10, .bool true), (9, undef), (8, undef)]) (fun φ6 => [((φ1 0), .cells #[.bool ba, .pointer pa] 62), ((φ1 1), .cells #[.bool bb, .pointer pb] 62), ((φ1 2), .cells #[.bool false, .pointer none] 62)]) (fun φ6 => []) s trivial (fun φ6 => by kernel_rfl) ?_
    intro φ6 w6 s
    refine ops_done (by kernel_rfl) ?_
    refine cond_true_rule (b := true) (by kernel_rfl) rfl ?_
    refine wp_seq ?_
    refine region_rule ?_
    refine ops_rule (C := []) [((φ1 0), .cells #[.bool ba, .pointer pa] 62), ((φ1 1), .cells #[.bool bb, .pointer pb] 62), ((φ1 2), .cells #[.bool false, .pointer none] 62)] [] 2 [.o 1, .o 1, .o 2, .o 2] 0 (fun φ7 => [(11, .agg #[.bool bb, .pointer pb])]) (fun φ7 => [((φ1 0), .cells #[.bool ba, .pointer pa] 62), ((φ1 1), .cells #[.bool bb, .pointer pb] 62), ((φ1 2), .cells #[.bool bb, .pointer pb] 62)]) (fun φ7 => [(φ1 1), (φ1 1), (φ1 2), (φ1 2)]) s trivial (fun φ7 => by kernel_rfl) ?_
    intro φ7 w7 s
    refine ops_done (by kernel_rfl) ?_
    refine wp_ret ?_
    refine ret_rule (C := []) [((φ1 0), .cells #[.bool ba, .pointer pa] 62), ((φ1 1), .cells #[.bool bb, .pointer pb] 62), ((φ1 2), .cells #[.bool bb, .pointer pb] 62)] [] (.agg #[.bool bb, .pointer pb]) [.o 2, .o 2] [(φ1 2), (φ1 2)] s trivial (by kernel_rfl) ?_
    simp only [hc5, ↓reduceIte, Bool.false_eq_true]
    exact ⟨_, _, _, rfl, s, ⟨_, _, rfl, hB⟩⟩
  ·
    rw [hc5]
    refine ops_rule (C := []) [((φ1 0), .cells #[.bool ba, .pointer pa] 62), ((φ1 1), .cells #[.bool bb, .pointer pb] 62), ((φ1 2), .cells #[.bool false, .pointer none] 62)] [] 1 [.o 1, .o 1] 0 (fun φ8 => [(8, .agg #[.bool bb, .pointer pb])]) (fun φ8 => [((φ1 0), .cells #[.bool ba, .pointer pa] 62), ((φ1 1), .cells #[.bool bb, .pointer pb] 62), ((φ1 2), .cells #[.bool false, .pointer none] 62)]) (fun φ8 => [(φ1 1), (φ1 1)]) s trivial (fun φ8 => by kernel_rfl) ?_
    intro φ8 w8 s
    refine call_rule (some 9) s (isOne_c hB) (by kernel_rfl) ?_
    intro v9 I9 w9 le9 h9 s
    replace hA := TRep.mono le9 hA
    replace hB := TRep.mono le9 hB
    obtain rfl := h9
    refine ops_rule (C := []) [((φ1 0), .cells #[.bool ba, .pointer pa] 62), ((φ1 1), .cells #[.bool bb, .pointer pb] 62), ((φ1 2), .cells #[.bool false, .pointer none] 62)] [] 1 [] 0 (fun φ10 => [(10, .bool (T.isOne B))]) (fun φ10 => [((φ1 0), .cells #[.bool ba, .pointer pa] 62), ((φ1 1), .cells #[.bool bb, .pointer pb] 62), ((φ1 2), .cells #[.bool false, .pointer none] 62)]) (fun φ10 => []) s trivial (fun φ10 => by kernel_rfl) ?_
    intro φ10 w10 s
    refine ops_done (by kernel_rfl) ?_
    rcases Bool.eq_false_or_eq_true (T.isOne B) with hc11 | hc11
    ·
      rw [hc11]
      refine cond_true_rule (b := true) (by kernel_rfl) rfl ?_
      refine wp_seq ?_
      refine region_rule ?_
      refine ops_rule (C := []) [((φ1 0), .cells #[.bool ba, .pointer pa] 62), ((φ1 1), .cells #[.bool bb, .pointer pb] 62), ((φ1 2), .cells #[.bool false, .pointer none] 62)] [] 2 [.o 1, .o 1, .o 2, .o 2] 0 (fun φ12 => [(11, .agg #[.bool bb, .pointer pb])]) (fun φ12 => [((φ1 0), .cells #[.bool ba, .pointer pa] 62), ((φ1 1), .cells #[.bool bb, .pointer pb] 62), ((φ1 2), .cells #[.bool bb, .pointer pb] 62)]) (fun φ12 => [(φ1 1), (φ1 1), (φ1 2), (φ1 2)]) s trivial (fun φ12 => by kernel_rfl) ?_
      intro φ12 w12 s
      refine ops_done (by kernel_rfl) ?_
      refine wp_ret ?_
      refine ret_rule (C := []) [((φ1 0), .cells #[.bool ba, .pointer pa] 62), ((φ1 1), .cells #[.bool bb, .pointer pb] 62), ((φ1 2), .cells #[.bool bb, .pointer pb] 62)] [] (.agg #[.bool bb, .pointer pb]) [.o 2, .o 2] [(φ1 2), (φ1 2)] s trivial (by kernel_rfl) ?_
      simp only [hc5, hc11, ↓reduceIte, Bool.false_eq_true]
      exact ⟨_, _, _, rfl, s, ⟨_, _, rfl, hB⟩⟩
    ·
      rw [hc11]
      refine cond_false_rule (b := false) (by kernel_rfl) rfl ?_
      refine wp_skip ?_
      refine wp_seq ?_
      refine wp_seq ?_
      refine region_rule ?_
      refine ops_rule (C := []) [((φ1 0), .cells #[.bool ba, .pointer pa] 62), ((φ1 1), .cells #[.bool bb, .pointer pb] 62), ((φ1 2), .cells #[.bool false, .pointer none] 62)] [] 1 [.o 1, .o 1] 0 (fun φ13 => [(12, .agg #[.bool bb, .pointer pb])]) (fun φ13 => [((φ1 0), .cells #[.bool ba, .pointer pa] 62), ((φ1 1), .cells #[.bool bb, .pointer pb] 62), ((φ1 2), .cells #[.bool false, .pointer none] 62)]) (fun φ13 => [(φ1 1), (φ1 1)]) s trivial (fun φ13 => by kernel_rfl) ?_
      intro φ13 w13 s
      refine call_rule (some 13) s (isZero_c hB) (by kernel_rfl) ?_
      intro v14 I14 w14 le14 h14 s
      replace hA := TRep.mono le14 hA
      replace hB := TRep.mono le14 hB
      obtain rfl := h14
      refine ops_rule (C := []) [((φ1 0), .cells #[.bool ba, .pointer pa] 62), ((φ1 1), .cells #[.bool bb, .pointer pb] 62), ((φ1 2), .cells #[.bool false, .pointer none] 62)] [] 1 [] 0 (fun φ15 => [(14, .bool (T.isZero B))]) (fun φ15 => [((φ1 0), .cells #[.bool ba, .pointer pa] 62), ((φ1 1), .cells #[.bool bb, .pointer pb] 62), ((φ1 2), .cells #[.bool false, .pointer none] 62)]) (fun φ15 => []) s trivial (fun φ15 => by kernel_rfl) ?_
      intro φ15 w15 s
      rcases Bool.eq_false_or_eq_true (T.isZero B) with hc16 | hc16
      ·
        rw [hc16]
        refine ops_rule (C := []) [((φ1 0), .cells #[.bool ba, .pointer pa] 62), ((φ1 1), .cells #[.bool bb, .pointer pb] 62), ((φ1 2), .cells #[.bool false, .pointer none] 62)] [] 3 [] 0 (fun φ17 => [(17, .bool true), (16, undef), (15, undef)]) (fun φ17 => [((φ1 0), .cells #[.bool ba, .pointer pa] 62), ((φ1 1), .cells #[.bool bb, .pointer pb] 62), ((φ1 2), .cells #[.bool false, .pointer none] 62)]) (fun φ17 => []) s trivial (fun φ17 => by kernel_rfl) ?_
        intro φ17 w17 s
        refine ops_done (by kernel_rfl) ?_
        refine cond_true_rule (b := true) (by kernel_rfl) rfl ?_
        refine wp_seq ?_
        refine region_rule ?_
        refine ops_rule (C := []) [((φ1 0), .cells #[.bool ba, .pointer pa] 62), ((φ1 1), .cells #[.bool bb, .pointer pb] 62), ((φ1 2), .cells #[.bool false, .pointer none] 62)] [] 2 [.o 0, .o 0, .o 2, .o 2] 0 (fun φ18 => [(18, .agg #[.bool ba, .pointer pa])]) (fun φ18 => [((φ1 0), .cells #[.bool ba, .pointer pa] 62), ((φ1 1), .cells #[.bool bb, .pointer pb] 62), ((φ1 2), .cells #[.bool ba, .pointer pa] 62)]) (fun φ18 => [(φ1 0), (φ1 0), (φ1 2), (φ1 2)]) s trivial (fun φ18 => by kernel_rfl) ?_
        intro φ18 w18 s
        refine ops_done (by kernel_rfl) ?_
        refine wp_ret ?_
        refine ret_rule (C := []) [((φ1 0), .cells #[.bool ba, .pointer pa] 62), ((φ1 1), .cells #[.bool bb, .pointer pb] 62), ((φ1 2), .cells #[.bool ba, .pointer pa] 62)] [] (.agg #[.bool ba, .pointer pa]) [.o 2, .o 2] [(φ1 2), (φ1 2)] s trivial (by kernel_rfl) ?_
        simp only [hc5, hc11, hc16, ↓reduceIte, Bool.false_eq_true]
        exact ⟨_, _, _, rfl, s, ⟨_, _, rfl, hA⟩⟩
      ·
        rw [hc16]
        refine ops_rule (C := []) [((φ1 0), .cells #[.bool ba, .pointer pa] 62), ((φ1 1), .cells #[.bool bb, .pointer pb] 62), ((φ1 2), .cells #[.bool false, .pointer none] 62)] [] 1 [.o 0, .o 0] 0 (fun φ19 => [(15, .agg #[.bool ba, .pointer pa])]) (fun φ19 => [((φ1 0), .cells #[.bool ba, .pointer pa] 62), ((φ1 1), .cells #[.bool bb, .pointer pb] 62), ((φ1 2), .cells #[.bool false, .pointer none] 62)]) (fun φ19 => [(φ1 0), (φ1 0)]) s trivial (fun φ19 => by kernel_rfl) ?_
        intro φ19 w19 s
        refine call_rule (some 16) s (isOne_c hA) (by kernel_rfl) ?_
        intro v20 I20 w20 le20 h20 s
        replace hA := TRep.mono le20 hA
        replace hB := TRep.mono le20 hB
        obtain rfl := h20
        refine ops_rule (C := []) [((φ1 0), .cells #[.bool ba, .pointer pa] 62), ((φ1 1), .cells #[.bool bb, .pointer pb] 62), ((φ1 2), .cells #[.bool false, .pointer none] 62)] [] 1 [] 0 (fun φ21 => [(17, .bool (T.isOne A))]) (fun φ21 => [((φ1 0), .cells #[.bool ba, .pointer pa] 62), ((φ1 1), .cells #[.bool bb, .pointer pb] 62), ((φ1 2), .cells #[.bool false, .pointer none] 62)]) (fun φ21 => []) s trivial (fun φ21 => by kernel_rfl) ?_
        intro φ21 w21 s
        refine ops_done (by kernel_rfl) ?_
        rcases Bool.eq_false_or_eq_true (T.isOne A) with hc22 | hc22
        ·
          rw [hc22]
          refine cond_true_rule (b := true) (by kernel_rfl) rfl ?_
          refine wp_seq ?_
          refine region_rule ?_
          refine ops_rule (C := []) [((φ1 0), .cells #[.bool ba, .pointer pa] 62), ((φ1 1), .cells #[.bool bb, .pointer pb] 62), ((φ1 2), .cells #[.bool false, .pointer none] 62)] [] 2 [.o 0, .o 0, .o 2, .o 2] 0 (fun φ23 => [(18, .agg #[.bool ba, .pointer pa])]) (fun φ23 => [((φ1 0), .cells #[.bool ba, .pointer pa] 62), ((φ1 1), .cells #[.bool bb, .pointer pb] 62), ((φ1 2), .cells #[.bool ba, .pointer pa] 62)]) (fun φ23 => [(φ1 0), (φ1 0), (φ1 2), (φ1 2)]) s trivial (fun φ23 => by kernel_rfl) ?_
          intro φ23 w23 s
          refine ops_done (by kernel_rfl) ?_
          refine wp_ret ?_
          refine ret_rule (C := []) [((φ1 0), .cells #[.bool ba, .pointer pa] 62), ((φ1 1), .cells #[.bool bb, .pointer pb] 62), ((φ1 2), .cells #[.bool ba, .pointer pa] 62)] [] (.agg #[.bool ba, .pointer pa]) [.o 2, .o 2] [(φ1 2), (φ1 2)] s trivial (by kernel_rfl) ?_
          simp only [hc5, hc11, hc16, hc22, ↓reduceIte, Bool.false_eq_true]
          exact ⟨_, _, _, rfl, s, ⟨_, _, rfl, hA⟩⟩
        ·
          rw [hc22]
          refine cond_false_rule (b := false) (by kernel_rfl) rfl ?_
          refine wp_skip ?_
          refine wp_seq ?_
          refine draw_rule (C := []) ⟨(fun φ24 xs24 => [.look 0 [.o 0, .o 0] [(φ1 0), (φ1 0)], .call 92 #[.agg #[.bool ba, .pointer pa]], .look 0 [.o 1, .o 1] [(φ1 1), (φ1 1)], .call 92 #[.agg #[.bool bb, .pointer pb]], .call 117 #[.agg #[.bool ((xs24 1).b 0), .pointer ((xs24 1).p 0)], .agg #[.bool ((xs24 3).b 0), .pointer ((xs24 3).p 0)]], .look 0 [.o 0, .o 0] [(φ1 0), (φ1 0)], .call 93 #[.agg #[.bool ba, .pointer pa]], .look 0 [.o 1, .o 1] [(φ1 1), (φ1 1)], .call 93 #[.agg #[.bool bb, .pointer pb]], .call 117 #[.agg #[.bool ((xs24 6).b 0), .pointer ((xs24 6).p 0)], .agg #[.bool ((xs24 8).b 0), .pointer ((xs24 8).p 0)]], .call 124 #[.agg #[.bool ((xs24 4).b 0), .pointer ((xs24 4).p 0)], .agg #[.bool ((xs24 9).b 0), .pointer ((xs24 9).p 0)]], .store 0 [.o 2, .o 2] [(φ1 2), (φ1 2)]]), (fun φ24 xs24 => [.agg #[.bool ba, .pointer pa], .agg #[.bool ((xs24 1).b 0), .pointer ((xs24 1).p 0)], .agg #[.bool bb, .pointer pb], .agg #[.bool ((xs24 3).b 0), .pointer ((xs24 3).p 0)], .agg #[.bool ((xs24 4).b 0), .pointer ((xs24 4).p 0)], .agg #[.bool ba, .pointer pa], .agg #[.bool ((xs24 6).b 0), .pointer ((xs24 6).p 0)], .agg #[.bool bb, .pointer pb], .agg #[.bool ((xs24 8).b 0), .pointer ((xs24 8).p 0)], .agg #[.bool ((xs24 9).b 0), .pointer ((xs24 9).p 0)], .agg #[.bool ((xs24 10).b 0), .pointer ((xs24 10).p 0)], undef]), (fun φ24 xs24 => [[((φ1 0), .cells #[.bool ba, .pointer pa] 62), ((φ1 1), .cells #[.bool bb, .pointer pb] 62), ((φ1 2), .cells #[.bool false, .pointer none] 62)], [((φ1 0), .cells #[.bool ba, .pointer pa] 62), ((φ1 1), .cells #[.bool bb, .pointer pb] 62), ((φ1 2), .cells #[.bool ((xs24 10).b 0), .pointer ((xs24 10).p 0)] 62)]]), (fun φ24 xs24 => [[default, default, default, default, default, default, default, default, default, default, default, default], [default, default, default, default, default, default, default, default, default, default, default, default]]), [11], [1, 3, 1, 3, 3, 1, 3, 1, 3, 3, 3, 4]⟩ (fun j => ([MP.any, ⟨fun x J => TRep J (T.left A) (x.b 0) (x.p 0), fun le h => TRep.mono le h⟩, MP.any, ⟨fun x J => TRep J (T.left B) (x.b 0) (x.p 0), fun le h => TRep.mono le h⟩, ⟨fun x J => TRep J UL (x.b 0) (x.p 0), fun le h => TRep.mono le h⟩, MP.any, ⟨fun x J => TRep J (T.right A) (x.b 0) (x.p 0), fun le h => TRep.mono le h⟩, MP.any, ⟨fun x J => TRep J (T.right B) (x.b 0) (x.p 0), fun le h => TRep.mono le h⟩, ⟨fun x J => TRep J UR (x.b 0) (x.p 0), fun le h => TRep.mono le h⟩, ⟨fun x J => TRep J (T.mk UL UR) (x.b 0) (x.p 0), fun le h => TRep.mono le h⟩, MP.any] : List MP).getD j MP.any) [1, 3, 4, 6, 8, 9, 10] [] [] (fun φ24 xs24 => [[none, none, none, none, none, none, none, none, none, none, none, none]]) (fun φ24 xs24 => [(19, .agg #[.bool ba, .pointer pa]), (20, .agg #[.bool ((xs24 1).b 0), .pointer ((xs24 1).p 0)]), (21, .agg #[.bool bb, .pointer pb]), (22, .agg #[.bool ((xs24 3).b 0), .pointer ((xs24 3).p 0)]), (23, .agg #[.bool ((xs24 4).b 0), .pointer ((xs24 4).p 0)]), (24, .agg #[.bool ba, .pointer pa]), (25, .agg #[.bool ((xs24 6).b 0), .pointer ((xs24 6).p 0)]), (26, .agg #[.bool bb, .pointer pb]), (27, .agg #[.bool ((xs24 8).b 0), .pointer ((xs24 8).p 0)]), (28, .agg #[.bool ((xs24 9).b 0), .pointer ((xs24 9).p 0)]), (29, .agg #[.bool ((xs24 10).b 0), .pointer ((xs24 10).p 0)])]) (fun φ24 xs24 => [((φ1 0), .cells #[.bool ba, .pointer pa] 62), ((φ1 1), .cells #[.bool bb, .pointer pb] 62), ((φ1 2), .cells #[.bool ((xs24 10).b 0), .pointer ((xs24 10).p 0)] 62)]) s trivial (by kernel_rfl) (by kernel_rfl) (fun _ _ => by kernel_rfl) (fun _ _ => by kernel_rfl) ⟨fun _ _ => by kernel_rfl, fun _ _ => by kernel_rfl, fun _ _ => by kernel_rfl, fun _ _ => by kernel_rfl⟩ (fun _ _ _ => by kernel_rfl) (fun _ _ => by kernel_rfl) (fun _ _ => by kernel_rfl) (fun _ _ => by kernel_rfl) (fun _ _ => by kernel_rfl) (fun _ _ => by kernel_rfl) trivial trivial ⟨?c24_1, ?c24_3, ?c24_4, ?c24_6, ?c24_8, ?c24_9, ?c24_10, trivial⟩ ?k24
          case c24_1 =>
            refine kcast (A := ∀ (φ24 : Nat → Nat) (xs24 : Xs) (J1_24 : IM), I20.Le J1_24 → Fun Tryd.prog 92 #[.agg #[.bool ba, .pointer pa]] J1_24 (fun v J' => ∃ x : UX, v = .agg #[.bool (x.b 0), .pointer (x.p 0)] ∧ (TRep J' (T.left A) (x.b 0) (x.p 0)))) (by kernel_rfl) ?_
            intro φ24 xs24 J1_24 leJ
            have hA := TRep.mono leJ hA
            exact Fun.mono (tleft_c hA) (fun v J' _ ⟨y0, y1, hv, g0⟩ => ⟨{ UX.d with b := fun j => y0, p := fun j => y1 }, hv, g0⟩)
          case c24_3 =>
            refine kcast (A := ∀ (φ24 : Nat → Nat) (xs24 : Xs) (J3_24 : IM), I20.Le J3_24 → (TRep J3_24 (T.left A) ((xs24 1).b 0) ((xs24 1).p 0)) → Fun Tryd.prog 92 #[.agg #[.bool bb, .pointer pb]] J3_24 (fun v J' => ∃ x : UX, v = .agg #[.bool (x.b 0), .pointer (x.p 0)] ∧ (TRep J' (T.left B) (x.b 0) (x.p 0)))) (by kernel_rfl) ?_
            intro φ24 xs24 J3_24 leJ
            rintro h24_1_0
            have hB := TRep.mono leJ hB
            exact Fun.mono (tleft_c hB) (fun v J' _ ⟨y0, y1, hv, g0⟩ => ⟨{ UX.d with b := fun j => y0, p := fun j => y1 }, hv, g0⟩)
          case c24_4 =>
            refine kcast (A := ∀ (φ24 : Nat → Nat) (xs24 : Xs) (J4_24 : IM), I20.Le J4_24 → (TRep J4_24 (T.left A) ((xs24 1).b 0) ((xs24 1).p 0)) → (TRep J4_24 (T.left B) ((xs24 3).b 0) ((xs24 3).p 0)) → Fun Tryd.prog 117 #[.agg #[.bool ((xs24 1).b 0), .pointer ((xs24 1).p 0)], .agg #[.bool ((xs24 3).b 0), .pointer ((xs24 3).p 0)]] J4_24 (fun v J' => ∃ x : UX, v = .agg #[.bool (x.b 0), .pointer (x.p 0)] ∧ (TRep J' UL (x.b 0) (x.p 0)))) (by kernel_rfl) ?_
            intro φ24 xs24 J4_24 leJ
            rintro h24_1_0 h24_3_0
            exact Fun.mono (ihl hc5 hc11 hc16 hc22 h24_1_0 h24_3_0) (fun v J' _ ⟨y0, y1, hv, g0⟩ => ⟨{ UX.d with b := fun j => y0, p := fun j => y1 }, hv, g0⟩)
          case c24_6 =>
            refine kcast (A := ∀ (φ24 : Nat → Nat) (xs24 : Xs) (J6_24 : IM), I20.Le J6_24 → (TRep J6_24 (T.left A) ((xs24 1).b 0) ((xs24 1).p 0)) → (TRep J6_24 (T.left B) ((xs24 3).b 0) ((xs24 3).p 0)) → (TRep J6_24 UL ((xs24 4).b 0) ((xs24 4).p 0)) → Fun Tryd.prog 93 #[.agg #[.bool ba, .pointer pa]] J6_24 (fun v J' => ∃ x : UX, v = .agg #[.bool (x.b 0), .pointer (x.p 0)] ∧ (TRep J' (T.right A) (x.b 0) (x.p 0)))) (by kernel_rfl) ?_
            intro φ24 xs24 J6_24 leJ
            rintro h24_1_0 h24_3_0 h24_4_0
            have hA := TRep.mono leJ hA
            exact Fun.mono (tright_c hA) (fun v J' _ ⟨y0, y1, hv, g0⟩ => ⟨{ UX.d with b := fun j => y0, p := fun j => y1 }, hv, g0⟩)
          case c24_8 =>
            refine kcast (A := ∀ (φ24 : Nat → Nat) (xs24 : Xs) (J8_24 : IM), I20.Le J8_24 → (TRep J8_24 (T.left A) ((xs24 1).b 0) ((xs24 1).p 0)) → (TRep J8_24 (T.left B) ((xs24 3).b 0) ((xs24 3).p 0)) → (TRep J8_24 UL ((xs24 4).b 0) ((xs24 4).p 0)) → (TRep J8_24 (T.right A) ((xs24 6).b 0) ((xs24 6).p 0)) → Fun Tryd.prog 93 #[.agg #[.bool bb, .pointer pb]] J8_24 (fun v J' => ∃ x : UX, v = .agg #[.bool (x.b 0), .pointer (x.p 0)] ∧ (TRep J' (T.right B) (x.b 0) (x.p 0)))) (by kernel_rfl) ?_
            intro φ24 xs24 J8_24 leJ
            rintro h24_1_0 h24_3_0 h24_4_0 h24_6_0
            have hB := TRep.mono leJ hB
            exact Fun.mono (tright_c hB) (fun v J' _ ⟨y0, y1, hv, g0⟩ => ⟨{ UX.d with b := fun j => y0, p := fun j => y1 }, hv, g0⟩)
          case c24_9 =>
            refine kcast (A := ∀ (φ24 : Nat → Nat) (xs24 : Xs) (J9_24 : IM), I20.Le J9_24 → (TRep J9_24 (T.left A) ((xs24 1).b 0) ((xs24 1).p 0)) → (TRep J9_24 (T.left B) ((xs24 3).b 0) ((xs24 3).p 0)) → (TRep J9_24 UL ((xs24 4).b 0) ((xs24 4).p 0)) → (TRep J9_24 (T.right A) ((xs24 6).b 0) ((xs24 6).p 0)) → (TRep J9_24 (T.right B) ((xs24 8).b 0) ((xs24 8).p 0)) → Fun Tryd.prog 117 #[.agg #[.bool ((xs24 6).b 0), .pointer ((xs24 6).p 0)], .agg #[.bool ((xs24 8).b 0), .pointer ((xs24 8).p 0)]] J9_24 (fun v J' => ∃ x : UX, v = .agg #[.bool (x.b 0), .pointer (x.p 0)] ∧ (TRep J' UR (x.b 0) (x.p 0)))) (by kernel_rfl) ?_
            intro φ24 xs24 J9_24 leJ
            rintro h24_1_0 h24_3_0 h24_4_0 h24_6_0 h24_8_0
            exact Fun.mono (ihr hc5 hc11 hc16 hc22 h24_6_0 h24_8_0) (fun v J' _ ⟨y0, y1, hv, g0⟩ => ⟨{ UX.d with b := fun j => y0, p := fun j => y1 }, hv, g0⟩)
          case c24_10 =>
            refine kcast (A := ∀ (φ24 : Nat → Nat) (xs24 : Xs) (J10_24 : IM), I20.Le J10_24 → (TRep J10_24 (T.left A) ((xs24 1).b 0) ((xs24 1).p 0)) → (TRep J10_24 (T.left B) ((xs24 3).b 0) ((xs24 3).p 0)) → (TRep J10_24 UL ((xs24 4).b 0) ((xs24 4).p 0)) → (TRep J10_24 (T.right A) ((xs24 6).b 0) ((xs24 6).p 0)) → (TRep J10_24 (T.right B) ((xs24 8).b 0) ((xs24 8).p 0)) → (TRep J10_24 UR ((xs24 9).b 0) ((xs24 9).p 0)) → Fun Tryd.prog 124 #[.agg #[.bool ((xs24 4).b 0), .pointer ((xs24 4).p 0)], .agg #[.bool ((xs24 9).b 0), .pointer ((xs24 9).p 0)]] J10_24 (fun v J' => ∃ x : UX, v = .agg #[.bool (x.b 0), .pointer (x.p 0)] ∧ (TRep J' (T.mk UL UR) (x.b 0) (x.p 0)))) (by kernel_rfl) ?_
            intro φ24 xs24 J10_24 leJ
            rintro h24_1_0 h24_3_0 h24_4_0 h24_6_0 h24_8_0 h24_9_0
            exact Fun.mono (merge_c h24_4_0 h24_9_0 (by omega) (by omega)) (fun v J' _ ⟨y0, y1, hv, g0⟩ => ⟨{ UX.d with b := fun j => y0, p := fun j => y1 }, hv, g0⟩)
          case k24 =>
            rintro φ24 xs24 I24 w24 le24 s h24_1_0 h24_3_0 h24_4_0 h24_6_0 h24_8_0 h24_9_0 h24_10_0
            replace hA := TRep.mono le24 hA
            replace hB := TRep.mono le24 hB
            refine wp_ret ?_
            refine ret_rule (C := []) [((φ1 0), .cells #[.bool ba, .pointer pa] 62), ((φ1 1), .cells #[.bool bb, .pointer pb] 62), ((φ1 2), .cells #[.bool ((xs24 10).b 0), .pointer ((xs24 10).p 0)] 62)] [] (.agg #[.bool ((xs24 10).b 0), .pointer ((xs24 10).p 0)]) [.o 2, .o 2] [(φ1 2), (φ1 2)] s trivial (by kernel_rfl) ?_
            simp only [hc5, hc11, hc16, hc22, ↓reduceIte, Bool.false_eq_true]
            exact ⟨_, _, _, rfl, s, ⟨_, _, rfl, h24_10_0⟩⟩

theorem union_c : ∀ (A B : T) {I : IM} {ba bb : Bool} {pa pb : Option Addr}, A.depth ≤ 900 → B.depth ≤ 900 → TRep I A ba pa → TRep I B bb pb → Fun Tryd.prog 117 #[idv ba pa, idv bb pb] I (fun v J => ∃ b p, v = idv b p ∧ TRep J (unionT A B) b p)
  | .zero, B, _, _, _, _, _, _, _, hA, hB => (by cases B <;> simpa [unionT, T.isZero, T.isOne] using union_step (UL := .zero) (UR := .zero) hA hB (by decide) (by decide) (by simp [T.isZero, T.isOne]) (by simp [T.isZero, T.isOne]))
  | .one, B, _, _, _, _, _, _, _, hA, hB => (by cases B <;> simpa [unionT, T.isZero, T.isOne] using union_step (UL := .zero) (UR := .zero) hA hB (by decide) (by decide) (by simp [T.isZero, T.isOne]) (by simp [T.isZero, T.isOne]))
  | .node l r, .zero, _, _, _, _, _, _, _, hA, hB => (by simpa [unionT, T.isZero, T.isOne] using union_step (UL := .zero) (UR := .zero) hA hB (by decide) (by decide) (by simp [T.isZero, T.isOne]) (by simp [T.isZero, T.isOne]))
  | .node l r, .one, _, _, _, _, _, _, _, hA, hB => (by simpa [unionT, T.isZero, T.isOne] using union_step (UL := .zero) (UR := .zero) hA hB (by decide) (by decide) (by simp [T.isZero, T.isOne]) (by simp [T.isZero, T.isOne]))
  | .node l r, .node l' r', _, _, _, _, _, hdA, hdB, hA, hB => by
    have e1 : 1 + max l.depth r.depth ≤ 900 := hdA
    have e2 : 1 + max l'.depth r'.depth ≤ 900 := hdB
    have u1 := union_depth l l'
    have u2 := union_depth r r'
    have := union_step (UL := unionT l l') (UR := unionT r r') hA hB (by omega) (by omega) (fun _ _ _ _ {J} {b1} {b2} {p1} {p2} k1 k2 => union_c l l' (by omega) (by omega) k1 k2) (fun _ _ _ _ {J} {b1} {b2} {p1} {p2} k1 k2 => union_c r r' (by omega) (by omega) k1 k2)
    simpa [unionT, T.isZero, T.isOne] using this
def sumT (A B : T) : T × Nat := if disjT A B = true then (unionT A B, 0) else (.zero, 5)

set_option maxHeartbeats 1000000 in
theorem sum_c {I : IM} {A B : T} {ba bb : Bool} {pa pb : Option Addr} (hA : TRep I A ba pa) (hB : TRep I B bb pb) (hdA : A.depth ≤ 900) (hdB : B.depth ≤ 900) : Fun Tryd.prog 101 #[idv ba pa, idv bb pb] I (fun v J => ∃ b p, v = .tuple #[idv b p, .int .i64 (((sumT A B).2 : Nat) : Int)] ∧ TRep J (sumT A B).1 b p) := by
  refine enter_rule 14 [(0, .agg #[.bool ba, .pointer pa]), (1, .agg #[.bool bb, .pointer pb])] Tryd.func101 rfl (by kernel_rfl) ?_
  intro w s
  refine wp_seq ?_
  refine region_rule ?_
  refine ops_rule (C := []) [] [] 4 [] 3 (fun φ1 => [(5, .int .i64 0), (4, .pointer (some ⟨(φ1 2), 0, none⟩)), (3, .pointer (some ⟨(φ1 1), 0, none⟩)), (2, .pointer (some ⟨(φ1 0), 0, none⟩))]) (fun φ1 => [((φ1 0), .cells #[.bool ba, .pointer pa] 62), ((φ1 1), .cells #[.bool bb, .pointer pb] 62), ((φ1 2), .cells #[.bool false, .pointer none] 62)]) (fun φ1 => []) s trivial (fun φ1 => by kernel_rfl) ?_
  intro φ1 w1 s
  refine ops_done (by kernel_rfl) ?_
  refine wp_seq ?_
  refine wp_seq ?_
  refine region_rule ?_
  refine ops_rule (C := []) [((φ1 0), .cells #[.bool ba, .pointer pa] 62), ((φ1 1), .cells #[.bool bb, .pointer pb] 62), ((φ1 2), .cells #[.bool false, .pointer none] 62)] [] 2 [.o 0, .o 0, .o 1, .o 1] 0 (fun φ2 => [(7, .agg #[.bool bb, .pointer pb]), (6, .agg #[.bool ba, .pointer pa])]) (fun φ2 => [((φ1 0), .cells #[.bool ba, .pointer pa] 62), ((φ1 1), .cells #[.bool bb, .pointer pb] 62), ((φ1 2), .cells #[.bool false, .pointer none] 62)]) (fun φ2 => [(φ1 0), (φ1 0), (φ1 1), (φ1 1)]) s trivial (fun φ2 => by kernel_rfl) ?_
  intro φ2 w2 s
  refine call_rule (some 8) s (disj_c A B hA hB) (by kernel_rfl) ?_
  intro v3 I3 w3 le3 h3 s
  replace hA := TRep.mono le3 hA
  replace hB := TRep.mono le3 hB
  obtain rfl := h3
  refine ops_rule (C := []) [((φ1 0), .cells #[.bool ba, .pointer pa] 62), ((φ1 1), .cells #[.bool bb, .pointer pb] 62), ((φ1 2), .cells #[.bool false, .pointer none] 62)] [] 1 [] 0 (fun φ4 => [(9, .bool (!(disjT A B)))]) (fun φ4 => [((φ1 0), .cells #[.bool ba, .pointer pa] 62), ((φ1 1), .cells #[.bool bb, .pointer pb] 62), ((φ1 2), .cells #[.bool false, .pointer none] 62)]) (fun φ4 => []) s trivial (fun φ4 => by kernel_rfl) ?_
  intro φ4 w4 s
  refine ops_done (by kernel_rfl) ?_
  rcases Bool.eq_false_or_eq_true (disjT A B) with hc5 | hc5
  ·
    rw [hc5]
    refine cond_false_rule (b := false) (by kernel_rfl) rfl ?_
    refine wp_skip ?_
    refine wp_seq ?_
    refine region_rule ?_
    refine ops_rule (C := []) [((φ1 0), .cells #[.bool ba, .pointer pa] 62), ((φ1 1), .cells #[.bool bb, .pointer pb] 62), ((φ1 2), .cells #[.bool false, .pointer none] 62)] [] 2 [.o 0, .o 0, .o 1, .o 1] 0 (fun φ6 => [(12, .agg #[.bool bb, .pointer pb]), (11, .agg #[.bool ba, .pointer pa])]) (fun φ6 => [((φ1 0), .cells #[.bool ba, .pointer pa] 62), ((φ1 1), .cells #[.bool bb, .pointer pb] 62), ((φ1 2), .cells #[.bool false, .pointer none] 62)]) (fun φ6 => [(φ1 0), (φ1 0), (φ1 1), (φ1 1)]) s trivial (fun φ6 => by kernel_rfl) ?_
    intro φ6 w6 s
    refine call_rule (some 13) s (union_c A B (by omega) (by omega) hA hB) (by kernel_rfl) ?_
    intro v7 I7 w7 le7 h7 s
    replace hA := TRep.mono le7 hA
    replace hB := TRep.mono le7 hB
    obtain ⟨b7, p7, rfl, h7_0⟩ := h7
    refine ops_rule (C := []) [((φ1 0), .cells #[.bool ba, .pointer pa] 62), ((φ1 1), .cells #[.bool bb, .pointer pb] 62), ((φ1 2), .cells #[.bool false, .pointer none] 62)] [] 2 [.o 2, .o 2] 0 (fun φ8 => [(5, .int .i64 0)]) (fun φ8 => [((φ1 0), .cells #[.bool ba, .pointer pa] 62), ((φ1 1), .cells #[.bool bb, .pointer pb] 62), ((φ1 2), .cells #[.bool b7, .pointer p7] 62)]) (fun φ8 => [(φ1 2), (φ1 2)]) s trivial (fun φ8 => by kernel_rfl) ?_
    intro φ8 w8 s
    refine ops_done (by kernel_rfl) ?_
    refine wp_ret ?_
    refine ret_rule (C := []) [((φ1 0), .cells #[.bool ba, .pointer pa] 62), ((φ1 1), .cells #[.bool bb, .pointer pb] 62), ((φ1 2), .cells #[.bool b7, .pointer p7] 62)] [] (.tuple #[.agg #[.bool b7, .pointer p7], .int .i64 0]) [.o 2, .o 2] [(φ1 2), (φ1 2)] s trivial (by kernel_rfl) ?_
    exact ⟨_, _, _, rfl, s, (by rw [sumT, if_pos hc5]; exact ⟨_, _, rfl, h7_0⟩)⟩
  ·
    rw [hc5]
    refine cond_true_rule (b := true) (by kernel_rfl) rfl ?_
    refine wp_seq ?_
    refine region_rule ?_
    refine call_rule (some 10) s (tzero_c) (by kernel_rfl) ?_
    intro v9 I9 w9 le9 h9 s
    replace hA := TRep.mono le9 hA
    replace hB := TRep.mono le9 hB
    obtain rfl := h9
    refine ops_rule (C := []) [((φ1 0), .cells #[.bool ba, .pointer pa] 62), ((φ1 1), .cells #[.bool bb, .pointer pb] 62), ((φ1 2), .cells #[.bool false, .pointer none] 62)] [] 2 [.o 2, .o 2] 0 (fun φ10 => [(5, .int .i64 5)]) (fun φ10 => [((φ1 0), .cells #[.bool ba, .pointer pa] 62), ((φ1 1), .cells #[.bool bb, .pointer pb] 62), ((φ1 2), .cells #[.bool false, .pointer none] 62)]) (fun φ10 => [(φ1 2), (φ1 2)]) s trivial (fun φ10 => by kernel_rfl) ?_
    intro φ10 w10 s
    refine ops_done (by kernel_rfl) ?_
    refine wp_ret ?_
    refine ret_rule (C := []) [((φ1 0), .cells #[.bool ba, .pointer pa] 62), ((φ1 1), .cells #[.bool bb, .pointer pb] 62), ((φ1 2), .cells #[.bool false, .pointer none] 62)] [] (.tuple #[.agg #[.bool false, .pointer none], .int .i64 5]) [.o 2, .o 2] [(φ1 2), (φ1 2)] s trivial (by kernel_rfl) ?_
    exact ⟨_, _, _, rfl, s, (by rw [sumT, if_neg (by rw [hc5]; simp)]; exact ⟨_, _, rfl, rfl, rfl⟩)⟩

def pairT (l r : T) : T × Nat := if 16 < (T.mk l r).depth then (.zero, 3) else (T.mk l r, 0)

set_option maxHeartbeats 1000000 in
theorem pair_c {I : IM} {l r : T} {bl br : Bool} {pl pr : Option Addr} (hl : TRep I l bl pl) (hr : TRep I r br pr) (hdl : l.depth ≤ 1000) (hdr : r.depth ≤ 1000) : Fun Tryd.prog 111 #[idv bl pl, idv br pr] I (fun v J => ∃ b p, v = .tuple #[idv b p, .int .i64 (((pairT l r).2 : Nat) : Int)] ∧ TRep J (pairT l r).1 b p) := by
  refine enter_rule 15 [(0, .agg #[.bool bl, .pointer pl]), (1, .agg #[.bool br, .pointer pr])] Tryd.func111 rfl (by kernel_rfl) ?_
  intro w s
  refine wp_seq ?_
  refine region_rule ?_
  refine ops_rule (C := []) [] [] 4 [] 3 (fun φ1 => [(5, .int .i64 0), (4, .pointer (some ⟨(φ1 2), 0, none⟩)), (3, .pointer (some ⟨(φ1 1), 0, none⟩)), (2, .pointer (some ⟨(φ1 0), 0, none⟩))]) (fun φ1 => [((φ1 0), .cells #[.bool bl, .pointer pl] 62), ((φ1 1), .cells #[.bool br, .pointer pr] 62), ((φ1 2), .cells #[.bool false, .pointer none] 62)]) (fun φ1 => []) s trivial (fun φ1 => by kernel_rfl) ?_
  intro φ1 w1 s
  refine ops_done (by kernel_rfl) ?_
  refine wp_seq ?_
  refine region_rule ?_
  refine ops_rule (C := []) [((φ1 0), .cells #[.bool bl, .pointer pl] 62), ((φ1 1), .cells #[.bool br, .pointer pr] 62), ((φ1 2), .cells #[.bool false, .pointer none] 62)] [] 2 [.o 0, .o 0, .o 1, .o 1] 0 (fun φ2 => [(8, .agg #[.bool br, .pointer pr]), (7, .agg #[.bool bl, .pointer pl])]) (fun φ2 => [((φ1 0), .cells #[.bool bl, .pointer pl] 62), ((φ1 1), .cells #[.bool br, .pointer pr] 62), ((φ1 2), .cells #[.bool false, .pointer none] 62)]) (fun φ2 => [(φ1 0), (φ1 0), (φ1 1), (φ1 1)]) s trivial (fun φ2 => by kernel_rfl) ?_
  intro φ2 w2 s
  refine call_rule (some 9) s (merge_c hl hr (by omega) (by omega)) (by kernel_rfl) ?_
  intro v3 I3 w3 le3 h3 s
  replace hl := TRep.mono le3 hl
  replace hr := TRep.mono le3 hr
  obtain ⟨b3, p3, rfl, h3_0⟩ := h3
  refine ops_rule (C := []) [((φ1 0), .cells #[.bool bl, .pointer pl] 62), ((φ1 1), .cells #[.bool br, .pointer pr] 62), ((φ1 2), .cells #[.bool false, .pointer none] 62)] [] 2 [.o 3, .o 3] 1 (fun φ4 => [(6, .pointer (some ⟨(φ4 0), 0, none⟩))]) (fun φ4 => [((φ1 0), .cells #[.bool bl, .pointer pl] 62), ((φ1 1), .cells #[.bool br, .pointer pr] 62), ((φ1 2), .cells #[.bool false, .pointer none] 62), ((φ4 0), .cells #[.bool b3, .pointer p3] 62)]) (fun φ4 => [(φ4 0), (φ4 0)]) s trivial (fun φ4 => by kernel_rfl) ?_
  intro φ4 w4 s
  refine ops_done (by kernel_rfl) ?_
  refine wp_seq ?_
  refine wp_seq ?_
  refine region_rule ?_
  refine ops_rule (C := []) [((φ1 0), .cells #[.bool bl, .pointer pl] 62), ((φ1 1), .cells #[.bool br, .pointer pr] 62), ((φ1 2), .cells #[.bool false, .pointer none] 62), ((φ4 0), .cells #[.bool b3, .pointer p3] 62)] [] 1 [.o 3, .o 3] 0 (fun φ5 => [(10, .agg #[.bool b3, .pointer p3])]) (fun φ5 => [((φ1 0), .cells #[.bool bl, .pointer pl] 62), ((φ1 1), .cells #[.bool br, .pointer pr] 62), ((φ1 2), .cells #[.bool false, .pointer none] 62), ((φ4 0), .cells #[.bool b3, .pointer p3] 62)]) (fun φ5 => [(φ4 0), (φ4 0)]) s trivial (fun φ5 => by kernel_rfl) ?_
  intro φ5 w5 s
  refine call_rule (some 11) s (tdepth_c h3_0) (by kernel_rfl) ?_
  intro v6 I6 w6 le6 h6 s
  replace hl := TRep.mono le6 hl
  replace hr := TRep.mono le6 hr
  replace h3_0 := TRep.mono le6 h3_0
  obtain rfl := h6
  refine ops_rule (C := []) [((φ1 0), .cells #[.bool bl, .pointer pl] 62), ((φ1 1), .cells #[.bool br, .pointer pr] 62), ((φ1 2), .cells #[.bool false, .pointer none] 62), ((φ4 0), .cells #[.bool b3, .pointer p3] 62)] [] 1 [] 0 (fun φ7 => [(12, .bool (decide (((T.depth (T.mk l r) : Nat) : Int) > ((16 : Nat) : Int))))]) (fun φ7 => [((φ1 0), .cells #[.bool bl, .pointer pl] 62), ((φ1 1), .cells #[.bool br, .pointer pr] 62), ((φ1 2), .cells #[.bool false, .pointer none] 62), ((φ4 0), .cells #[.bool b3, .pointer p3] 62)]) (fun φ7 => []) s trivial (fun φ7 => by kernel_rfl) ?_
  intro φ7 w7 s
  rw [nat_gtr (a := (T.depth (T.mk l r))) (b := 16)]
  refine ops_done (by kernel_rfl) ?_
  rcases Bool.eq_false_or_eq_true (decide (16 < (T.depth (T.mk l r)))) with hc8 | hc8
  ·
    rw [hc8]
    refine cond_true_rule (b := true) (by kernel_rfl) rfl ?_
    refine wp_seq ?_
    refine region_rule ?_
    refine call_rule (some 13) s (tzero_c) (by kernel_rfl) ?_
    intro v9 I9 w9 le9 h9 s
    replace hl := TRep.mono le9 hl
    replace hr := TRep.mono le9 hr
    replace h3_0 := TRep.mono le9 h3_0
    obtain rfl := h9
    refine ops_rule (C := []) [((φ1 0), .cells #[.bool bl, .pointer pl] 62), ((φ1 1), .cells #[.bool br, .pointer pr] 62), ((φ1 2), .cells #[.bool false, .pointer none] 62), ((φ4 0), .cells #[.bool b3, .pointer p3] 62)] [] 2 [.o 2, .o 2] 0 (fun φ10 => [(5, .int .i64 3)]) (fun φ10 => [((φ1 0), .cells #[.bool bl, .pointer pl] 62), ((φ1 1), .cells #[.bool br, .pointer pr] 62), ((φ1 2), .cells #[.bool false, .pointer none] 62), ((φ4 0), .cells #[.bool b3, .pointer p3] 62)]) (fun φ10 => [(φ1 2), (φ1 2)]) s trivial (fun φ10 => by kernel_rfl) ?_
    intro φ10 w10 s
    refine ops_done (by kernel_rfl) ?_
    refine wp_ret ?_
    refine ret_rule (C := []) [((φ1 0), .cells #[.bool bl, .pointer pl] 62), ((φ1 1), .cells #[.bool br, .pointer pr] 62), ((φ1 2), .cells #[.bool false, .pointer none] 62), ((φ4 0), .cells #[.bool b3, .pointer p3] 62)] [] (.tuple #[.agg #[.bool false, .pointer none], .int .i64 3]) [.o 2, .o 2] [(φ1 2), (φ1 2)] s trivial (by kernel_rfl) ?_
    exact ⟨_, _, _, rfl, s, (by rw [pairT, if_pos (of_decide_eq_true hc8)]; exact ⟨_, _, rfl, rfl, rfl⟩)⟩
  ·
    rw [hc8]
    refine cond_false_rule (b := false) (by kernel_rfl) rfl ?_
    refine wp_skip ?_
    refine wp_seq ?_
    refine region_rule ?_
    refine ops_rule (C := []) [((φ1 0), .cells #[.bool bl, .pointer pl] 62), ((φ1 1), .cells #[.bool br, .pointer pr] 62), ((φ1 2), .cells #[.bool false, .pointer none] 62), ((φ4 0), .cells #[.bool b3, .pointer p3] 62)] [] 3 [.o 3, .o 3, .o 2, .o 2] 0 (fun φ11 => [(5, .int .i64 0), (14, .agg #[.bool b3, .pointer p3])]) (fun φ11 => [((φ1 0), .cells #[.bool bl, .pointer pl] 62), ((φ1 1), .cells #[.bool br, .pointer pr] 62), ((φ1 2), .cells #[.bool b3, .pointer p3] 62), ((φ4 0), .cells #[.bool b3, .pointer p3] 62)]) (fun φ11 => [(φ4 0), (φ4 0), (φ1 2), (φ1 2)]) s trivial (fun φ11 => by kernel_rfl) ?_
    intro φ11 w11 s
    refine ops_done (by kernel_rfl) ?_
    refine wp_ret ?_
    refine ret_rule (C := []) [((φ1 0), .cells #[.bool bl, .pointer pl] 62), ((φ1 1), .cells #[.bool br, .pointer pr] 62), ((φ1 2), .cells #[.bool b3, .pointer p3] 62), ((φ4 0), .cells #[.bool b3, .pointer p3] 62)] [] (.tuple #[.agg #[.bool b3, .pointer p3], .int .i64 0]) [.o 2, .o 2] [(φ1 2), (φ1 2)] s trivial (by kernel_rfl) ?_
    exact ⟨_, _, _, rfl, s, (by rw [pairT, if_neg (of_decide_eq_false hc8)]; exact ⟨_, _, rfl, h3_0⟩)⟩

theorem pairOk_c {I : IM} {l r : T} {bl br : Bool} {pl pr : Option Addr} (hl : TRep I l bl pl) (hr : TRep I r br pr) (h : (T.mk l r).depth ≤ 16) (hdl : l.depth ≤ 1000) (hdr : r.depth ≤ 1000) : Fun Tryd.prog 111 #[idv bl pl, idv br pr] I (fun v J => ∃ b p, v = .tuple #[idv b p, .int .i64 0] ∧ TRep J (T.mk l r) b p) := by
  have h1 := pair_c hl hr hdl hdr
  rw [pairT, if_neg (by omega)] at h1; exact h1

set_option maxHeartbeats 1000000 in
theorem idText_zero {I : IM} {b : Bool} {n : Nat} {p : Option Addr} {v : Value} {xs : List Value} {F : List OB} (h : TRep I .zero b p) (hrow : RowH 5 1 v n xs F) (hlim : n + (textT .zero).length + 20 ≤ 140737488355328) : FunM Tryd.prog 123 #[idv b p, v] I F (fun v' J F' => RowH 5 1 v' (n + (textT .zero).length) (xs ++ bcs (textT .zero)) F') := by
  obtain ⟨rfl, rfl⟩ := h
  have hlim1 : n + 1 + 20 ≤ 140737488355328 := hlim
  refine enterM_rule 32 [(0, .agg #[.bool false, .pointer none]), (1, v)] Tryd.func123 rfl (by kernel_rfl) ?_
  intro w s
  refine wp_seq ?_
  refine region_rule ?_
  refine ops_rule (C := []) [] F 2 [] 1 (fun φ1 => [(4, .slice none 0 0), (2, .pointer (some ⟨(φ1 0), 0, none⟩))]) (fun φ1 => [((φ1 0), .cells #[.bool false, .pointer none] 62)]) (fun φ1 => []) s trivial (fun φ1 => by kernel_rfl) ?_
  intro φ1 w1 s
  refine ops_done (by kernel_rfl) ?_
  refine wp_seq ?_
  refine wp_seq ?_
  refine region_rule ?_
  refine ops_rule (C := []) [((φ1 0), .cells #[.bool false, .pointer none] 62)] F 1 [.o 0, .o 0] 0 (fun φ2 => [(5, .agg #[.bool false, .pointer none])]) (fun φ2 => [((φ1 0), .cells #[.bool false, .pointer none] 62)]) (fun φ2 => [(φ1 0), (φ1 0)]) s trivial (fun φ2 => by kernel_rfl) ?_
  intro φ2 w2 s
  refine call_rule (some 6) s (isZero_c (TRep.z _)) (by kernel_rfl) ?_
  intro v3 I3 w3 le3 h3 s
  obtain rfl := h3
  refine ops_done (by kernel_rfl) ?_
  refine cond_true_rule (b := true) (by kernel_rfl) rfl ?_
  refine wp_seq ?_
  refine region_rule ?_
  refine ops_rule (C := []) [((φ1 0), .cells #[.bool false, .pointer none] 62)] F 2 [] 1 (fun φ4 => [(8, .slice (some ⟨(φ4 0), 0, none⟩) 1 1), (7, v)]) (fun φ4 => [((φ1 0), .cells #[.bool false, .pointer none] 62), ((φ4 0), .cells #[.int .u8 48] 5)]) (fun φ4 => []) s trivial (fun φ4 => by kernel_rfl) ?_
  intro φ4 w4 s
  refine append_rule (H := [((φ1 0), .cells #[.bool false, .pointer none] 62), ((φ4 0), .cells #[.int .u8 48] 5)]) (F := F) 22 22 5 Tryd.t5 (.int .u8 0) 1 1 (some 9) s Tryd.underlying22 (by kernel_rfl) (by kernel_rfl) (by kernel_rfl) (by kernel_rfl) (by kernel_rfl) (by decide) hrow (src_own s 1 (φ4 0) #[.int .u8 48] 5 22 5 1 1 1 [.int .u8 48] (by kernel_rfl) Tryd.underlying22 (by kernel_rfl) (by kernel_rfl) (by kernel_rfl)) (by simp only [maxLen]; omega) (by omega) (by kernel_rfl) ?_
  intro v5 w5 F5 s h5
  refine ops_rule (C := []) [((φ1 0), .cells #[.bool false, .pointer none] 62), ((φ4 0), .cells #[.int .u8 48] 5)] F5 1 [] 0 (fun φ6 => [(4, v5)]) (fun φ6 => [((φ1 0), .cells #[.bool false, .pointer none] 62), ((φ4 0), .cells #[.int .u8 48] 5)]) (fun φ6 => []) s trivial (fun φ6 => by kernel_rfl) ?_
  intro φ6 w6 s
  refine ops_done (by kernel_rfl) ?_
  refine wp_ret ?_
  refine ret_rule (C := []) [((φ1 0), .cells #[.bool false, .pointer none] 62), ((φ4 0), .cells #[.int .u8 48] 5)] F5 (v5) [] [] s trivial (by kernel_rfl) ?_
  replace s := s.drop (List.sublist_append_right [((φ1 0), .cells #[.bool false, .pointer none] 62), ((φ4 0), .cells #[.int .u8 48] 5)] F5)
  exact ⟨_, _, _, rfl, s, (by have e := h5; simp only [textT, Lib.byteCells_append, List.append_assoc, List.length_append, Nat.add_assoc, List.length_cons, List.length_nil, Nat.zero_add] at e ⊢; exact e)⟩

set_option maxHeartbeats 1000000 in
theorem idText_one {I : IM} {b : Bool} {n : Nat} {p : Option Addr} {v : Value} {xs : List Value} {F : List OB} (h : TRep I .one b p) (hrow : RowH 5 1 v n xs F) (hlim : n + (textT .one).length + 20 ≤ 140737488355328) : FunM Tryd.prog 123 #[idv b p, v] I F (fun v' J F' => RowH 5 1 v' (n + (textT .one).length) (xs ++ bcs (textT .one)) F') := by
  obtain ⟨rfl, rfl⟩ := h
  have hlim1 : n + 1 + 20 ≤ 140737488355328 := hlim
  refine enterM_rule 32 [(0, .agg #[.bool true, .pointer none]), (1, v)] Tryd.func123 rfl (by kernel_rfl) ?_
  intro w s
  refine wp_seq ?_
  refine region_rule ?_
  refine ops_rule (C := []) [] F 2 [] 1 (fun φ1 => [(4, .slice none 0 0), (2, .pointer (some ⟨(φ1 0), 0, none⟩))]) (fun φ1 => [((φ1 0), .cells #[.bool true, .pointer none] 62)]) (fun φ1 => []) s trivial (fun φ1 => by kernel_rfl) ?_
  intro φ1 w1 s
  refine ops_done (by kernel_rfl) ?_
  refine wp_seq ?_
  refine wp_seq ?_
  refine region_rule ?_
  refine ops_rule (C := []) [((φ1 0), .cells #[.bool true, .pointer none] 62)] F 1 [.o 0, .o 0] 0 (fun φ2 => [(5, .agg #[.bool true, .pointer none])]) (fun φ2 => [((φ1 0), .cells #[.bool true, .pointer none] 62)]) (fun φ2 => [(φ1 0), (φ1 0)]) s trivial (fun φ2 => by kernel_rfl) ?_
  intro φ2 w2 s
  refine call_rule (some 6) s (isZero_c (TRep.o _)) (by kernel_rfl) ?_
  intro v3 I3 w3 le3 h3 s
  obtain rfl := h3
  refine ops_done (by kernel_rfl) ?_
  refine cond_false_rule (b := false) (by kernel_rfl) rfl ?_
  refine wp_skip ?_
  refine wp_seq ?_
  refine wp_seq ?_
  refine region_rule ?_
  refine ops_rule (C := []) [((φ1 0), .cells #[.bool true, .pointer none] 62)] F 1 [.o 0, .o 0] 0 (fun φ4 => [(10, .agg #[.bool true, .pointer none])]) (fun φ4 => [((φ1 0), .cells #[.bool true, .pointer none] 62)]) (fun φ4 => [(φ1 0), (φ1 0)]) s trivial (fun φ4 => by kernel_rfl) ?_
  intro φ4 w4 s
  refine call_rule (some 11) s (isOne_c (TRep.o _)) (by kernel_rfl) ?_
  intro v5 I5 w5 le5 h5 s
  obtain rfl := h5
  refine ops_done (by kernel_rfl) ?_
  refine cond_true_rule (b := true) (by kernel_rfl) rfl ?_
  refine wp_seq ?_
  refine region_rule ?_
  refine ops_rule (C := []) [((φ1 0), .cells #[.bool true, .pointer none] 62)] F 2 [] 1 (fun φ6 => [(13, .slice (some ⟨(φ6 0), 0, none⟩) 1 1), (12, v)]) (fun φ6 => [((φ1 0), .cells #[.bool true, .pointer none] 62), ((φ6 0), .cells #[.int .u8 49] 5)]) (fun φ6 => []) s trivial (fun φ6 => by kernel_rfl) ?_
  intro φ6 w6 s
  refine append_rule (H := [((φ1 0), .cells #[.bool true, .pointer none] 62), ((φ6 0), .cells #[.int .u8 49] 5)]) (F := F) 22 22 5 Tryd.t5 (.int .u8 0) 1 1 (some 14) s Tryd.underlying22 (by kernel_rfl) (by kernel_rfl) (by kernel_rfl) (by kernel_rfl) (by kernel_rfl) (by decide) hrow (src_own s 1 (φ6 0) #[.int .u8 49] 5 22 5 1 1 1 [.int .u8 49] (by kernel_rfl) Tryd.underlying22 (by kernel_rfl) (by kernel_rfl) (by kernel_rfl)) (by simp only [maxLen]; omega) (by omega) (by kernel_rfl) ?_
  intro v7 w7 F7 s h7
  refine ops_rule (C := []) [((φ1 0), .cells #[.bool true, .pointer none] 62), ((φ6 0), .cells #[.int .u8 49] 5)] F7 1 [] 0 (fun φ8 => [(4, v7)]) (fun φ8 => [((φ1 0), .cells #[.bool true, .pointer none] 62), ((φ6 0), .cells #[.int .u8 49] 5)]) (fun φ8 => []) s trivial (fun φ8 => by kernel_rfl) ?_
  intro φ8 w8 s
  refine ops_done (by kernel_rfl) ?_
  refine wp_ret ?_
  refine ret_rule (C := []) [((φ1 0), .cells #[.bool true, .pointer none] 62), ((φ6 0), .cells #[.int .u8 49] 5)] F7 (v7) [] [] s trivial (by kernel_rfl) ?_
  replace s := s.drop (List.sublist_append_right [((φ1 0), .cells #[.bool true, .pointer none] 62), ((φ6 0), .cells #[.int .u8 49] 5)] F7)
  exact ⟨_, _, _, rfl, s, (by have e := h7; simp only [textT, Lib.byteCells_append, List.append_assoc, List.length_append, Nat.add_assoc, List.length_cons, List.length_nil, Nat.zero_add] at e ⊢; exact e)⟩

set_option maxHeartbeats 2000000 in
theorem idText_node {l r : T} {I : IM} {b : Bool} {n : Nat} {p : Option Addr} {v : Value} {xs : List Value} {F : List OB} (h : TRep I (.node l r) b p) (hrow : RowH 5 1 v n xs F) (hlim : n + (textT (.node l r)).length + 20 ≤ 140737488355328) (ihl : ∀ {I : IM} {b : Bool} {n : Nat} {p : Option Addr} {v : Value} {xs : List Value} {F : List OB}, TRep I l b p → RowH 5 1 v n xs F → n + (textT l).length + 20 ≤ 140737488355328 → FunM Tryd.prog 123 #[idv b p, v] I F (fun v' J F' => RowH 5 1 v' (n + (textT l).length) (xs ++ bcs (textT l)) F')) (ihr : ∀ {I : IM} {b : Bool} {n : Nat} {p : Option Addr} {v : Value} {xs : List Value} {F : List OB}, TRep I r b p → RowH 5 1 v n xs F → n + (textT r).length + 20 ≤ 140737488355328 → FunM Tryd.prog 123 #[idv b p, v] I F (fun v' J F' => RowH 5 1 v' (n + (textT r).length) (xs ++ bcs (textT r)) F')) : FunM Tryd.prog 123 #[idv b p, v] I F (fun v' J F' => RowH 5 1 v' (n + (textT (.node l r)).length) (xs ++ bcs (textT (.node l r))) F') := by
  have hn := h
  obtain ⟨rfl, k, bl, pl, br, pr, rfl, hk, hl, hr⟩ := h
  have hlim1 : n + (textT l).length + (textT r).length + 3 + 20 ≤ 140737488355328 := by simp only [textT, List.length_append, List.length_cons, List.length_nil] at hlim; omega
  refine enterM_rule 32 [(0, .agg #[.bool false, .pointer (some ⟨k, 0, none⟩)]), (1, v)] Tryd.func123 rfl (by kernel_rfl) ?_
  intro w s
  refine wp_seq ?_
  refine region_rule ?_
  refine ops_rule (C := []) [] F 2 [] 1 (fun φ1 => [(4, .slice none 0 0), (2, .pointer (some ⟨(φ1 0), 0, none⟩))]) (fun φ1 => [((φ1 0), .cells #[.bool false, .pointer (some ⟨k, 0, none⟩)] 62)]) (fun φ1 => []) s trivial (fun φ1 => by kernel_rfl) ?_
  intro φ1 w1 s
  refine ops_done (by kernel_rfl) ?_
  refine wp_seq ?_
  refine wp_seq ?_
  refine region_rule ?_
  refine ops_rule (C := []) [((φ1 0), .cells #[.bool false, .pointer (some ⟨k, 0, none⟩)] 62)] F 1 [.o 0, .o 0] 0 (fun φ2 => [(5, .agg #[.bool false, .pointer (some ⟨k, 0, none⟩)])]) (fun φ2 => [((φ1 0), .cells #[.bool false, .pointer (some ⟨k, 0, none⟩)] 62)]) (fun φ2 => [(φ1 0), (φ1 0)]) s trivial (fun φ2 => by kernel_rfl) ?_
  intro φ2 w2 s
  refine call_rule (some 6) s (isZero_c hn) (by kernel_rfl) ?_
  intro v3 I3 w3 le3 h3 s
  replace hl := TRep.mono le3 hl
  replace hr := TRep.mono le3 hr
  replace hn := TRep.mono le3 hn
  replace hk := le3 _ _ hk
  obtain rfl := h3
  refine ops_done (by kernel_rfl) ?_
  refine cond_false_rule (b := false) (by kernel_rfl) rfl ?_
  refine wp_skip ?_
  refine wp_seq ?_
  refine wp_seq ?_
  refine region_rule ?_
  refine ops_rule (C := []) [((φ1 0), .cells #[.bool false, .pointer (some ⟨k, 0, none⟩)] 62)] F 1 [.o 0, .o 0] 0 (fun φ4 => [(10, .agg #[.bool false, .pointer (some ⟨k, 0, none⟩)])]) (fun φ4 => [((φ1 0), .cells #[.bool false, .pointer (some ⟨k, 0, none⟩)] 62)]) (fun φ4 => [(φ1 0), (φ1 0)]) s trivial (fun φ4 => by kernel_rfl) ?_
  intro φ4 w4 s
  refine call_rule (some 11) s (isOne_c hn) (by kernel_rfl) ?_
  intro v5 I5 w5 le5 h5 s
  replace hl := TRep.mono le5 hl
  replace hr := TRep.mono le5 hr
  replace hn := TRep.mono le5 hn
  replace hk := le5 _ _ hk
  obtain rfl := h5
  refine ops_done (by kernel_rfl) ?_
  refine cond_false_rule (b := false) (by kernel_rfl) rfl ?_
  refine wp_skip ?_
  refine wp_seq ?_
  refine region_rule ?_
  refine ops_rule (C := []) [((φ1 0), .cells #[.bool false, .pointer (some ⟨k, 0, none⟩)] 62)] F 2 [] 1 (fun φ6 => [(16, .slice (some ⟨(φ6 0), 0, none⟩) 1 1), (15, v)]) (fun φ6 => [((φ1 0), .cells #[.bool false, .pointer (some ⟨k, 0, none⟩)] 62), ((φ6 0), .cells #[.int .u8 40] 5)]) (fun φ6 => []) s trivial (fun φ6 => by kernel_rfl) ?_
  intro φ6 w6 s
  refine append_rule (H := [((φ1 0), .cells #[.bool false, .pointer (some ⟨k, 0, none⟩)] 62), ((φ6 0), .cells #[.int .u8 40] 5)]) (F := F) 22 22 5 Tryd.t5 (.int .u8 0) 1 1 (some 17) s Tryd.underlying22 (by kernel_rfl) (by kernel_rfl) (by kernel_rfl) (by kernel_rfl) (by kernel_rfl) (by decide) hrow (src_own s 1 (φ6 0) #[.int .u8 40] 5 22 5 1 1 1 [.int .u8 40] (by kernel_rfl) Tryd.underlying22 (by kernel_rfl) (by kernel_rfl) (by kernel_rfl)) (by simp only [maxLen]; omega) (by omega) (by kernel_rfl) ?_
  intro v7 w7 F7 s h7
  refine ops_rule (C := []) [((φ1 0), .cells #[.bool false, .pointer (some ⟨k, 0, none⟩)] 62), ((φ6 0), .cells #[.int .u8 40] 5)] F7 1 [] 0 (fun φ8 => [(1, v7)]) (fun φ8 => [((φ1 0), .cells #[.bool false, .pointer (some ⟨k, 0, none⟩)] 62), ((φ6 0), .cells #[.int .u8 40] 5)]) (fun φ8 => []) s trivial (fun φ8 => by kernel_rfl) ?_
  intro φ8 w8 s
  refine ops_done (by kernel_rfl) ?_
  refine wp_seq ?_
  refine region_rule ?_
  refine ops_rule (C := []) [((φ1 0), .cells #[.bool false, .pointer (some ⟨k, 0, none⟩)] 62), ((φ6 0), .cells #[.int .u8 40] 5)] F7 1 [.o 0, .o 0] 0 (fun φ9 => [(18, .agg #[.bool false, .pointer (some ⟨k, 0, none⟩)])]) (fun φ9 => [((φ1 0), .cells #[.bool false, .pointer (some ⟨k, 0, none⟩)] 62), ((φ6 0), .cells #[.int .u8 40] 5)]) (fun φ9 => [(φ1 0), (φ1 0)]) s trivial (fun φ9 => by kernel_rfl) ?_
  intro φ9 w9 s
  refine call_rule (some 19) s (tleft_c hn) (by kernel_rfl) ?_
  intro v10 I10 w10 le10 h10 s
  replace hl := TRep.mono le10 hl
  replace hr := TRep.mono le10 hr
  replace hn := TRep.mono le10 hn
  replace hk := le10 _ _ hk
  obtain ⟨b10, p10, rfl, h10_0⟩ := h10
  refine ops_rule (C := []) [((φ1 0), .cells #[.bool false, .pointer (some ⟨k, 0, none⟩)] 62), ((φ6 0), .cells #[.int .u8 40] 5)] F7 1 [] 0 (fun φ11 => [(20, v7)]) (fun φ11 => [((φ1 0), .cells #[.bool false, .pointer (some ⟨k, 0, none⟩)] 62), ((φ6 0), .cells #[.int .u8 40] 5)]) (fun φ11 => []) s trivial (fun φ11 => by kernel_rfl) ?_
  intro φ11 w11 s
  refine callF_rule (H := [((φ1 0), .cells #[.bool false, .pointer (some ⟨k, 0, none⟩)] 62), ((φ6 0), .cells #[.int .u8 40] 5)]) (F := F7) (some 21) s (ihl h10_0 h7 (by omega)) (by kernel_rfl) ?_
  intro v12 I12 w12 F12 le12 h12 s
  replace hl := TRep.mono le12 hl
  replace hr := TRep.mono le12 hr
  replace hn := TRep.mono le12 hn
  replace h10_0 := TRep.mono le12 h10_0
  replace hk := le12 _ _ hk
  refine ops_rule (C := []) [((φ1 0), .cells #[.bool false, .pointer (some ⟨k, 0, none⟩)] 62), ((φ6 0), .cells #[.int .u8 40] 5)] F12 1 [] 0 (fun φ13 => [(1, v12)]) (fun φ13 => [((φ1 0), .cells #[.bool false, .pointer (some ⟨k, 0, none⟩)] 62), ((φ6 0), .cells #[.int .u8 40] 5)]) (fun φ13 => []) s trivial (fun φ13 => by kernel_rfl) ?_
  intro φ13 w13 s
  refine ops_done (by kernel_rfl) ?_
  refine wp_seq ?_
  refine region_rule ?_
  refine ops_rule (C := []) [((φ1 0), .cells #[.bool false, .pointer (some ⟨k, 0, none⟩)] 62), ((φ6 0), .cells #[.int .u8 40] 5)] F12 2 [] 1 (fun φ14 => [(23, .slice (some ⟨(φ14 0), 0, none⟩) 1 1), (22, v12)]) (fun φ14 => [((φ1 0), .cells #[.bool false, .pointer (some ⟨k, 0, none⟩)] 62), ((φ6 0), .cells #[.int .u8 40] 5), ((φ14 0), .cells #[.int .u8 44] 5)]) (fun φ14 => []) s trivial (fun φ14 => by kernel_rfl) ?_
  intro φ14 w14 s
  refine append_rule (H := [((φ1 0), .cells #[.bool false, .pointer (some ⟨k, 0, none⟩)] 62), ((φ6 0), .cells #[.int .u8 40] 5), ((φ14 0), .cells #[.int .u8 44] 5)]) (F := F12) 22 22 5 Tryd.t5 (.int .u8 0) 1 1 (some 24) s Tryd.underlying22 (by kernel_rfl) (by kernel_rfl) (by kernel_rfl) (by kernel_rfl) (by kernel_rfl) (by decide) h12 (src_own s 2 (φ14 0) #[.int .u8 44] 5 22 5 1 1 1 [.int .u8 44] (by kernel_rfl) Tryd.underlying22 (by kernel_rfl) (by kernel_rfl) (by kernel_rfl)) (by simp only [maxLen]; omega) (by omega) (by kernel_rfl) ?_
  intro v15 w15 F15 s h15
  refine ops_rule (C := []) [((φ1 0), .cells #[.bool false, .pointer (some ⟨k, 0, none⟩)] 62), ((φ6 0), .cells #[.int .u8 40] 5), ((φ14 0), .cells #[.int .u8 44] 5)] F15 1 [] 0 (fun φ16 => [(1, v15)]) (fun φ16 => [((φ1 0), .cells #[.bool false, .pointer (some ⟨k, 0, none⟩)] 62), ((φ6 0), .cells #[.int .u8 40] 5), ((φ14 0), .cells #[.int .u8 44] 5)]) (fun φ16 => []) s trivial (fun φ16 => by kernel_rfl) ?_
  intro φ16 w16 s
  refine ops_done (by kernel_rfl) ?_
  refine wp_seq ?_
  refine region_rule ?_
  refine ops_rule (C := []) [((φ1 0), .cells #[.bool false, .pointer (some ⟨k, 0, none⟩)] 62), ((φ6 0), .cells #[.int .u8 40] 5), ((φ14 0), .cells #[.int .u8 44] 5)] F15 1 [.o 0, .o 0] 0 (fun φ17 => [(25, .agg #[.bool false, .pointer (some ⟨k, 0, none⟩)])]) (fun φ17 => [((φ1 0), .cells #[.bool false, .pointer (some ⟨k, 0, none⟩)] 62), ((φ6 0), .cells #[.int .u8 40] 5), ((φ14 0), .cells #[.int .u8 44] 5)]) (fun φ17 => [(φ1 0), (φ1 0)]) s trivial (fun φ17 => by kernel_rfl) ?_
  intro φ17 w17 s
  refine call_rule (some 26) s (tright_c hn) (by kernel_rfl) ?_
  intro v18 I18 w18 le18 h18 s
  replace hl := TRep.mono le18 hl
  replace hr := TRep.mono le18 hr
  replace hn := TRep.mono le18 hn
  replace h10_0 := TRep.mono le18 h10_0
  replace hk := le18 _ _ hk
  obtain ⟨b18, p18, rfl, h18_0⟩ := h18
  refine ops_rule (C := []) [((φ1 0), .cells #[.bool false, .pointer (some ⟨k, 0, none⟩)] 62), ((φ6 0), .cells #[.int .u8 40] 5), ((φ14 0), .cells #[.int .u8 44] 5)] F15 1 [] 0 (fun φ19 => [(27, v15)]) (fun φ19 => [((φ1 0), .cells #[.bool false, .pointer (some ⟨k, 0, none⟩)] 62), ((φ6 0), .cells #[.int .u8 40] 5), ((φ14 0), .cells #[.int .u8 44] 5)]) (fun φ19 => []) s trivial (fun φ19 => by kernel_rfl) ?_
  intro φ19 w19 s
  refine callF_rule (H := [((φ1 0), .cells #[.bool false, .pointer (some ⟨k, 0, none⟩)] 62), ((φ6 0), .cells #[.int .u8 40] 5), ((φ14 0), .cells #[.int .u8 44] 5)]) (F := F15) (some 28) s (ihr h18_0 h15 (by omega)) (by kernel_rfl) ?_
  intro v20 I20 w20 F20 le20 h20 s
  replace hl := TRep.mono le20 hl
  replace hr := TRep.mono le20 hr
  replace hn := TRep.mono le20 hn
  replace h10_0 := TRep.mono le20 h10_0
  replace h18_0 := TRep.mono le20 h18_0
  replace hk := le20 _ _ hk
  refine ops_rule (C := []) [((φ1 0), .cells #[.bool false, .pointer (some ⟨k, 0, none⟩)] 62), ((φ6 0), .cells #[.int .u8 40] 5), ((φ14 0), .cells #[.int .u8 44] 5)] F20 1 [] 0 (fun φ21 => [(1, v20)]) (fun φ21 => [((φ1 0), .cells #[.bool false, .pointer (some ⟨k, 0, none⟩)] 62), ((φ6 0), .cells #[.int .u8 40] 5), ((φ14 0), .cells #[.int .u8 44] 5)]) (fun φ21 => []) s trivial (fun φ21 => by kernel_rfl) ?_
  intro φ21 w21 s
  refine ops_done (by kernel_rfl) ?_
  refine wp_seq ?_
  refine region_rule ?_
  refine ops_rule (C := []) [((φ1 0), .cells #[.bool false, .pointer (some ⟨k, 0, none⟩)] 62), ((φ6 0), .cells #[.int .u8 40] 5), ((φ14 0), .cells #[.int .u8 44] 5)] F20 2 [] 1 (fun φ22 => [(30, .slice (some ⟨(φ22 0), 0, none⟩) 1 1), (29, v20)]) (fun φ22 => [((φ1 0), .cells #[.bool false, .pointer (some ⟨k, 0, none⟩)] 62), ((φ6 0), .cells #[.int .u8 40] 5), ((φ14 0), .cells #[.int .u8 44] 5), ((φ22 0), .cells #[.int .u8 41] 5)]) (fun φ22 => []) s trivial (fun φ22 => by kernel_rfl) ?_
  intro φ22 w22 s
  refine append_rule (H := [((φ1 0), .cells #[.bool false, .pointer (some ⟨k, 0, none⟩)] 62), ((φ6 0), .cells #[.int .u8 40] 5), ((φ14 0), .cells #[.int .u8 44] 5), ((φ22 0), .cells #[.int .u8 41] 5)]) (F := F20) 22 22 5 Tryd.t5 (.int .u8 0) 1 1 (some 31) s Tryd.underlying22 (by kernel_rfl) (by kernel_rfl) (by kernel_rfl) (by kernel_rfl) (by kernel_rfl) (by decide) h20 (src_own s 3 (φ22 0) #[.int .u8 41] 5 22 5 1 1 1 [.int .u8 41] (by kernel_rfl) Tryd.underlying22 (by kernel_rfl) (by kernel_rfl) (by kernel_rfl)) (by simp only [maxLen]; omega) (by omega) (by kernel_rfl) ?_
  intro v23 w23 F23 s h23
  refine ops_rule (C := []) [((φ1 0), .cells #[.bool false, .pointer (some ⟨k, 0, none⟩)] 62), ((φ6 0), .cells #[.int .u8 40] 5), ((φ14 0), .cells #[.int .u8 44] 5), ((φ22 0), .cells #[.int .u8 41] 5)] F23 1 [] 0 (fun φ24 => [(4, v23)]) (fun φ24 => [((φ1 0), .cells #[.bool false, .pointer (some ⟨k, 0, none⟩)] 62), ((φ6 0), .cells #[.int .u8 40] 5), ((φ14 0), .cells #[.int .u8 44] 5), ((φ22 0), .cells #[.int .u8 41] 5)]) (fun φ24 => []) s trivial (fun φ24 => by kernel_rfl) ?_
  intro φ24 w24 s
  refine ops_done (by kernel_rfl) ?_
  refine wp_ret ?_
  refine ret_rule (C := []) [((φ1 0), .cells #[.bool false, .pointer (some ⟨k, 0, none⟩)] 62), ((φ6 0), .cells #[.int .u8 40] 5), ((φ14 0), .cells #[.int .u8 44] 5), ((φ22 0), .cells #[.int .u8 41] 5)] F23 (v23) [] [] s trivial (by kernel_rfl) ?_
  replace s := s.drop (List.sublist_append_right [((φ1 0), .cells #[.bool false, .pointer (some ⟨k, 0, none⟩)] 62), ((φ6 0), .cells #[.int .u8 40] 5), ((φ14 0), .cells #[.int .u8 44] 5), ((φ22 0), .cells #[.int .u8 41] 5)] F23)
  exact ⟨_, _, _, rfl, s, (by have e := h23; simp only [textT, Lib.byteCells_append, List.append_assoc, List.length_append, Nat.add_assoc, List.length_cons, List.length_nil, Nat.zero_add] at e ⊢; exact e)⟩

theorem idText_c : ∀ (t : T) {I : IM} {b : Bool} {n : Nat} {p : Option Addr} {v : Value} {xs : List Value} {F : List OB}, TRep I t b p → RowH 5 1 v n xs F → n + (textT t).length + 20 ≤ 140737488355328 →
    FunM Tryd.prog 123 #[idv b p, v] I F (fun v' J F' => RowH 5 1 v' (n + (textT t).length) (xs ++ bcs (textT t)) F')
  | .zero, _, _, _, _, _, _, _, h, hrow, hlim => idText_zero h hrow hlim
  | .one, _, _, _, _, _, _, _, h, hrow, hlim => idText_one h hrow hlim
  | .node l r, _, _, _, _, _, _, _, h, hrow, hlim => idText_node h hrow hlim (idText_c l) (idText_c r)

set_option maxHeartbeats 1000000 in
theorem idtext_c {I : IM} {t : T} {b : Bool} {p : Option Addr} (h : TRep I t b p) (hlim : (textT t).length ≤ 1000000000) : Fun Tryd.prog 109 #[idv b p] I (fun v J => v = .string ⟨(textT t).toArray⟩) := by
  refine enter_rule 6 [(0, .agg #[.bool b, .pointer p])] Tryd.func109 rfl (by kernel_rfl) ?_
  intro w s
  refine wp_seq ?_
  refine region_rule ?_
  refine ops_rule (C := []) [] [] 2 [] 1 (fun φ1 => [(2, .string ⟨#[]⟩), (1, .pointer (some ⟨(φ1 0), 0, none⟩))]) (fun φ1 => [((φ1 0), .cells #[.bool b, .pointer p] 62)]) (fun φ1 => []) s trivial (fun φ1 => by kernel_rfl) ?_
  intro φ1 w1 s
  refine ops_done (by kernel_rfl) ?_
  refine wp_seq ?_
  refine region_rule ?_
  refine ops_rule (C := []) [((φ1 0), .cells #[.bool b, .pointer p] 62)] [] 1 [.o 0, .o 0] 0 (fun φ2 => [(3, .agg #[.bool b, .pointer p])]) (fun φ2 => [((φ1 0), .cells #[.bool b, .pointer p] 62)]) (fun φ2 => [(φ1 0), (φ1 0)]) s trivial (fun φ2 => by kernel_rfl) ?_
  intro φ2 w2 s
  refine callF_rule (H := [((φ1 0), .cells #[.bool b, .pointer p] 62)]) (F := []) (some 4) s (idText_c t h (RowH.nil 5 1) (by omega)) (by kernel_rfl) ?_
  intro v3 I3 w3 F3 le3 h3 s
  replace h := TRep.mono le3 h
  simp only [List.nil_append] at h3
  refine sem_rule (convert 22 9 v3) (some 5) (.string ⟨(textT t).toArray⟩) (by kernel_rfl) (run_rowString s h3) ?_
  refine ops_rule (C := []) [((φ1 0), .cells #[.bool b, .pointer p] 62)] F3 1 [] 0 (fun φ4 => [(2, .string ⟨(textT t).toArray⟩)]) (fun φ4 => [((φ1 0), .cells #[.bool b, .pointer p] 62)]) (fun φ4 => []) s trivial (fun φ4 => by kernel_rfl) ?_
  intro φ4 w4 s
  refine ops_done (by kernel_rfl) ?_
  refine wp_ret ?_
  refine ret_rule (C := []) [((φ1 0), .cells #[.bool b, .pointer p] 62)] F3 (.string ⟨(textT t).toArray⟩) [] [] s trivial (by kernel_rfl) ?_
  exact ⟨_, _, _, rfl, s, rfl⟩

end Go.Proofs.YtgdickihjaomjaaDoor
