/- Any fields are the document's card. -/
import Derived.Test.YtcpmjogeafhpnaaDoorMkM24
import Derived.Test.YtcpmjogeafhpnaaDoorRows
import Derived.ProofKit
import Derived.LaidMore
import Derived.OpenShut
import Derived.Lay
import Derived.Stop.Joined
import Derived.Lib.LaidU8T
import Derived.Test.YtcpmjogeafhpnaaDoorMkM16
import Derived.Test.YtcpmjogeafhpnaaDoorMkM22
import Derived.WalkKit
import Derived.Deep.Slices
set_option linter.all false
set_option maxRecDepth 100000
namespace Go.Proofs.YtcpmjogeafhpnaaDoor
open Go.RowKit Go.Sep
attribute [local irreducible] Go.wpList Go.Code.wp

def exI : List Fe := [⟨2, [], [49, 50]⟩, ⟨1, [], [65, 110, 110]⟩]
def exO : List Fe := [⟨1, [], [65, 110, 110]⟩, ⟨2, [], [49, 50]⟩]
theorem fsl_awk {I : IM} {k : Nat} (h : I k = some (.cells #[.int .i64 2, .string ⟨#[]⟩, .string ⟨#[49, 50]⟩, .int .i64 1, .string ⟨#[]⟩, .string ⟨#[65, 110, 110]⟩] 39)) : FSl I exI (.slice (some ⟨k, 0, none⟩) 2 2) := by
  refine ⟨some ⟨k, 0, none⟩, 2, rfl, Nat.le_refl _, fun j x hj => ?_⟩
  match j with
  | 0 => simp only [exI, List.getElem?_cons_zero, Option.some.injEq] at hj; subst hj; exact ⟨k, 0, _, 39, (0, 0), rfl, h, rfl, rfl, rfl⟩
  | 1 => simp only [exI, List.getElem?_cons_succ, List.getElem?_cons_zero, Option.some.injEq] at hj; subst hj; exact ⟨k, 0, _, 39, (0, 0), rfl, h, rfl, rfl, rfl⟩
  | j + 2 => simp [exI] at hj
theorem exMkF : mkF exI = exO := by decide +kernel
theorem exMkE : mkE exI = 0 := by decide +kernel
theorem make2_c {I : IM} {k : Nat} (h : FSl I exI (.slice (some ⟨k, 0, none⟩) 2 2)) (hN : Tx.NmT I) (hT : Tx.U8 I) : Fun Tryd.prog 15 #[.slice (some ⟨k, 0, none⟩) 2 2] I (fun v J => ∃ a c, v = .tuple #[.agg #[.slice a 2 c], .int .i64 0] ∧ FSl J exO (.slice a 2 c)) := by
  have q := make_c (L := exI) h (by decide) hN hT (fun i hi => by
    have : i = 0 ∨ i = 1 := by have : i < 2 := hi; omega
    rcases this with rfl | rfl <;> decide)
  rw [exMkF, exMkE] at q
  exact q
theorem tit2_c {I : IM} {a : Option Addr} {c : Nat} (h : FSl I exO (.slice a 2 c)) : Fun Tryd.prog 26 #[.agg #[.slice a 2 c]] I (fun v J => v = .string ⟨#[65, 110, 110]⟩) := title_c (L := exO) h
theorem len2_c {I : IM} {a : Option Addr} {c : Nat} : Fun Tryd.prog 20 #[.agg #[.slice a 2 c]] I (fun v J => v = .int .i64 2) := len_c (L := exO)

theorem lem9_0 {w : World} : (binOp .eql 9 (.string ⟨#[65, 110, 110]⟩) (.string ⟨#[65, 110, 110]⟩)).run Tryd.prog w = .ok (.bool true) w := by kernel_rfl
set_option maxHeartbeats 1000000 in
theorem awake9_c {I : IM} (hN : Tx.NmT I) (hT : Tx.U8 I) : Fun Tryd.prog 13 #[] I (fun v J => v = .bool true) := by
  refine enter_rule 22 [] Tryd.func13 rfl (by kernel_rfl) ?_
  intro w s
  refine wp_seq ?_
  refine region_rule ?_
  refine ops_rule (C := []) [] [] 1 [] 0 (fun φ1 => [(0, .bool false)]) (fun φ1 => []) (fun φ1 => []) s trivial (fun φ1 => by kernel_rfl) ?_
  intro φ1 w1 s
  refine ops_done (by kernel_rfl) ?_
  refine wp_seq ?_
  refine region_rule ?_
  refine ops_rule (C := []) [] [] 3 [] 1 (fun φ2 => [(6, .slice (some ⟨(φ2 0), 0, none⟩) 2 2), (5, .agg #[.int .i64 1, .string ⟨#[]⟩, .string ⟨#[65, 110, 110]⟩]), (4, .agg #[.int .i64 2, .string ⟨#[]⟩, .string ⟨#[49, 50]⟩])]) (fun φ2 => [((φ2 0), .cells #[.int .i64 2, .string ⟨#[]⟩, .string ⟨#[49, 50]⟩, .int .i64 1, .string ⟨#[]⟩, .string ⟨#[65, 110, 110]⟩] 39)]) (fun φ2 => []) s trivial (fun φ2 => by kernel_rfl) ?_
  intro φ2 w2 s
  obtain ⟨I3, le3, hk3, s⟩ := s.freezeAt 0 (φ2 0) (.cells #[.int .i64 2, .string ⟨#[]⟩, .string ⟨#[49, 50]⟩, .int .i64 1, .string ⟨#[]⟩, .string ⟨#[65, 110, 110]⟩] 39) ([] ++ []) (by kernel_rfl) (by kernel_rfl)
  have hz3 := fsl_awk hk3
  replace hN := Tx.NmT.mono le3 hN
  replace hT := Tx.U8.mono le3 hT
  refine call_rule (some 7) s (make2_c hz3 hN hT) (by kernel_rfl) ?_
  rintro v4 I4 w4 le4 ⟨a4, c4, rfl, h4⟩ s
  replace hN := Tx.NmT.mono le4 hN
  replace hT := Tx.U8.mono le4 hT
  refine ops_rule (C := []) [] [] 6 [.o 0] 1 (fun φ5 => [(2, .int .i64 0), (1, .pointer (some ⟨(φ5 0), 0, none⟩)), (9, .int .i64 0), (8, .agg #[.slice a4 2 c4]), (3, .tuple #[.agg #[.slice a4 2 c4], .int .i64 0])]) (fun φ5 => [((φ5 0), .cells #[.slice a4 2 c4] 26)]) (fun φ5 => [(φ5 0)]) s trivial (fun φ5 => by kernel_rfl) ?_
  intro φ5 w5 s
  refine ops_done (by kernel_rfl) ?_
  refine wp_seq ?_
  refine region_rule ?_
  refine ops_rule (C := []) [((φ5 0), .cells #[.slice a4 2 c4] 26)] [] 4 [.o 0] 0 (fun φ6 => [(13, .agg #[.slice a4 2 c4]), (12, .bool true), (11, .bool true), (10, .int .i64 0)]) (fun φ6 => [((φ5 0), .cells #[.slice a4 2 c4] 26)]) (fun φ6 => [(φ5 0)]) s trivial (fun φ6 => by kernel_rfl) ?_
  intro φ6 w6 s
  refine call_rule (some 14) s (tit2_c h4) (by kernel_rfl) ?_
  intro v7 I7 w7 le7 h7 s
  replace hN := Tx.NmT.mono le7 hN
  replace hT := Tx.U8.mono le7 hT
  replace h4 := FSl.mono le7 h4
  obtain rfl := h7
  refine sem_rule (binOp .eql 9 (.string ⟨#[65, 110, 110]⟩) (.string ⟨#[65, 110, 110]⟩)) (some 15) (.bool true) (by kernel_rfl) (lem9_0) ?_
  refine ops_rule (C := []) [((φ5 0), .cells #[.slice a4 2 c4] 26)] [] 3 [.o 0] 0 (fun φ8 => [(18, .agg #[.slice a4 2 c4]), (17, .bool true), (16, .bool true)]) (fun φ8 => [((φ5 0), .cells #[.slice a4 2 c4] 26)]) (fun φ8 => [(φ5 0)]) s trivial (fun φ8 => by kernel_rfl) ?_
  intro φ8 w8 s
  refine call_rule (some 19) s (len2_c (a := a4) (c := c4)) (by kernel_rfl) ?_
  intro v9 I9 w9 le9 h9 s
  replace hN := Tx.NmT.mono le9 hN
  replace hT := Tx.U8.mono le9 hT
  replace h4 := FSl.mono le9 h4
  obtain rfl := h9
  refine ops_rule (C := []) [((φ5 0), .cells #[.slice a4 2 c4] 26)] [] 3 [] 0 (fun φ10 => [(0, .bool true), (21, .bool true), (20, .bool true)]) (fun φ10 => [((φ5 0), .cells #[.slice a4 2 c4] 26)]) (fun φ10 => []) s trivial (fun φ10 => by kernel_rfl) ?_
  intro φ10 w10 s
  refine ops_done (by kernel_rfl) ?_
  refine wp_ret ?_
  refine ret_rule (C := []) [((φ5 0), .cells #[.slice a4 2 c4] 26)] [] (.bool true) [] [] s trivial (by kernel_rfl) ?_
  exact ⟨_, _, _, rfl, s, rfl⟩

theorem few2_c {I : IM} {L : List Fe} {a0 : Option Addr} {c0 : Nat} (h0 : FSl I (fewF L) (.slice a0 (fewF L).length c0)) : Fun Tryd.prog 14 #[.slice a0 (fewF L).length c0] I (fun v J => ∃ a c, v = .slice a (fewF L).length c ∧ FSl J (fewF L) (.slice a (fewF L).length c)) := by
  have q := few_c h0 (by have := few_len (L := L); omega)
  rw [few_few] at q; exact q

set_option maxHeartbeats 4000000 in
theorem cardMakes_c {I : IM} {L : List Fe} {a0 : Option Addr} {c0 : Nat} (h0 : FSl I L (.slice a0 L.length c0)) (hl : L.length ≤ 9223372036854775807) (hN : Tx.NmT I) (hT : Tx.U8 I) : Fun Tryd.prog 3 #[.slice a0 L.length c0] I (fun v J => v = .bool true) := by
  refine enter_rule 63 [(0, .slice a0 L.length c0)] Tryd.func3 rfl (by kernel_rfl) ?_
  intro w s
  refine wp_seq ?_
  refine region_rule ?_
  refine ops_rule (C := []) [] [] 1 [] 0 (fun φ1 => [(2, .bool false)]) (fun φ1 => []) (fun φ1 => []) s trivial (fun φ1 => by kernel_rfl) ?_
  intro φ1 w1 s
  refine ops_done (by kernel_rfl) ?_
  refine wp_seq ?_
  refine wp_seq ?_
  refine region_rule ?_
  refine call_rule (some 10) s (awake9_c hN hT) (by kernel_rfl) ?_
  intro v2 I2 w2 le2 h2 s
  replace h0 := FSl.mono le2 h0
  replace hN := Tx.NmT.mono le2 hN
  replace hT := Tx.U8.mono le2 hT
  obtain rfl := h2
  refine ops_rule (C := []) [] [] 1 [] 0 (fun φ3 => [(11, .bool false)]) (fun φ3 => []) (fun φ3 => []) s trivial (fun φ3 => by kernel_rfl) ?_
  intro φ3 w3 s
  refine ops_done (by kernel_rfl) ?_
  refine cond_false_rule (b := false) (by kernel_rfl) rfl ?_
  refine wp_skip ?_
  refine wp_seq ?_
  refine region_rule ?_
  refine ops_rule (C := []) [] [] 1 [] 0 (fun φ4 => [(12, .slice a0 L.length c0)]) (fun φ4 => []) (fun φ4 => []) s trivial (fun φ4 => by kernel_rfl) ?_
  intro φ4 w4 s
  refine call_rule (some 13) s (few_c h0 hl) (by kernel_rfl) ?_
  intro v5 I5 w5 le5 h5 s
  replace h0 := FSl.mono le5 h0
  replace hN := Tx.NmT.mono le5 hN
  replace hT := Tx.U8.mono le5 hT
  obtain ⟨a5, c5, rfl, h5_0⟩ := h5
  refine ops_rule (C := []) [] [] 1 [] 0 (fun φ6 => [(0, .slice a5 (List.length (fewF L)) c5)]) (fun φ6 => []) (fun φ6 => []) s trivial (fun φ6 => by kernel_rfl) ?_
  intro φ6 w6 s
  refine ops_done (by kernel_rfl) ?_
  refine wp_seq ?_
  refine region_rule ?_
  refine ops_rule (C := []) [] [] 1 [] 0 (fun φ7 => [(14, .slice a5 (List.length (fewF L)) c5)]) (fun φ7 => []) (fun φ7 => []) s trivial (fun φ7 => by kernel_rfl) ?_
  intro φ7 w7 s
  refine call_rule (some 15) s (few2_c h5_0) (by kernel_rfl) ?_
  intro v8 I8 w8 le8 h8 s
  replace h0 := FSl.mono le8 h0
  replace hN := Tx.NmT.mono le8 hN
  replace hT := Tx.U8.mono le8 hT
  replace h5_0 := FSl.mono le8 h5_0
  obtain ⟨a8, c8, rfl, h8_0⟩ := h8
  refine ops_rule (C := []) [] [] 1 [] 0 (fun φ9 => [(3, .slice a8 (List.length (fewF L)) c8)]) (fun φ9 => []) (fun φ9 => []) s trivial (fun φ9 => by kernel_rfl) ?_
  intro φ9 w9 s
  refine ops_done (by kernel_rfl) ?_
  refine wp_seq ?_
  refine region_rule ?_
  refine ops_rule (C := []) [] [] 1 [] 0 (fun φ10 => [(17, .slice a8 (List.length (fewF L)) c8)]) (fun φ10 => []) (fun φ10 => []) s trivial (fun φ10 => by kernel_rfl) ?_
  intro φ10 w10 s
  refine call_rule (some 18) s (make_c h8_0 (by have := few_len (L := L); omega) hN hT few_shortL) (by kernel_rfl) ?_
  intro v11 I11 w11 le11 h11 s
  replace h0 := FSl.mono le11 h0
  replace hN := Tx.NmT.mono le11 hN
  replace hT := Tx.U8.mono le11 hT
  replace h5_0 := FSl.mono le11 h5_0
  replace h8_0 := FSl.mono le11 h8_0
  obtain ⟨a11, c11, rfl, h11_0⟩ := h11
  refine ops_rule (C := []) [] [] 6 [.o 0] 1 (fun φ12 => [(5, .int .i64 ((mkE (fewF L) : Nat) : Int)), (4, .pointer (some ⟨(φ12 0), 0, none⟩)), (20, .int .i64 ((mkE (fewF L) : Nat) : Int)), (19, .agg #[.slice a11 (List.length (mkF (fewF L))) c11]), (16, .tuple #[.agg #[.slice a11 (List.length (mkF (fewF L))) c11], .int .i64 ((mkE (fewF L) : Nat) : Int)])]) (fun φ12 => [((φ12 0), .cells #[.slice a11 (List.length (mkF (fewF L))) c11] 26)]) (fun φ12 => [(φ12 0)]) s trivial (fun φ12 => by kernel_rfl) ?_
  intro φ12 w12 s
  refine ops_done (by kernel_rfl) ?_
  refine wp_seq ?_
  refine region_rule ?_
  refine ops_rule (C := []) [((φ12 0), .cells #[.slice a11 (List.length (mkF (fewF L))) c11] 26)] [] 1 [] 0 (fun φ13 => [(22, .slice a5 (List.length (fewF L)) c5)]) (fun φ13 => [((φ12 0), .cells #[.slice a11 (List.length (mkF (fewF L))) c11] 26)]) (fun φ13 => []) s trivial (fun φ13 => by kernel_rfl) ?_
  intro φ13 w13 s
  refine call_rule (some 23) s (own9_c h5_0 (by have := few_len (L := L); omega)) (by kernel_rfl) ?_
  intro v14 I14 w14 le14 h14 s
  replace h0 := FSl.mono le14 h0
  replace hN := Tx.NmT.mono le14 hN
  replace hT := Tx.U8.mono le14 hT
  replace h5_0 := FSl.mono le14 h5_0
  replace h8_0 := FSl.mono le14 h8_0
  replace h11_0 := FSl.mono le14 h11_0
  obtain ⟨a14, c14, rfl, h14_0⟩ := h14
  refine call_rule (some 24) s (refMake_c h14_0 (by have := few_len (L := L); omega) few_shortL) (by kernel_rfl) ?_
  intro v15 I15 w15 le15 h15 s
  replace h0 := FSl.mono le15 h0
  replace hN := Tx.NmT.mono le15 hN
  replace hT := Tx.U8.mono le15 hT
  replace h5_0 := FSl.mono le15 h5_0
  replace h8_0 := FSl.mono le15 h8_0
  replace h11_0 := FSl.mono le15 h11_0
  replace h14_0 := FSl.mono le15 h14_0
  obtain ⟨a15, c15, rfl, h15_0⟩ := h15
  refine ops_rule (C := []) [((φ12 0), .cells #[.slice a11 (List.length (mkF (fewF L))) c11] 26)] [] 5 [] 0 (fun φ16 => [(7, .int .i64 ((mkE (fewF L) : Nat) : Int)), (6, .slice a15 (List.length (mkF (fewF L))) c15), (26, .int .i64 ((mkE (fewF L) : Nat) : Int)), (25, .slice a15 (List.length (mkF (fewF L))) c15), (21, .tuple #[.slice a15 (List.length (mkF (fewF L))) c15, .int .i64 ((mkE (fewF L) : Nat) : Int)])]) (fun φ16 => [((φ12 0), .cells #[.slice a11 (List.length (mkF (fewF L))) c11] 26)]) (fun φ16 => []) s trivial (fun φ16 => by kernel_rfl) ?_
  intro φ16 w16 s
  refine ops_done (by kernel_rfl) ?_
  refine wp_seq ?_
  refine wp_seq ?_
  refine region_rule ?_
  refine ops_rule (C := []) [((φ12 0), .cells #[.slice a11 (List.length (mkF (fewF L))) c11] 26)] [] 2 [] 0 (fun φ17 => [(28, .int .i64 ((mkE (fewF L) : Nat) : Int)), (27, .int .i64 ((mkE (fewF L) : Nat) : Int))]) (fun φ17 => [((φ12 0), .cells #[.slice a11 (List.length (mkF (fewF L))) c11] 26)]) (fun φ17 => []) s trivial (fun φ17 => by kernel_rfl) ?_
  intro φ17 w17 s
  refine sem_rule (binOp .neq 3 (.int .i64 ((mkE (fewF L) : Nat) : Int)) (.int .i64 ((mkE (fewF L) : Nat) : Int))) (some 29) (.bool false) (by kernel_rfl) (run_neI3) ?_
  refine ops_rule (C := []) [((φ12 0), .cells #[.slice a11 (List.length (mkF (fewF L))) c11] 26)] [] 2 [.o 0] 0 (fun φ18 => [(31, .agg #[.slice a11 (List.length (mkF (fewF L))) c11]), (30, .bool false)]) (fun φ18 => [((φ12 0), .cells #[.slice a11 (List.length (mkF (fewF L))) c11] 26)]) (fun φ18 => [(φ12 0)]) s trivial (fun φ18 => by kernel_rfl) ?_
  intro φ18 w18 s
  refine call_rule (some 32) s (fieldsL_c h11_0 (by have := mkF_len (L := fewF L); omega)) (by kernel_rfl) ?_
  intro v19 I19 w19 le19 h19 s
  replace h0 := FSl.mono le19 h0
  replace hN := Tx.NmT.mono le19 hN
  replace hT := Tx.U8.mono le19 hT
  replace h5_0 := FSl.mono le19 h5_0
  replace h8_0 := FSl.mono le19 h8_0
  replace h11_0 := FSl.mono le19 h11_0
  replace h14_0 := FSl.mono le19 h14_0
  replace h15_0 := FSl.mono le19 h15_0
  obtain ⟨a19, c19, rfl, h19_0⟩ := h19
  refine call_rule (some 33) s (own9_c h19_0 (by have := mkF_len (L := fewF L); omega)) (by kernel_rfl) ?_
  intro v20 I20 w20 le20 h20 s
  replace h0 := FSl.mono le20 h0
  replace hN := Tx.NmT.mono le20 hN
  replace hT := Tx.U8.mono le20 hT
  replace h5_0 := FSl.mono le20 h5_0
  replace h8_0 := FSl.mono le20 h8_0
  replace h11_0 := FSl.mono le20 h11_0
  replace h14_0 := FSl.mono le20 h14_0
  replace h15_0 := FSl.mono le20 h15_0
  replace h19_0 := FSl.mono le20 h19_0
  obtain ⟨a20, c20, rfl, h20_0⟩ := h20
  refine ops_rule (C := []) [((φ12 0), .cells #[.slice a11 (List.length (mkF (fewF L))) c11] 26)] [] 1 [] 0 (fun φ21 => [(34, .slice a15 (List.length (mkF (fewF L))) c15)]) (fun φ21 => [((φ12 0), .cells #[.slice a11 (List.length (mkF (fewF L))) c11] 26)]) (fun φ21 => []) s trivial (fun φ21 => by kernel_rfl) ?_
  intro φ21 w21 s
  refine call_rule (some 35) s (sameF_c h20_0 h15_0 (by have := mkF_len (L := fewF L); omega)) (by kernel_rfl) ?_
  intro v22 I22 w22 le22 h22 s
  replace h0 := FSl.mono le22 h0
  replace hN := Tx.NmT.mono le22 hN
  replace hT := Tx.U8.mono le22 hT
  replace h5_0 := FSl.mono le22 h5_0
  replace h8_0 := FSl.mono le22 h8_0
  replace h11_0 := FSl.mono le22 h11_0
  replace h14_0 := FSl.mono le22 h14_0
  replace h15_0 := FSl.mono le22 h15_0
  replace h19_0 := FSl.mono le22 h19_0
  replace h20_0 := FSl.mono le22 h20_0
  obtain rfl := h22
  refine ops_rule (C := []) [((φ12 0), .cells #[.slice a11 (List.length (mkF (fewF L))) c11] 26)] [] 4 [.o 0] 0 (fun φ23 => [(39, .agg #[.slice a11 (List.length (mkF (fewF L))) c11]), (38, .bool false), (37, .bool false), (36, .bool false)]) (fun φ23 => [((φ12 0), .cells #[.slice a11 (List.length (mkF (fewF L))) c11] 26)]) (fun φ23 => [(φ12 0)]) s trivial (fun φ23 => by kernel_rfl) ?_
  intro φ23 w23 s
  refine call_rule (some 40) s (len_c (L := (mkF (fewF L))) (a0 := a11) (c0 := c11)) (by kernel_rfl) ?_
  intro v24 I24 w24 le24 h24 s
  replace h0 := FSl.mono le24 h0
  replace hN := Tx.NmT.mono le24 hN
  replace hT := Tx.U8.mono le24 hT
  replace h5_0 := FSl.mono le24 h5_0
  replace h8_0 := FSl.mono le24 h8_0
  replace h11_0 := FSl.mono le24 h11_0
  replace h14_0 := FSl.mono le24 h14_0
  replace h15_0 := FSl.mono le24 h15_0
  replace h19_0 := FSl.mono le24 h19_0
  replace h20_0 := FSl.mono le24 h20_0
  obtain rfl := h24
  refine ops_rule (C := []) [((φ12 0), .cells #[.slice a11 (List.length (mkF (fewF L))) c11] 26)] [] 5 [] 0 (fun φ25 => [(45, .bool (((List.length (mkF (fewF L)) : Nat) : Int) != (((List.length (mkF (fewF L))) : Nat) : Int))), (44, .bool (((List.length (mkF (fewF L)) : Nat) : Int) != (((List.length (mkF (fewF L))) : Nat) : Int))), (43, .bool (((List.length (mkF (fewF L)) : Nat) : Int) != (((List.length (mkF (fewF L))) : Nat) : Int))), (42, .int .i64 (((List.length (mkF (fewF L))) : Nat) : Int)), (41, .slice a15 (List.length (mkF (fewF L))) c15)]) (fun φ25 => [((φ12 0), .cells #[.slice a11 (List.length (mkF (fewF L))) c11] 26)]) (fun φ25 => []) s trivial (fun φ25 => by kernel_rfl) ?_
  intro φ25 w25 s
  rw [nat_neq (a := (List.length (mkF (fewF L)))) (b := (List.length (mkF (fewF L))))]
  rcases Bool.eq_false_or_eq_true (decide ((List.length (mkF (fewF L))) ≠ (List.length (mkF (fewF L))))) with hc26 | hc26
  ·
    exact absurd rfl (of_decide_eq_true hc26)
  ·
    rw [hc26]
    refine ops_rule (C := []) [((φ12 0), .cells #[.slice a11 (List.length (mkF (fewF L))) c11] 26)] [] 2 [] 0 (fun φ27 => [(47, .slice a5 (List.length (fewF L)) c5), (46, .slice a8 (List.length (fewF L)) c8)]) (fun φ27 => [((φ12 0), .cells #[.slice a11 (List.length (mkF (fewF L))) c11] 26)]) (fun φ27 => []) s trivial (fun φ27 => by kernel_rfl) ?_
    intro φ27 w27 s
    refine call_rule (some 48) s (equalF_c h8_0 h5_0 (by have := few_len (L := L); omega)) (by kernel_rfl) ?_
    intro v28 I28 w28 le28 h28 s
    replace h0 := FSl.mono le28 h0
    replace hN := Tx.NmT.mono le28 hN
    replace hT := Tx.U8.mono le28 hT
    replace h5_0 := FSl.mono le28 h5_0
    replace h8_0 := FSl.mono le28 h8_0
    replace h11_0 := FSl.mono le28 h11_0
    replace h14_0 := FSl.mono le28 h14_0
    replace h15_0 := FSl.mono le28 h15_0
    replace h19_0 := FSl.mono le28 h19_0
    replace h20_0 := FSl.mono le28 h20_0
    obtain rfl := h28
    refine ops_rule (C := []) [((φ12 0), .cells #[.slice a11 (List.length (mkF (fewF L))) c11] 26)] [] 2 [] 0 (fun φ29 => [(50, .bool false), (49, .bool false)]) (fun φ29 => [((φ12 0), .cells #[.slice a11 (List.length (mkF (fewF L))) c11] 26)]) (fun φ29 => []) s trivial (fun φ29 => by kernel_rfl) ?_
    intro φ29 w29 s
    refine ops_done (by kernel_rfl) ?_
    refine cond_false_rule (b := false) (by kernel_rfl) rfl ?_
    refine wp_skip ?_
    refine wp_seq ?_
    refine wp_seq ?_
    refine region_rule ?_
    refine ops_rule (C := []) [((φ12 0), .cells #[.slice a11 (List.length (mkF (fewF L))) c11] 26)] [] 3 [] 0 (fun φ30 => [(53, .int .i64 0), (52, .int .i64 (((List.length (fewF L)) : Nat) : Int)), (51, .slice a5 (List.length (fewF L)) c5)]) (fun φ30 => [((φ12 0), .cells #[.slice a11 (List.length (mkF (fewF L))) c11] 26)]) (fun φ30 => []) s trivial (fun φ30 => by kernel_rfl) ?_
    intro φ30 w30 s
    refine ops_done (by kernel_rfl) ?_
    refine wp_block ?_
    have hle31 := IM.Le.refl I28
    refine loop_rule (fun (x : Nat) => [(51, .slice a5 (List.length (fewF L)) c5), (52, .int .i64 (((List.length (fewF L)) : Nat) : Int)), (53, .int .i64 ((x : Nat) : Int))]) (fun (x : Nat) => [((φ12 0), .cells #[.slice a11 (List.length (mkF (fewF L))) c11] 26)]) (fun m (x : Nat) J => IM.Le I28 J ∧ x + m = (fewF L).length) ((fewF L).length) 0 s (by kernel_rfl) (List.Sublist.cons₂ _ List.Sublist.slnil) ⟨IM.Le.refl _, Nat.zero_add _⟩ ?_
    rintro m32 i32 I32 w32 ev32 s ⟨le32, hi32_0⟩
    try dsimp only at s hi32_0 ⊢
    replace h0 := FSl.mono le32 h0
    replace hN := Tx.NmT.mono le32 hN
    replace hT := Tx.U8.mono le32 hT
    replace h5_0 := FSl.mono le32 h5_0
    replace h8_0 := FSl.mono le32 h8_0
    replace h11_0 := FSl.mono le32 h11_0
    replace h14_0 := FSl.mono le32 h14_0
    replace h15_0 := FSl.mono le32 h15_0
    replace h19_0 := FSl.mono le32 h19_0
    replace h20_0 := FSl.mono le32 h20_0
    replace hle31 := leMono le32 hle31
    refine wp_seq ?_
    refine region_rule ?_
    refine ops_rule (C := []) [((φ12 0), .cells #[.slice a11 (List.length (mkF (fewF L))) c11] 26)] [] 1 [] 0 (fun φ33 => [(54, .bool (decide (((i32 : Nat) : Int) < (((List.length (fewF L)) : Nat) : Int))))]) (fun φ33 => [((φ12 0), .cells #[.slice a11 (List.length (mkF (fewF L))) c11] 26)]) (fun φ33 => []) s trivial (fun φ33 => by kernel_rfl) ?_
    intro φ33 w33 s
    rw [nat_lss (a := i32) (b := (List.length (fewF L)))]
    refine ops_done (by kernel_rfl) ?_
    refine wp_seq ?_
    rcases Bool.eq_false_or_eq_true (decide (i32 < (List.length (fewF L)))) with hc34 | hc34
    ·
      rw [hc34]
      refine cond_true_rule (b := true) (by kernel_rfl) rfl ?_
      refine wp_skip ?_
      refine wp_seq ?_
      refine wp_block ?_
      refine wp_seq ?_
      refine region_rule ?_
      refine sem_rule (Instr.indexAt 22 (.slice a5 (List.length (fewF L)) c5) (.int .i64 ((i32 : Nat) : Int))) (some 55) (.pointer (pAt a5 (i32 * 3))) (by kernel_rfl) (fsl_idx22 h5_0 (by have e8 := hi32_0; have e7 := few_len (L := L); have hq0 := of_decide_eq_false hc26; have hq1 := of_decide_eq_true hc34; omega)) ?_
      refine sem_rule (Instr.loadAt 39 (.pointer (pAt a5 (i32 * 3)))) (some 56) (.agg #[.int .i64 ((List.getD (fewF L) i32 Fe.z).k), .string ⟨((List.getD (fewF L) i32 Fe.z).a).toArray⟩, .string ⟨((List.getD (fewF L) i32 Fe.z).v).toArray⟩]) (by kernel_rfl) (fsl_ld39 s.sub h5_0 (by have e8 := hi32_0; have e7 := few_len (L := L); have hq0 := of_decide_eq_false hc26; have hq1 := of_decide_eq_true hc34; omega)) ?_
      refine ops_rule (C := []) [((φ12 0), .cells #[.slice a11 (List.length (mkF (fewF L))) c11] 26)] [] 2 [.o 1, .o 1, .o 1] 1 (fun φ35 => [(9, .pointer (some ⟨(φ35 0), 0, none⟩))]) (fun φ35 => [((φ12 0), .cells #[.slice a11 (List.length (mkF (fewF L))) c11] 26), ((φ35 0), .cells #[.int .i64 ((List.getD (fewF L) i32 Fe.z).k), .string ⟨((List.getD (fewF L) i32 Fe.z).a).toArray⟩, .string ⟨((List.getD (fewF L) i32 Fe.z).v).toArray⟩] 39)]) (fun φ35 => [(φ35 0), (φ35 0), (φ35 0)]) s trivial (fun φ35 => by kernel_rfl) ?_
      intro φ35 w35 s
      refine ops_done (by kernel_rfl) ?_
      refine wp_seq ?_
      refine draw_rule (C := []) ⟨(fun φ36 xs36 => [.look 0 [.o 1, .o 1, .o 1] [(φ35 0), (φ35 0), (φ35 0)], .call 22 #[.agg #[.int .i64 ((List.getD (fewF L) i32 Fe.z).k), .string ⟨((List.getD (fewF L) i32 Fe.z).a).toArray⟩, .string ⟨((List.getD (fewF L) i32 Fe.z).v).toArray⟩]], .look 0 [.o 1, .o 1, .o 1] [(φ35 0), (φ35 0), (φ35 0)], .call 23 #[.agg #[.int .i64 ((List.getD (fewF L) i32 Fe.z).k), .string ⟨((List.getD (fewF L) i32 Fe.z).a).toArray⟩, .string ⟨((List.getD (fewF L) i32 Fe.z).v).toArray⟩]], .ran (binOp .neq 3 (.int .i64 ((rtFe (List.getD (fewF L) i32 Fe.z) : Nat) : Int)) (.int .i64 ((rtFe (List.getD (fewF L) i32 Fe.z) : Nat) : Int)))]), (fun φ36 xs36 => [.agg #[.int .i64 ((List.getD (fewF L) i32 Fe.z).k), .string ⟨((List.getD (fewF L) i32 Fe.z).a).toArray⟩, .string ⟨((List.getD (fewF L) i32 Fe.z).v).toArray⟩], .int .i64 ((rtFe (List.getD (fewF L) i32 Fe.z) : Nat) : Int), .agg #[.int .i64 ((List.getD (fewF L) i32 Fe.z).k), .string ⟨((List.getD (fewF L) i32 Fe.z).a).toArray⟩, .string ⟨((List.getD (fewF L) i32 Fe.z).v).toArray⟩], .int .i64 ((rtFe (List.getD (fewF L) i32 Fe.z) : Nat) : Int), .bool false]), (fun φ36 xs36 => [[((φ12 0), .cells #[.slice a11 (List.length (mkF (fewF L))) c11] 26), ((φ35 0), .cells #[.int .i64 ((List.getD (fewF L) i32 Fe.z).k), .string ⟨((List.getD (fewF L) i32 Fe.z).a).toArray⟩, .string ⟨((List.getD (fewF L) i32 Fe.z).v).toArray⟩] 39)]]), (fun φ36 xs36 => [[default, default, default, default, default]]), [], [1, 3, 1, 3, 6]⟩ (fun j => ([MP.any, MP.any, MP.any, MP.any, MP.any] : List MP).getD j MP.any) [1, 3] [] [4] (fun φ36 xs36 => []) (fun φ36 xs36 => [(57, .agg #[.int .i64 ((List.getD (fewF L) i32 Fe.z).k), .string ⟨((List.getD (fewF L) i32 Fe.z).a).toArray⟩, .string ⟨((List.getD (fewF L) i32 Fe.z).v).toArray⟩]), (58, .int .i64 ((rtFe (List.getD (fewF L) i32 Fe.z) : Nat) : Int)), (59, .agg #[.int .i64 ((List.getD (fewF L) i32 Fe.z).k), .string ⟨((List.getD (fewF L) i32 Fe.z).a).toArray⟩, .string ⟨((List.getD (fewF L) i32 Fe.z).v).toArray⟩]), (60, .int .i64 ((rtFe (List.getD (fewF L) i32 Fe.z) : Nat) : Int)), (61, .bool false)]) (fun φ36 xs36 => [((φ12 0), .cells #[.slice a11 (List.length (mkF (fewF L))) c11] 26), ((φ35 0), .cells #[.int .i64 ((List.getD (fewF L) i32 Fe.z).k), .string ⟨((List.getD (fewF L) i32 Fe.z).a).toArray⟩, .string ⟨((List.getD (fewF L) i32 Fe.z).v).toArray⟩] 39)]) s trivial (by kernel_rfl) (by kernel_rfl) (fun _ _ => by kernel_rfl) (fun _ _ => by kernel_rfl) ⟨fun _ _ => by kernel_rfl, fun _ _ => by kernel_rfl, fun _ _ => by kernel_rfl, fun _ _ => by kernel_rfl⟩ (fun _ _ _ => by kernel_rfl) (fun _ _ => by kernel_rfl) (fun _ _ => by kernel_rfl) (fun _ _ => by kernel_rfl) (fun _ _ => by kernel_rfl) (fun _ _ => by kernel_rfl) trivial ⟨kcast (A := ∀ (φ36 : Nat → Nat) (xs36 : Xs) (J : IM) (w : World), I32.Le J → J.Sub w → ((binOp .neq 3 (.int .i64 ((rtFe (List.getD (fewF L) i32 Fe.z) : Nat) : Int)) (.int .i64 ((rtFe (List.getD (fewF L) i32 Fe.z) : Nat) : Int))) : Sem Value).run Tryd.prog w = .ok (.bool false) w) (by kernel_rfl) (fun φ36 xs36 J w hJ hS => run_neI3), trivial⟩ (by kernel_rfl) ⟨?c36_1, ?c36_3, trivial⟩ ?k36
      case c36_1 =>
        refine kcast (A := ∀ (φ36 : Nat → Nat) (xs36 : Xs) (J1_36 : IM), I32.Le J1_36 → Fun Tryd.prog 22 #[.agg #[.int .i64 ((List.getD (fewF L) i32 Fe.z).k), .string ⟨((List.getD (fewF L) i32 Fe.z).a).toArray⟩, .string ⟨((List.getD (fewF L) i32 Fe.z).v).toArray⟩]] J1_36 (fun v J' => ∃ x : UX, v = .int .i64 ((rtFe (List.getD (fewF L) i32 Fe.z) : Nat) : Int) ∧ (True))) (by kernel_rfl) ?_
        intro φ36 xs36 J1_36 leJ
        have hN := Tx.NmT.mono leJ hN
        have hT := Tx.U8.mono leJ hT
        exact Fun.mono (rightX_c (x := (List.getD (fewF L) i32 Fe.z)) hN hT (few_shortL _ (by have hq0 := of_decide_eq_false hc26; have hq1 := of_decide_eq_true hc34; have e8 := hi32_0; have e7 := few_len (L := L); omega))) (fun v J' _ h => ⟨UX.d, h, trivial⟩)
      case c36_3 =>
        refine kcast (A := ∀ (φ36 : Nat → Nat) (xs36 : Xs) (J3_36 : IM), I32.Le J3_36 → (True) → Fun Tryd.prog 23 #[.agg #[.int .i64 ((List.getD (fewF L) i32 Fe.z).k), .string ⟨((List.getD (fewF L) i32 Fe.z).a).toArray⟩, .string ⟨((List.getD (fewF L) i32 Fe.z).v).toArray⟩]] J3_36 (fun v J' => ∃ x : UX, v = .int .i64 ((rtFe (List.getD (fewF L) i32 Fe.z) : Nat) : Int) ∧ (True))) (by kernel_rfl) ?_
        intro φ36 xs36 J3_36 leJ
        rintro _
        exact Fun.mono (refRightX_c (x := (List.getD (fewF L) i32 Fe.z)) (few_shortL _ (by have hq0 := of_decide_eq_false hc26; have hq1 := of_decide_eq_true hc34; have e8 := hi32_0; have e7 := few_len (L := L); omega))) (fun v J' _ h => ⟨UX.d, h, trivial⟩)
      case k36 =>
        rintro φ36 xs36 I36 w36 le36 s _ _
        replace h0 := FSl.mono le36 h0
        replace hN := Tx.NmT.mono le36 hN
        replace hT := Tx.U8.mono le36 hT
        replace h5_0 := FSl.mono le36 h5_0
        replace h8_0 := FSl.mono le36 h8_0
        replace h11_0 := FSl.mono le36 h11_0
        replace h14_0 := FSl.mono le36 h14_0
        replace h15_0 := FSl.mono le36 h15_0
        replace h19_0 := FSl.mono le36 h19_0
        replace h20_0 := FSl.mono le36 h20_0
        replace hle31 := leMono le36 hle31
        refine cond_false_rule (b := false) (by kernel_rfl) rfl ?_
        refine wp_skip ?_
        refine region_rule ?_
        refine ops_rule (C := []) [((φ12 0), .cells #[.slice a11 (List.length (mkF (fewF L))) c11] 26), ((φ35 0), .cells #[.int .i64 ((List.getD (fewF L) i32 Fe.z).k), .string ⟨((List.getD (fewF L) i32 Fe.z).a).toArray⟩, .string ⟨((List.getD (fewF L) i32 Fe.z).v).toArray⟩] 39)] [] 2 [] 0 (fun φ37 => [(53, .int .i64 (IntKind.wrap .i64 (((i32 : Nat) : Int) + ((1 : Nat) : Int)))), (62, .int .i64 (IntKind.wrap .i64 (((i32 : Nat) : Int) + ((1 : Nat) : Int))))]) (fun φ37 => [((φ12 0), .cells #[.slice a11 (List.length (mkF (fewF L))) c11] 26), ((φ35 0), .cells #[.int .i64 ((List.getD (fewF L) i32 Fe.z).k), .string ⟨((List.getD (fewF L) i32 Fe.z).a).toArray⟩, .string ⟨((List.getD (fewF L) i32 Fe.z).v).toArray⟩] 39)]) (fun φ37 => []) s trivial (fun φ37 => by kernel_rfl) ?_
        intro φ37 w37 s
        rw [nat_addI (a := i32) (b := 1) (by have e8 := hi32_0; have e7 := few_len (L := L); have hq0 := of_decide_eq_false hc26; have hq1 := of_decide_eq_true hc34; omega)]
        refine ops_done (by kernel_rfl) ?_
        exact ⟨⟨m32 - 1, i32 + 1, _, _, _, by have hq0 := of_decide_eq_false hc26; have hq1 := of_decide_eq_true hc34; have := hi32_0; omega, rfl, s, (List.Sublist.cons₂ _ (List.Sublist.cons _ List.Sublist.slnil)), by kernel_rfl, hle31, by have hq0 := of_decide_eq_false hc26; have hq1 := of_decide_eq_true hc34; have := hi32_0; show i32 + 1 + (m32 - 1) = (fewF L).length; omega⟩⟩
    ·
      rw [hc34]
      refine cond_false_rule (b := false) (by kernel_rfl) rfl ?_
      refine wp_exit ?_
      refine wp_seq ?_
      refine region_rule ?_
      refine ops_rule (C := []) [((φ12 0), .cells #[.slice a11 (List.length (mkF (fewF L))) c11] 26)] [] 1 [] 0 (fun φ38 => [(2, .bool true)]) (fun φ38 => [((φ12 0), .cells #[.slice a11 (List.length (mkF (fewF L))) c11] 26)]) (fun φ38 => []) s trivial (fun φ38 => by kernel_rfl) ?_
      intro φ38 w38 s
      refine ops_done (by kernel_rfl) ?_
      refine wp_ret ?_
      refine ret_rule (C := []) [((φ12 0), .cells #[.slice a11 (List.length (mkF (fewF L))) c11] 26)] [] (.bool true) [] [] s trivial (by kernel_rfl) ?_
      exact ⟨_, _, _, rfl, s, rfl⟩

end Go.Proofs.YtcpmjogeafhpnaaDoor
/- What the laid variables give. -/
set_option linter.all false
set_option maxRecDepth 100000
namespace Go.Proofs.YtcpmjogeafhpnaaDoor
open Go.RowKit Go.Sep Go.Lib
theorem ownKnob_none : ownKnob Tryd.prog.godebug = none := by kernel_rfl
abbrev laidT : List (String × DataW Unit) := Rows.cardMakesRow.laid
theorem tabs_of_laid {W : World} (h : laidMetH Tryd.prog laidT W) : Lib.Utf8Tabs 1 2 W := by
  rw [MakeChecks.laidMetH_plain _ _ _ (by kernel_rfl)] at h
  have h4 := Lib.laidMet.reads h (.head _)
  have h3 := Lib.laidMet.reads h (.tail _ (.tail _ (.head _)))
  exact utf8Tabs_of_readsT (ρ := Tryd.lays196_ren) (U8Types.of196 Tryd.lays196) ⟨by kernel_rfl, by kernel_rfl, by kernel_rfl, by kernel_rfl, by kernel_rfl, by kernel_rfl, by kernel_rfl⟩ (kcast (by kernel_rfl) h3) (kcast (by kernel_rfl) h4)
theorem block_of {W : World} {b o : Nat} {v : Value} (h : W.cell? ⟨b, o, none⟩ = some v) : ∃ cs T fr, W.heap[b]? = some (.cells cs T fr) ∧ cs[o]? = some v := by
  unfold World.cell? at h
  cases hb : W.heap[b]? with
  | none => simp [hb] at h
  | some ob =>
    cases ob <;> simp [hb] at h
    exact ⟨_, _, _, rfl, h⟩
theorem nm_of_laid {W : World} (h : laidMetH Tryd.prog laidT W) : Tx.NmT (fun k => W.heap[k]?) := by
  rw [MakeChecks.laidMetH_plain _ _ _ (by kernel_rfl)] at h
  obtain ⟨g, t, cs, fuel, p, hg, hty, hvar, hd⟩ := Lib.laidMet.reads h (.tail _ (.head _))
  obtain rfl := Option.some.inj ((show Tryd.prog.globalNamed "kinfolk/card.names" = some 0 by kernel_rfl).symm.trans hg)
  obtain rfl := Option.some.inj ((show (Tryd.prog.globals[0]?).map (·.type) = some 98 by kernel_rfl).symm.trans hty)
  have one : ∀ i, i < 7 → W.cell? ⟨0, i, none⟩ = some (.string ⟨(Tx.nmL.getD i []).toArray⟩) := fun i hi => by
    obtain ⟨fuel', d, q, hdi, he⟩ := array_elem (show Tryd.prog.underlying 98 = some (.array 7 9) by kernel_rfl) hd i hi
    have hdl : d = DataW.lit (.string (Tx.nmL.getD i [])) := by
      have : i = 0 ∨ i = 1 ∨ i = 2 ∨ i = 3 ∨ i = 4 ∨ i = 5 ∨ i = 6 := by omega
      rcases this with rfl | rfl | rfl | rfl | rfl | rfl | rfl <;> exact (Option.some.inj hdi).symm
    subst hdl
    obtain ⟨s, hc, hx, -⟩ := DataW.trod_string Tryd.underlying9 he
    have hs : s = ⟨(Tx.nmL.getD i []).toArray⟩ := by
      have h1 := congrArg Prod.fst hx
      simp only [DataW.lit.injEq, Lit.string.injEq] at h1
      obtain ⟨⟨l⟩⟩ := s
      simp only at h1
      exact congrArg ByteArray.mk (congrArg Array.mk h1.symm)
    rw [show Tryd.prog.cellsOf 9 = 1 by kernel_rfl] at hc
    have e0 := congrArg (·[0]?) hc
    simp only [List.getElem?_take, List.getElem?_drop] at e0
    have h2 := World.var?_cell hg hvar i
    rw [← Array.getElem?_toList] at h2
    rw [← hs]
    exact h2.trans (by simpa using e0)
  obtain ⟨cs', T, fr, e1, -⟩ := block_of (one 0 (by decide))
  refine ⟨cs', T, fr, e1, fun i hi => ?_⟩
  obtain ⟨cs2, T2, fr2, f1, f2⟩ := block_of (one i hi)
  rw [e1] at f1
  cases f1
  exact f2
theorem cell_up {W w : World} (hw : IM.Sub (fun k => W.heap[k]?) w) {a : Addr} {v : Value} (h : W.cell? a = some v) : w.cell? a = some v := by
  unfold World.cell? at h ⊢
  cases e : W.heap[a.block]? with
  | none => rw [e] at h; cases h
  | some o => rw [hw _ _ e]; rw [e] at h; exact h
theorem u8_of_laid {W : World} (h : laidMetH Tryd.prog laidT W) : Tx.U8 (fun k => W.heap[k]?) := fun w hw =>
  have t := tabs_of_laid h
  ⟨fun c hc => cell_up hw (t.1 c hc), fun i hi => ⟨cell_up hw (t.2 i hi).1, cell_up hw (t.2 i hi).2⟩⟩
theorem met_wit (os : Os) (args : Array Value) : laidMetH Tryd.prog laidT ((World.laidAll Tryd.prog os laidT).forCall (fun _ _ => 0) ⟨#[], args, []⟩).memory := by
  rw [MakeChecks.laidMetH_plain _ _ _ (by kernel_rfl)]; exact laidMet_laidAll _ (by kernel_rfl) (by kernel_rfl)
end Go.Proofs.YtcpmjogeafhpnaaDoor
/- A slice of bytes that came in, as the contracts want it. -/
set_option linter.all false
namespace Go.Proofs.YtcpmjogeafhpnaaDoor
open Go.RowKit Go.Sep

theorem cell_block {w : World} {b o : Nat} {v : Value} (h : w.cell? ⟨b, o, none⟩ = some v) : ∃ cs T fr, w.heap[b]? = some (.cells cs T fr) ∧ cs[o]? = some v := by
  unfold World.cell? at h
  cases hb : w.heap[b]? with
  | none => simp [hb] at h
  | some ob =>
    cases ob <;> simp [hb] at h
    exact ⟨_, _, _, rfl, h⟩
end Go.Proofs.YtcpmjogeafhpnaaDoor
/- Slices of fields that came in. -/
set_option linter.all false
set_option maxRecDepth 100000
namespace Go.Proofs.YtcpmjogeafhpnaaDoor
open Go.Sep
open Go.ChangeShapes Go.WideShapes Go.ChangeAt Go.RowKit
structure FX where
  k : Int
  a : List UInt8
  v : List UInt8
def FX.d : FX := ⟨0, [], []⟩
instance : Inhabited FX := ⟨FX.d⟩
def FXl (I : IM) (L : List FX) (v : Value) : Prop := ∃ a cap, v = .slice a L.length cap ∧ L.length ≤ cap ∧ ∀ (j : Nat) (x : FX), L[j]? = some x → (-9223372036854775808 ≤ x.k ∧ x.k < 9223372036854775808 ∧ x.a.length ≤ maxLen ∧ x.v.length ≤ maxLen) ∧ ∃ (b o : Nat) (cs : Array Value) (T : TypeId) (fr : Nat × Nat), a = some ⟨b, o, none⟩ ∧ I b = some (.cells cs T fr) ∧ cs[o + j * 3]? = some (.int .i64 x.k) ∧ cs[o + j * 3 + 1]? = some (.string ⟨x.a.toArray⟩) ∧ cs[o + j * 3 + 2]? = some (.string ⟨x.v.toArray⟩)
theorem FXl.mono {I J : IM} (le : I.Le J) {L : List FX} {v : Value} (h : FXl I L v) : FXl J L v := by
  obtain ⟨a, cap, hv, hc, hr⟩ := h
  refine ⟨a, cap, hv, hc, fun j x hj => ?_⟩
  obtain ⟨hx, b, o, cs, T, fr, h1, h2, h3, h4, h5⟩ := hr j x hj
  exact ⟨hx, b, o, cs, T, fr, h1, le _ _ h2, h3, h4, h5⟩
theorem FXl.cap {I : IM} {L : List FX} {a : Option Addr} {n c : Nat} (h : FXl I L (.slice a n c)) : n = L.length ∧ L.length ≤ c := by
  obtain ⟨a', c', hv, hc, _⟩ := h
  cases hv; exact ⟨rfl, hc⟩
theorem fXl_nil (I : IM) : FXl I [] (.slice none 0 0) := ⟨none, 0, rfl, Nat.le_refl _, fun j x h => by simp at h⟩
theorem fXl_cells {cs : List Value} (h : cs.length = 3) : ∃ v0 v1 v2, cs = [v0, v1, v2] := by
  match cs, h with
  | [v0, v1, v2], _ => exact ⟨v0, v1, v2, rfl⟩
theorem fXl_open {H : Type} {enc : TypeId × Value → H} {w : World} {fuel : Nat} {a0 : Option Addr} {len0 cap0 : Nat} {x : DataW H × List MemPlace} (hf : DataW.trod enc Tryd.prog w 0 (fun _ => true) true fuel 22 [.slice a0 len0 cap0] = some x) :
    ∃ L, FXl (fun k => w.heap[k]?) L (.slice a0 len0 cap0) ∧ L.length ≤ maxLen := by
  rcases Go.Deep.open_slice Tryd.underlying22 hf with ⟨hcs, _⟩ | ⟨a, len, cap, m, n, D, Pl, hcs, _, hl, hml, hm, _, hx⟩
  · simp at hcs
    obtain ⟨rfl, rfl, rfl⟩ := hcs
    exact ⟨[], fXl_nil _, Nat.zero_le _⟩
  · simp at hcs
    obtain ⟨rfl, rfl, rfl⟩ := hcs
    have hm' : m = cap0 := by simpa using hm
    subst hm'
    have ce : Tryd.prog.cellsOf 39 = 3 := by kernel_rfl
    have c3 : Tryd.prog.cellsOf 3 = 1 := by kernel_rfl
    have c9 : Tryd.prog.cellsOf 9 = 1 := by kernel_rfl
    have one : ∀ i, i < len0 → ∃ y : FX, (-9223372036854775808 ≤ y.k ∧ y.k < 9223372036854775808 ∧ y.a.length ≤ maxLen ∧ y.v.length ≤ maxLen) ∧ w.cell? (a.add (i * 3)) = some (.int .i64 y.k) ∧ w.cell? (a.add (i * 3 + 1)) = some (.string ⟨y.a.toArray⟩) ∧ w.cell? (a.add (i * 3 + 2)) = some (.string ⟨y.v.toArray⟩) := by
      intro i hi
      obtain ⟨cs', h1, h2⟩ := hx i (by omega)
      rw [ce] at h1
      obtain ⟨_, hlen, hcell⟩ := World.cells?_some h1
      obtain ⟨xs, n', _, _, _, hxl, hfs⟩ := DataW.trod_struct Tryd.underlying39 h2
      obtain ⟨v0, v1, v2, rfl⟩ := fXl_cells hlen
      have hxl' : xs.length = 3 := hxl
      have hx0 : 0 < xs.length := by omega
      have t0 := hfs 0 _ rfl
      rw [List.getElem?_eq_getElem hx0] at t0
      simp [c3] at t0
      obtain ⟨y0, e0, _, b0⟩ := DataW.trod_int Tryd.underlying3 t0
      simp at e0
      subst e0
      have hx1 : 1 < xs.length := by omega
      have t1 := hfs 1 _ rfl
      rw [List.getElem?_eq_getElem hx1] at t1
      simp [c9] at t1
      obtain ⟨y1, e1, _, b1⟩ := DataW.trod_string Tryd.underlying9 t1
      simp at e1
      subst e1
      have hx2 : 2 < xs.length := by omega
      have t2 := hfs 2 _ rfl
      rw [List.getElem?_eq_getElem hx2] at t2
      simp [c9] at t2
      obtain ⟨y2, e2, _, b2⟩ := DataW.trod_string Tryd.underlying9 t2
      simp at e2
      subst e2
      have d0 : -9223372036854775808 ≤ y0 ∧ y0 < 9223372036854775808 := by
        have := b0; simp [Lit.wf, IntKind.min, IntKind.max, IntKind.signed, IntKind.bits] at this; omega
      have g0 := hcell 0 (by omega)
      have g1 := hcell 1 (by omega)
      have g2 := hcell 2 (by omega)
      rw [Go.Deep.add_add] at g0 g1 g2
      exact ⟨⟨y0, y1.data.toList, y2.data.toList⟩, ⟨d0.1, d0.2, b1, b2⟩, (by simpa using g0), (by simpa using g1), (by simpa using g2)⟩
    obtain ⟨f, hfn⟩ := Go.Deep.choose_lt one
    refine ⟨(List.range len0).map f, ⟨some a, m, by simp, by simpa using hl, fun j y hj => ?_⟩, by simp; omega⟩
    have hj' : j < len0 := by
      have := (List.getElem?_eq_some_iff.1 hj).1
      simpa using this
    have hy : y = f j := by simpa [hj'] using hj.symm
    subst hy
    obtain ⟨hb, h0, h1, h2⟩ := hfn j hj'
    obtain ⟨b, o, sp⟩ := a
    cases sp with
    | none =>
      rw [addr_addO b o (j * 3)] at h0
      obtain ⟨cs0, T0, fr0, e0, k0⟩ := cell_block h0
      rw [addr_addO b o (j * 3 + 1)] at h1
      obtain ⟨cs1, T1, fr1, e1, k1⟩ := cell_block h1
      rw [addr_addO b o (j * 3 + 2)] at h2
      obtain ⟨cs2, T2, fr2, e2, k2⟩ := cell_block h2
      rw [e0] at e1
      cases e1
      rw [e0] at e2
      cases e2
      exact ⟨hb, b, o, cs0, T0, fr0, rfl, e0, k0, (by rw [Nat.add_assoc]; exact k1), (by rw [Nat.add_assoc]; exact k2)⟩
    | some sp =>
      exfalso
      obtain ⟨_, h0, _⟩ := hfn 0 (by omega)
      unfold World.cell? Addr.add at h0
      rw [if_pos (by rfl)] at h0
      revert h0
      split <;> simp
def toFe (x : FX) : Fe := ⟨x.k, x.a, x.v⟩
theorem fxl_fsl {I : IM} {L : List FX} {v : Value} (h : FXl I L v) : FSl I (L.map toFe) v := by
  obtain ⟨a, cap, hv, hc, hr⟩ := h
  refine ⟨a, cap, by rw [List.length_map]; exact hv, by rw [List.length_map]; exact hc, fun j x hj => ?_⟩
  rw [List.getElem?_map] at hj
  cases hq : L[j]? with
  | none => rw [hq] at hj; cases hj
  | some y =>
    rw [hq] at hj
    simp only [Option.map_some, Option.some.injEq] at hj
    subst hj
    obtain ⟨_, b, o, cs, T, fr, h1, h2, h3, h4, h5⟩ := hr j y hq
    exact ⟨b, o, cs, T, fr, h1, h2, h3, h4, h5⟩
/-- fields that came in -/
def FIn (I : IM) (L : List Fe) (v : Value) : Prop := FSl I L v ∧ L.length ≤ maxLen
theorem fin_open {H : Type} {enc : TypeId × Value → H} {w : World} {fuel : Nat} {a0 : Option Addr} {len0 cap0 : Nat} {x : DataW H × List MemPlace} (hf : DataW.trod enc Tryd.prog w 0 (fun _ => true) true fuel 22 [.slice a0 len0 cap0] = some x) :
    ∃ L, FIn (fun k => w.heap[k]?) L (.slice a0 len0 cap0) := by
  obtain ⟨L, h, hl⟩ := fXl_open hf
  exact ⟨L.map toFe, fxl_fsl h, by rw [List.length_map]; exact hl⟩
end Go.Proofs.YtcpmjogeafhpnaaDoor
