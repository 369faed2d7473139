/- Each tree has the document's one form. -/
import Derived.Test.YtgdickihjaomjaaDoorEfP34
set_option linter.all false
set_option maxRecDepth 100000
namespace Go.Proofs.YtgdickihjaomjaaDoor
open Go.RowKit Go.Sep
attribute [local irreducible] Go.wpList Go.Code.wp
theorem mk_small {n : Nat} {A B : E} (hA : A.nf ∧ A.depth ≤ 6 ∧ A.top ≤ 7 + 3 * 6) (hB : B.nf ∧ B.depth ≤ 6 ∧ B.top ≤ 7 + 3 * 6) (hn : n < 256) : (E.mk n A B).nf ∧ (E.mk n A B).depth ≤ 7 ∧ (E.mk n A B).top ≤ 1000 := by
  have h1 := E.mk_depth n A B
  have h2 := E.mk_top_eq n A B
  obtain ⟨a1, a2, a3⟩ := hA
  obtain ⟨b1, b2, b3⟩ := hB
  exact ⟨E.nf_mk a1 b1, by omega, by omega⟩
theorem nodeF_c {I : IM} {n : Nat} {A B : E} {bl br : Nat} {pl pr : Option Addr} (hl : ERep I A bl pl) (hr : ERep I B br pr) (hA : A.nf ∧ A.depth ≤ 6 ∧ A.top ≤ 7 + 3 * 6) (hB : B.nf ∧ B.depth ≤ 6 ∧ B.top ≤ 7 + 3 * 6) (hn : n < 256) : Fun Tryd.prog 18 #[.int .u64 ((n : Nat) : Int), evv bl pl, evv br pr] I (fun v J => ∃ b p, v = .tuple #[evv b p, .int .i64 0] ∧ ERep J (E.mk n A B) b p) := by
  obtain ⟨a1, a2, a3⟩ := hA
  obtain ⟨b1, b2, b3⟩ := hB
  exact nodeOk_c hl hr (by omega) (by omega) (by omega)
theorem likeS_c {I : IM} {e : E} {b k : Nat} {p : Option Addr} (hT : Tab I) (h : ERep I e b p) (h2 : RE I e k) (hs : e.nf ∧ e.depth ≤ 7 ∧ e.top ≤ 1000) : Fun Tryd.prog 23 #[evv b p, .pointer (some ⟨k, 0, none⟩)] I (fun v J => v = .bool true) :=
  likeE_c e hT h h2 hs.1 (by have := hs.2.1; omega) (by have := hs.2.2; omega)
theorem leaf_small : (E.leaf 0).nf ∧ (E.leaf 0).depth ≤ 7 ∧ (E.leaf 0).top ≤ 1000 := ⟨trivial, Nat.zero_le _, Nat.zero_le _⟩
theorem made_small {e : E} (h : e.nf ∧ e.depth ≤ 6 ∧ e.top ≤ 7 + 3 * 6) : e.nf ∧ e.depth ≤ 7 ∧ e.top ≤ 1000 := ⟨h.1, by have := h.2.1; omega, by have := h.2.2; omega⟩

set_option maxHeartbeats 8000000 in
theorem eventForms_c {I : IM} (hT : Tab I) {la lb : List UInt8} {va vb : Value} {n : Nat} (hla : BSl I la va) (hlb : BSl I lb vb) (hn : n < 256) : Fun Tryd.prog 3 #[va, vb, .int .u8 ((n : Nat) : Int)] I (fun v J => v = .bool true) := by
  refine enter_rule 72 [(0, va), (1, vb), (2, .int .u8 ((n : Nat) : Int))] Tryd.func3 rfl (by kernel_rfl) ?_
  intro w s
  refine wp_seq ?_
  refine region_rule ?_
  refine ops_rule (C := []) [] [] 1 [] 0 (fun φ1 => [(6, .bool false)]) (fun φ1 => []) (fun φ1 => []) s trivial (fun φ1 => by kernel_rfl) ?_
  intro φ1 w1 s
  refine ops_done (by kernel_rfl) ?_
  refine wp_seq ?_
  refine wp_seq ?_
  refine region_rule ?_
  refine call_rule (some 17) s (awakeE_c hT) (by kernel_rfl) ?_
  intro v2 I2 w2 le2 h2 s
  replace hT := Tab.mono le2 hT
  replace hla := BSl.mono le2 hla
  replace hlb := BSl.mono le2 hlb
  obtain rfl := h2
  refine ops_rule (C := []) [] [] 1 [] 0 (fun φ3 => [(18, .bool false)]) (fun φ3 => []) (fun φ3 => []) s trivial (fun φ3 => by kernel_rfl) ?_
  intro φ3 w3 s
  refine ops_done (by kernel_rfl) ?_
  refine cond_false_rule (b := false) (by kernel_rfl) rfl ?_
  refine wp_skip ?_
  refine wp_seq ?_
  refine region_rule ?_
  refine ops_rule (C := []) [] [] 1 [] 0 (fun φ4 => [(20, va)]) (fun φ4 => []) (fun φ4 => []) s trivial (fun φ4 => by kernel_rfl) ?_
  intro φ4 w4 s
  refine call_rule (some 21) s (madeE_c hla) (by kernel_rfl) ?_
  intro v5 I5 w5 le5 h5 s
  replace hT := Tab.mono le5 hT
  replace hla := BSl.mono le5 hla
  replace hlb := BSl.mono le5 hlb
  obtain ⟨b5, q5, k5, e5, rfl, h5_0, h5_1, h5_2⟩ := h5
  refine ops_rule (C := []) [] [] 6 [.o 0, .o 0] 1 (fun φ6 => [(8, .pointer (some ⟨k5, 0, none⟩)), (7, .pointer (some ⟨(φ6 0), 0, none⟩)), (23, .pointer (some ⟨k5, 0, none⟩)), (22, .agg #[.int .u64 ((b5 : Nat) : Int), .pointer q5]), (19, .tuple #[.agg #[.int .u64 ((b5 : Nat) : Int), .pointer q5], .pointer (some ⟨k5, 0, none⟩)])]) (fun φ6 => [((φ6 0), .cells #[.int .u64 ((b5 : Nat) : Int), .pointer q5] 27)]) (fun φ6 => [(φ6 0), (φ6 0)]) s trivial (fun φ6 => by kernel_rfl) ?_
  intro φ6 w6 s
  refine ops_done (by kernel_rfl) ?_
  refine wp_seq ?_
  refine region_rule ?_
  refine ops_rule (C := []) [((φ6 0), .cells #[.int .u64 ((b5 : Nat) : Int), .pointer q5] 27)] [] 1 [] 0 (fun φ7 => [(25, vb)]) (fun φ7 => [((φ6 0), .cells #[.int .u64 ((b5 : Nat) : Int), .pointer q5] 27)]) (fun φ7 => []) s trivial (fun φ7 => by kernel_rfl) ?_
  intro φ7 w7 s
  refine call_rule (some 26) s (madeE_c hlb) (by kernel_rfl) ?_
  intro v8 I8 w8 le8 h8 s
  replace hT := Tab.mono le8 hT
  replace hla := BSl.mono le8 hla
  replace hlb := BSl.mono le8 hlb
  replace h5_1 := ERep.mono le8 h5_1
  replace h5_2 := RE.mono le8 h5_2
  obtain ⟨b8, q8, k8, e8, rfl, h8_0, h8_1, h8_2⟩ := h8
  refine ops_rule (C := []) [((φ6 0), .cells #[.int .u64 ((b5 : Nat) : Int), .pointer q5] 27)] [] 6 [.o 1, .o 1] 1 (fun φ9 => [(10, .pointer (some ⟨k8, 0, none⟩)), (9, .pointer (some ⟨(φ9 0), 0, none⟩)), (28, .pointer (some ⟨k8, 0, none⟩)), (27, .agg #[.int .u64 ((b8 : Nat) : Int), .pointer q8]), (24, .tuple #[.agg #[.int .u64 ((b8 : Nat) : Int), .pointer q8], .pointer (some ⟨k8, 0, none⟩)])]) (fun φ9 => [((φ6 0), .cells #[.int .u64 ((b5 : Nat) : Int), .pointer q5] 27), ((φ9 0), .cells #[.int .u64 ((b8 : Nat) : Int), .pointer q8] 27)]) (fun φ9 => [(φ9 0), (φ9 0)]) s trivial (fun φ9 => by kernel_rfl) ?_
  intro φ9 w9 s
  refine ops_done (by kernel_rfl) ?_
  refine wp_seq ?_
  refine region_rule ?_
  refine ops_rule (C := []) [((φ6 0), .cells #[.int .u64 ((b5 : Nat) : Int), .pointer q5] 27), ((φ9 0), .cells #[.int .u64 ((b8 : Nat) : Int), .pointer q8] 27)] [] 4 [.o 0, .o 0, .o 1, .o 1] 0 (fun φ10 => [(33, .agg #[.int .u64 ((b8 : Nat) : Int), .pointer q8]), (32, .agg #[.int .u64 ((b5 : Nat) : Int), .pointer q5]), (31, .int .u64 (IntKind.wrap .u64 ((n : Nat) : Int))), (30, .int .u8 ((n : Nat) : Int))]) (fun φ10 => [((φ6 0), .cells #[.int .u64 ((b5 : Nat) : Int), .pointer q5] 27), ((φ9 0), .cells #[.int .u64 ((b8 : Nat) : Int), .pointer q8] 27)]) (fun φ10 => [(φ6 0), (φ6 0), (φ9 0), (φ9 0)]) s trivial (fun φ10 => by kernel_rfl) ?_
  intro φ10 w10 s
  rw [nat_wrapU (a := n) (by omega)]
  refine call_rule (some 34) s (nodeF_c (n := n) h5_1 h8_1 h5_0 h8_0 hn) (by kernel_rfl) ?_
  intro v11 I11 w11 le11 h11 s
  replace hT := Tab.mono le11 hT
  replace hla := BSl.mono le11 hla
  replace hlb := BSl.mono le11 hlb
  replace h5_1 := ERep.mono le11 h5_1
  replace h5_2 := RE.mono le11 h5_2
  replace h8_1 := ERep.mono le11 h8_1
  replace h8_2 := RE.mono le11 h8_2
  obtain ⟨b11, p11, rfl, h11_0⟩ := h11
  refine ops_rule (C := []) [((φ6 0), .cells #[.int .u64 ((b5 : Nat) : Int), .pointer q5] 27), ((φ9 0), .cells #[.int .u64 ((b8 : Nat) : Int), .pointer q8] 27)] [] 6 [.o 2, .o 2] 1 (fun φ12 => [(12, .int .i64 0), (11, .pointer (some ⟨(φ12 0), 0, none⟩)), (36, .int .i64 0), (35, .agg #[.int .u64 ((b11 : Nat) : Int), .pointer p11]), (29, .tuple #[.agg #[.int .u64 ((b11 : Nat) : Int), .pointer p11], .int .i64 0])]) (fun φ12 => [((φ6 0), .cells #[.int .u64 ((b5 : Nat) : Int), .pointer q5] 27), ((φ9 0), .cells #[.int .u64 ((b8 : Nat) : Int), .pointer q8] 27), ((φ12 0), .cells #[.int .u64 ((b11 : Nat) : Int), .pointer p11] 27)]) (fun φ12 => [(φ12 0), (φ12 0)]) s trivial (fun φ12 => by kernel_rfl) ?_
  intro φ12 w12 s
  refine ops_done (by kernel_rfl) ?_
  refine wp_seq ?_
  refine region_rule ?_
  refine ops_rule (C := []) [((φ6 0), .cells #[.int .u64 ((b5 : Nat) : Int), .pointer q5] 27), ((φ9 0), .cells #[.int .u64 ((b8 : Nat) : Int), .pointer q8] 27), ((φ12 0), .cells #[.int .u64 ((b11 : Nat) : Int), .pointer p11] 27)] [] 4 [] 0 (fun φ13 => [(40, .pointer (some ⟨k8, 0, none⟩)), (39, .pointer (some ⟨k5, 0, none⟩)), (38, .int .u64 (IntKind.wrap .u64 ((n : Nat) : Int))), (37, .int .u8 ((n : Nat) : Int))]) (fun φ13 => [((φ6 0), .cells #[.int .u64 ((b5 : Nat) : Int), .pointer q5] 27), ((φ9 0), .cells #[.int .u64 ((b8 : Nat) : Int), .pointer q8] 27), ((φ12 0), .cells #[.int .u64 ((b11 : Nat) : Int), .pointer p11] 27)]) (fun φ13 => []) s trivial (fun φ13 => by kernel_rfl) ?_
  intro φ13 w13 s
  rw [nat_wrapU (a := n) (by omega)]
  refine call_rule (some 41) s (rnode_c (n := n) h5_2 h8_2 h5_0.1 h8_0.1 (by have h8 := h5_0.2.2; have h9 := h8_0.2.2; omega)) (by kernel_rfl) ?_
  intro v14 I14 w14 le14 h14 s
  replace hT := Tab.mono le14 hT
  replace hla := BSl.mono le14 hla
  replace hlb := BSl.mono le14 hlb
  replace h5_1 := ERep.mono le14 h5_1
  replace h5_2 := RE.mono le14 h5_2
  replace h8_1 := ERep.mono le14 h8_1
  replace h8_2 := RE.mono le14 h8_2
  replace h11_0 := ERep.mono le14 h11_0
  obtain ⟨k14, rfl, h14_0⟩ := h14
  refine ops_rule (C := []) [((φ6 0), .cells #[.int .u64 ((b5 : Nat) : Int), .pointer q5] 27), ((φ9 0), .cells #[.int .u64 ((b8 : Nat) : Int), .pointer q8] 27), ((φ12 0), .cells #[.int .u64 ((b11 : Nat) : Int), .pointer p11] 27)] [] 1 [] 0 (fun φ15 => [(13, .pointer (some ⟨k14, 0, none⟩))]) (fun φ15 => [((φ6 0), .cells #[.int .u64 ((b5 : Nat) : Int), .pointer q5] 27), ((φ9 0), .cells #[.int .u64 ((b8 : Nat) : Int), .pointer q8] 27), ((φ12 0), .cells #[.int .u64 ((b11 : Nat) : Int), .pointer p11] 27)]) (fun φ15 => []) s trivial (fun φ15 => by kernel_rfl) ?_
  intro φ15 w15 s
  refine ops_done (by kernel_rfl) ?_
  refine wp_seq ?_
  refine region_rule ?_
  refine ops_rule (C := []) [((φ6 0), .cells #[.int .u64 ((b5 : Nat) : Int), .pointer q5] 27), ((φ9 0), .cells #[.int .u64 ((b8 : Nat) : Int), .pointer q8] 27), ((φ12 0), .cells #[.int .u64 ((b11 : Nat) : Int), .pointer p11] 27)] [] 1 [] 0 (fun φ16 => [(42, .pointer (some ⟨k14, 0, none⟩))]) (fun φ16 => [((φ6 0), .cells #[.int .u64 ((b5 : Nat) : Int), .pointer q5] 27), ((φ9 0), .cells #[.int .u64 ((b8 : Nat) : Int), .pointer q8] 27), ((φ12 0), .cells #[.int .u64 ((b11 : Nat) : Int), .pointer p11] 27)]) (fun φ16 => []) s trivial (fun φ16 => by kernel_rfl) ?_
  intro φ16 w16 s
  refine call_rule (some 43) s (rdepth_c (E.mk n e5 e8) h14_0 (by have := (mk_small h5_0 h8_0 hn).2.1; omega)) (by kernel_rfl) ?_
  intro v17 I17 w17 le17 h17 s
  replace hT := Tab.mono le17 hT
  replace hla := BSl.mono le17 hla
  replace hlb := BSl.mono le17 hlb
  replace h5_1 := ERep.mono le17 h5_1
  replace h5_2 := RE.mono le17 h5_2
  replace h8_1 := ERep.mono le17 h8_1
  replace h8_2 := RE.mono le17 h8_2
  replace h11_0 := ERep.mono le17 h11_0
  replace h14_0 := RE.mono le17 h14_0
  obtain rfl := h17
  refine ops_rule (C := []) [((φ6 0), .cells #[.int .u64 ((b5 : Nat) : Int), .pointer q5] 27), ((φ9 0), .cells #[.int .u64 ((b8 : Nat) : Int), .pointer q8] 27), ((φ12 0), .cells #[.int .u64 ((b11 : Nat) : Int), .pointer p11] 27)] [] 1 [] 0 (fun φ18 => [(14, .int .i64 ((E.depth (E.mk n e5 e8) : Nat) : Int))]) (fun φ18 => [((φ6 0), .cells #[.int .u64 ((b5 : Nat) : Int), .pointer q5] 27), ((φ9 0), .cells #[.int .u64 ((b8 : Nat) : Int), .pointer q8] 27), ((φ12 0), .cells #[.int .u64 ((b11 : Nat) : Int), .pointer p11] 27)]) (fun φ18 => []) s trivial (fun φ18 => by kernel_rfl) ?_
  intro φ18 w18 s
  refine ops_done (by kernel_rfl) ?_
  refine wp_seq ?_
  refine region_rule ?_
  refine ops_rule (C := []) [((φ6 0), .cells #[.int .u64 ((b5 : Nat) : Int), .pointer q5] 27), ((φ9 0), .cells #[.int .u64 ((b8 : Nat) : Int), .pointer q8] 27), ((φ12 0), .cells #[.int .u64 ((b11 : Nat) : Int), .pointer p11] 27)] [] 2 [] 0 (fun φ19 => [(45, .int .i64 ((E.depth (E.mk n e5 e8) : Nat) : Int)), (44, .pointer (some ⟨k14, 0, none⟩))]) (fun φ19 => [((φ6 0), .cells #[.int .u64 ((b5 : Nat) : Int), .pointer q5] 27), ((φ9 0), .cells #[.int .u64 ((b8 : Nat) : Int), .pointer q8] 27), ((φ12 0), .cells #[.int .u64 ((b11 : Nat) : Int), .pointer p11] 27)]) (fun φ19 => []) s trivial (fun φ19 => by kernel_rfl) ?_
  intro φ19 w19 s
  refine call_rule (some 46) s (heightsN_c (d := E.depth (E.mk n e5 e8)) (by have := (mk_small h5_0 h8_0 hn).2.1; omega) h14_0 (by have := (mk_small h5_0 h8_0 hn).2.2; omega)) (by kernel_rfl) ?_
  intro v20 I20 w20 le20 h20 s
  replace hT := Tab.mono le20 hT
  replace hla := BSl.mono le20 hla
  replace hlb := BSl.mono le20 hlb
  replace h5_1 := ERep.mono le20 h5_1
  replace h5_2 := RE.mono le20 h5_2
  replace h8_1 := ERep.mono le20 h8_1
  replace h8_2 := RE.mono le20 h8_2
  replace h11_0 := ERep.mono le20 h11_0
  replace h14_0 := RE.mono le20 h14_0
  obtain ⟨b20, c20, rfl, h20_0, h20_1⟩ := h20
  refine call_rule (some 47) s (ofH_c (z := (E.mk n e5 e8)) (D := (E.depth (E.mk n e5 e8))) (mk_small h5_0 h8_0 hn).1 (Nat.le_refl _) (by have := (mk_small h5_0 h8_0 hn).2.1; omega) (by have := (mk_small h5_0 h8_0 hn).2.2; omega) h20_0 h20_1) (by kernel_rfl) ?_
  intro v21 I21 w21 le21 h21 s
  replace hT := Tab.mono le21 hT
  replace hla := BSl.mono le21 hla
  replace hlb := BSl.mono le21 hlb
  replace h5_1 := ERep.mono le21 h5_1
  replace h5_2 := RE.mono le21 h5_2
  replace h8_1 := ERep.mono le21 h8_1
  replace h8_2 := RE.mono le21 h8_2
  replace h11_0 := ERep.mono le21 h11_0
  replace h14_0 := RE.mono le21 h14_0
  replace h20_1 := VS.mono le21 h20_1
  obtain ⟨k21, rfl, h21_0⟩ := h21
  refine ops_rule (C := []) [((φ6 0), .cells #[.int .u64 ((b5 : Nat) : Int), .pointer q5] 27), ((φ9 0), .cells #[.int .u64 ((b8 : Nat) : Int), .pointer q8] 27), ((φ12 0), .cells #[.int .u64 ((b11 : Nat) : Int), .pointer p11] 27)] [] 1 [] 0 (fun φ22 => [(15, .pointer (some ⟨k21, 0, none⟩))]) (fun φ22 => [((φ6 0), .cells #[.int .u64 ((b5 : Nat) : Int), .pointer q5] 27), ((φ9 0), .cells #[.int .u64 ((b8 : Nat) : Int), .pointer q8] 27), ((φ12 0), .cells #[.int .u64 ((b11 : Nat) : Int), .pointer p11] 27)]) (fun φ22 => []) s trivial (fun φ22 => by kernel_rfl) ?_
  intro φ22 w22 s
  refine ops_done (by kernel_rfl) ?_
  refine wp_seq ?_
  refine region_rule ?_
  refine ops_rule (C := []) [((φ6 0), .cells #[.int .u64 ((b5 : Nat) : Int), .pointer q5] 27), ((φ9 0), .cells #[.int .u64 ((b8 : Nat) : Int), .pointer q8] 27), ((φ12 0), .cells #[.int .u64 ((b11 : Nat) : Int), .pointer p11] 27)] [] 1 [] 1 (fun φ23 => [(16, .pointer (some ⟨(φ23 0), 0, none⟩))]) (fun φ23 => [((φ6 0), .cells #[.int .u64 ((b5 : Nat) : Int), .pointer q5] 27), ((φ9 0), .cells #[.int .u64 ((b8 : Nat) : Int), .pointer q8] 27), ((φ12 0), .cells #[.int .u64 ((b11 : Nat) : Int), .pointer p11] 27), ((φ23 0), .cells #[.int .u64 0, .pointer none] 27)]) (fun φ23 => []) s trivial (fun φ23 => by kernel_rfl) ?_
  intro φ23 w23 s
  refine ops_done (by kernel_rfl) ?_
  refine wp_seq ?_
  refine draw_rule (C := []) ⟨(fun φ24 xs24 => [.look 0 [.o 0, .o 0] [(φ6 0), (φ6 0)], .look 0 [] [], .call 23 #[.agg #[.int .u64 ((b5 : Nat) : Int), .pointer q5], .pointer (some ⟨k5, 0, none⟩)], .look 0 [] [], .look 0 [] [], .look 0 [] [], .look 0 [] [], .look 0 [] [], .look 0 [.o 2, .o 2] [(φ12 0), (φ12 0)], .look 0 [] [], .call 23 #[.agg #[.int .u64 ((b11 : Nat) : Int), .pointer p11], .pointer (some ⟨k14, 0, none⟩)], .look 0 [] [], .look 0 [] [], .look 0 [] [], .call 24 #[.pointer (some ⟨k21, 0, none⟩)], .look 0 [.o 2, .o 2] [(φ12 0), (φ12 0)], .call 25 #[.agg #[.int .u64 ((b11 : Nat) : Int), .pointer p11]], .sub 0 [] [] (.bool ((⟨(textE (E.mk n e5 e8)).toArray⟩ : ByteArray).toList == (⟨(textE (E.mk n e5 e8)).toArray⟩ : ByteArray).toList)), .look 0 [] [], .look 0 [] [], .look 0 [.o 3, .o 3] [(φ23 0), (φ23 0)], .call 26 #[.int .u64 0], .call 23 #[.agg #[.int .u64 0, .pointer none], .pointer (some ⟨(xs24 21).n 0, 0, none⟩)], .look 0 [] [], .look 0 [] []]), (fun φ24 xs24 => [.agg #[.int .u64 ((b5 : Nat) : Int), .pointer q5], .pointer (some ⟨k5, 0, none⟩), .bool true, .bool true, .int .i64 0, .bool true, .bool true, .bool true, .agg #[.int .u64 ((b11 : Nat) : Int), .pointer p11], .pointer (some ⟨k14, 0, none⟩), .bool true, .bool true, .bool true, .pointer (some ⟨k21, 0, none⟩), .string ⟨(textE (E.mk n e5 e8)).toArray⟩, .agg #[.int .u64 ((b11 : Nat) : Int), .pointer p11], .string ⟨(textE (E.mk n e5 e8)).toArray⟩, .bool true, .bool true, .bool true, .agg #[.int .u64 0, .pointer none], .pointer (some ⟨(xs24 21).n 0, 0, none⟩), .bool true, .bool true, .bool true]), (fun φ24 xs24 => [[((φ6 0), .cells #[.int .u64 ((b5 : Nat) : Int), .pointer q5] 27), ((φ9 0), .cells #[.int .u64 ((b8 : Nat) : Int), .pointer q8] 27), ((φ12 0), .cells #[.int .u64 ((b11 : Nat) : Int), .pointer p11] 27), ((φ23 0), .cells #[.int .u64 0, .pointer none] 27)]]), (fun φ24 xs24 => [[default, default, default, default, default, default, default, default, default, default, default, default, default, default, default, default, default, default, default, default, default, default, default, default, default]]), [], [1, 1, 3, 1, 1, 1, 1, 1, 1, 1, 3, 1, 1, 1, 3, 1, 3, 5, 1, 1, 1, 3, 3, 1, 1]⟩ (fun j => ([MP.any, MP.any, MP.any, MP.any, MP.any, MP.any, MP.any, MP.any, MP.any, MP.any, MP.any, MP.any, MP.any, MP.any, MP.any, MP.any, MP.any, MP.any, MP.any, MP.any, MP.any, ⟨fun x J => RE J (E.leaf 0) (x.n 0), fun le h => RE.mono le h⟩, MP.any, MP.any, MP.any] : List MP).getD j MP.any) [2, 10, 14, 16, 21, 22] [17] [] (fun φ24 xs24 => []) (fun φ24 xs24 => [(48, .agg #[.int .u64 ((b5 : Nat) : Int), .pointer q5]), (49, .pointer (some ⟨k5, 0, none⟩)), (50, .bool true), (51, .bool true), (52, .int .i64 0), (53, .bool true), (54, .bool true), (55, .bool true), (56, .agg #[.int .u64 ((b11 : Nat) : Int), .pointer p11]), (57, .pointer (some ⟨k14, 0, none⟩)), (58, .bool true), (59, .bool true), (60, .bool true), (61, .pointer (some ⟨k21, 0, none⟩)), (62, .string ⟨(textE (E.mk n e5 e8)).toArray⟩), (63, .agg #[.int .u64 ((b11 : Nat) : Int), .pointer p11]), (64, .string ⟨(textE (E.mk n e5 e8)).toArray⟩), (65, .bool true), (66, .bool true), (67, .bool true), (68, .agg #[.int .u64 0, .pointer none]), (69, .pointer (some ⟨(xs24 21).n 0, 0, none⟩)), (70, .bool true), (71, .bool true), (6, .bool true)]) (fun φ24 xs24 => [((φ6 0), .cells #[.int .u64 ((b5 : Nat) : Int), .pointer q5] 27), ((φ9 0), .cells #[.int .u64 ((b8 : Nat) : Int), .pointer q8] 27), ((φ12 0), .cells #[.int .u64 ((b11 : Nat) : Int), .pointer p11] 27), ((φ23 0), .cells #[.int .u64 0, .pointer none] 27)]) s trivial (by kernel_rfl) (by kernel_rfl) (fun _ _ => by kernel_rfl) (fun _ _ => by kernel_rfl) ⟨fun _ _ => by kernel_rfl, fun _ _ => by kernel_rfl, fun _ _ => by kernel_rfl, fun _ _ => by kernel_rfl⟩ (fun _ _ _ => by kernel_rfl) (fun _ _ => by kernel_rfl) (fun _ _ => by kernel_rfl) (fun _ _ => by kernel_rfl) (fun _ _ => by kernel_rfl) (fun _ _ => by kernel_rfl) ⟨kcast (A := ∀ (φ24 : Nat → Nat) (xs24 : Xs), (.bool ((⟨(textE (E.mk n e5 e8)).toArray⟩ : ByteArray).toList == (⟨(textE (E.mk n e5 e8)).toArray⟩ : ByteArray).toList) : Value) = .bool true) (by kernel_rfl) (fun φ24 xs24 => congrArg Value.bool ((beq_self_eq_true _))), trivial⟩ trivial (by kernel_rfl) ⟨?c24_2, ?c24_10, ?c24_14, ?c24_16, ?c24_21, ?c24_22, trivial⟩ ?k24
  case c24_2 =>
    refine kcast (A := ∀ (φ24 : Nat → Nat) (xs24 : Xs) (J2_24 : IM), I21.Le J2_24 → Fun Tryd.prog 23 #[.agg #[.int .u64 ((b5 : Nat) : Int), .pointer q5], .pointer (some ⟨k5, 0, none⟩)] J2_24 (fun v J' => ∃ x : UX, v = .bool true ∧ (True))) (by kernel_rfl) ?_
    intro φ24 xs24 J2_24 leJ
    have hT := Tab.mono leJ hT
    have h5_1 := ERep.mono leJ h5_1
    have h5_2 := RE.mono leJ h5_2
    exact Fun.mono (likeS_c hT h5_1 h5_2 (made_small h5_0)) (fun v J' _ h => ⟨UX.d, h, trivial⟩)
  case c24_10 =>
    refine kcast (A := ∀ (φ24 : Nat → Nat) (xs24 : Xs) (J10_24 : IM), I21.Le J10_24 → (True) → Fun Tryd.prog 23 #[.agg #[.int .u64 ((b11 : Nat) : Int), .pointer p11], .pointer (some ⟨k14, 0, none⟩)] J10_24 (fun v J' => ∃ x : UX, v = .bool true ∧ (True))) (by kernel_rfl) ?_
    intro φ24 xs24 J10_24 leJ
    rintro _
    have hT := Tab.mono leJ hT
    have h11_0 := ERep.mono leJ h11_0
    have h14_0 := RE.mono leJ h14_0
    exact Fun.mono (likeS_c hT h11_0 h14_0 (mk_small h5_0 h8_0 hn)) (fun v J' _ h => ⟨UX.d, h, trivial⟩)
  case c24_14 =>
    refine kcast (A := ∀ (φ24 : Nat → Nat) (xs24 : Xs) (J14_24 : IM), I21.Le J14_24 → (True) → (True) → Fun Tryd.prog 24 #[.pointer (some ⟨k21, 0, none⟩)] J14_24 (fun v J' => ∃ x : UX, v = .string ⟨(textE (E.mk n e5 e8)).toArray⟩ ∧ (True))) (by kernel_rfl) ?_
    intro φ24 xs24 J14_24 leJ
    rintro _ _
    have h21_0 := RE.mono leJ h21_0
    exact Fun.mono (etext_c (E.mk n e5 e8) h21_0 (by have := (mk_small h5_0 h8_0 hn).2.2; omega) (textE_small (by have := (mk_small h5_0 h8_0 hn).2.1; omega) (by have := (mk_small h5_0 h8_0 hn).2.2; omega))) (fun v J' _ h => ⟨UX.d, h, trivial⟩)
  case c24_16 =>
    refine kcast (A := ∀ (φ24 : Nat → Nat) (xs24 : Xs) (J16_24 : IM), I21.Le J16_24 → (True) → (True) → (True) → Fun Tryd.prog 25 #[.agg #[.int .u64 ((b11 : Nat) : Int), .pointer p11]] J16_24 (fun v J' => ∃ x : UX, v = .string ⟨(textE (E.mk n e5 e8)).toArray⟩ ∧ (True))) (by kernel_rfl) ?_
    intro φ24 xs24 J16_24 leJ
    rintro _ _ _
    have hT := Tab.mono leJ hT
    have h11_0 := ERep.mono leJ h11_0
    exact Fun.mono (text_c hT h11_0 (by have := (mk_small h5_0 h8_0 hn).2.2; omega) (textE_small (by have := (mk_small h5_0 h8_0 hn).2.1; omega) (by have := (mk_small h5_0 h8_0 hn).2.2; omega))) (fun v J' _ h => ⟨UX.d, h, trivial⟩)
  case c24_21 =>
    refine kcast (A := ∀ (φ24 : Nat → Nat) (xs24 : Xs) (J21_24 : IM), I21.Le J21_24 → (True) → (True) → (True) → (True) → Fun Tryd.prog 26 #[.int .u64 0] J21_24 (fun v J' => ∃ x : UX, v = .pointer (some ⟨x.n 0, 0, none⟩) ∧ (RE J' (E.leaf 0) (x.n 0)))) (by kernel_rfl) ?_
    intro φ24 xs24 J21_24 leJ
    rintro _ _ _ _
    exact Fun.mono (rleaf_c (n := 0)) (fun v J' _ ⟨y0, hv, g0⟩ => ⟨{ UX.d with n := fun j => y0 }, hv, g0⟩)
  case c24_22 =>
    refine kcast (A := ∀ (φ24 : Nat → Nat) (xs24 : Xs) (J22_24 : IM), I21.Le J22_24 → (True) → (True) → (True) → (True) → (RE J22_24 (E.leaf 0) ((xs24 21).n 0)) → Fun Tryd.prog 23 #[.agg #[.int .u64 0, .pointer none], .pointer (some ⟨(xs24 21).n 0, 0, none⟩)] J22_24 (fun v J' => ∃ x : UX, v = .bool true ∧ (True))) (by kernel_rfl) ?_
    intro φ24 xs24 J22_24 leJ
    rintro _ _ _ _ h24_21_0
    have hT := Tab.mono leJ hT
    exact Fun.mono (likeS_c hT (ERep.lf _ 0) h24_21_0 leaf_small) (fun v J' _ h => ⟨UX.d, h, trivial⟩)
  case k24 =>
    rintro φ24 xs24 I24 w24 le24 s _ _ _ _ h24_21_0 _
    replace hT := Tab.mono le24 hT
    replace hla := BSl.mono le24 hla
    replace hlb := BSl.mono le24 hlb
    replace h5_1 := ERep.mono le24 h5_1
    replace h5_2 := RE.mono le24 h5_2
    replace h8_1 := ERep.mono le24 h8_1
    replace h8_2 := RE.mono le24 h8_2
    replace h11_0 := ERep.mono le24 h11_0
    replace h14_0 := RE.mono le24 h14_0
    replace h20_1 := VS.mono le24 h20_1
    replace h21_0 := RE.mono le24 h21_0
    refine wp_ret ?_
    refine ret_rule (C := []) [((φ6 0), .cells #[.int .u64 ((b5 : Nat) : Int), .pointer q5] 27), ((φ9 0), .cells #[.int .u64 ((b8 : Nat) : Int), .pointer q8] 27), ((φ12 0), .cells #[.int .u64 ((b11 : Nat) : Int), .pointer p11] 27), ((φ23 0), .cells #[.int .u64 0, .pointer none] 27)] [] (.bool true) [] [] s trivial (by kernel_rfl) ?_
    exact ⟨_, _, _, rfl, s, rfl⟩

end Go.Proofs.YtgdickihjaomjaaDoor
