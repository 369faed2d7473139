/- Any patch has the document's bytes, of which it is read again, or its error. -/
import Derived.Test.YtcpmjogeafhpnaaDoorPpM23
import Derived.Test.YtcpmjogeafhpnaaDoorPpM20
import Derived.Test.YtcpmjogeafhpnaaDoorRows
import Derived.Test.YtcpmjogeafhpnaaDoorPpM21
import Derived.ProofKit
import Derived.LaidMore
import Derived.OpenShut
import Derived.Lay
import Derived.Stop.Joined
import Derived.Lib.LaidU8T
import Derived.Test.YtcpmjogeafhpnaaDoorPpM17
import Derived.WalkKit
import Derived.Deep.Slices
set_option linter.all false
set_option maxRecDepth 100000
namespace Go.Proofs.YtcpmjogeafhpnaaDoor
open Go.RowKit Go.Sep
attribute [local irreducible] Go.wpList Go.Code.wp

theorem nm_of {I : IM} (h : Tx.NmT I) : NmT I := by
  obtain ⟨cs, T, fr, h1, h2⟩ := h
  exact ⟨cs, T, fr, h1, h2 1 (by decide)⟩
theorem run_neS3 {w : World} {z : Int} : (binOp .neq 3 (.int .i64 z) (.int .i64 z)).run Tryd.prog w = .ok (.bool false) w := by
  have e : (binOp .neq 3 (.int .i64 z) (.int .i64 z)).run Tryd.prog w = .ok (.bool (!(decide (z = z)))) w := by kernel_rfl
  rw [e, decide_eq_true rfl]; rfl
theorem run_neZ27 {w : World} {n : Nat} (h : n ≠ 0) : (binOp .neq 27 (.int .i64 ((n : Nat) : Int)) (.int .i64 0)).run Tryd.prog w = .ok (.bool true) w := by
  have e : (binOp .neq 27 (.int .i64 ((n : Nat) : Int)) (.int .i64 0)).run Tryd.prog w = .ok (.bool (!(decide (((n : Nat) : Int) = 0)))) w := by kernel_rfl
  rw [e, decide_eq_false (by omega)]; rfl
theorem ext_props {L : List Fe} {y : List UInt8} (h1 : L.length ≤ 14) (h2 : ∀ x ∈ L, x.a.length ≤ 60 ∧ x.v.length ≤ 60) (hy : y.length ≤ 400) : (L.set 0 ⟨(L.getD 0 Fe.z).k, (L.getD 0 Fe.z).a, y⟩).length ≤ 14 ∧ ∀ x ∈ L.set 0 ⟨(L.getD 0 Fe.z).k, (L.getD 0 Fe.z).a, y⟩, x.v.length ≤ 400 := by
  refine ⟨by rw [List.length_set]; exact h1, fun x hx => ?_⟩
  rcases List.mem_or_eq_of_mem_set hx with q | q
  · have := (h2 x q).2; omega
  · rw [q]; exact hy
theorem encP_len {A D : List Fe} {K : List Nat} (hA : okL A) (hD : okL D) (lA : A.length ≤ 255) (lD : D.length ≤ 255) (lK : K.length ≤ 255) : (encP A D K).length ≤ 1000000 := by
  have h1 := encL_len hA lA
  have h2 := encL_len hD lD
  have h3 := (encF_len 9 K.length).2
  unfold encP
  simp only [List.length_append, List.length_map]
  omega
theorem readW_c {I : IM} {A D : List Fe} {K : List Nat} {a : Option Addr} {c : Nat} (hl : BSl I (encP A D K) (.slice a (encP A D K).length c)) (hA : okL A) (hD : okL D) (hK : ∀ k ∈ K, k ≤ 255) (lA : A.length ≤ 255) (lD : D.length ≤ 255) (lK : K.length ≤ 255) :
    Fun Tryd.prog 46 #[.slice a (encP A D K).length c] I (fun v J => ∃ (a1 a2 a3 : Option Addr) (c1 c2 c3 : Nat), v = .tuple #[.agg #[.slice a1 A.length c1, .slice a2 D.length c2, .slice a3 K.length c3], .int .i64 0] ∧ FSl J A (.slice a1 A.length c1) ∧ FSl J D (.slice a2 D.length c2) ∧ KSl J K (.slice a3 K.length c3)) := by
  have h := readPatch_c hl (encP_len hA hD lA lD lK)
  have e := rp_fwd hA hD hK lA lD lK
  have e1 : rpA (encP A D K) = A := by unfold rpA; rw [e]; rfl
  have e2 : rpD (encP A D K) = D := by unfold rpD; rw [e]; rfl
  have e3 : rpK (encP A D K) = K := by unfold rpK; rw [e]; rfl
  rw [e1, e2, e3, e] at h
  exact h
theorem cloneX_c {I : IM} {L : List Int} {a : Option Addr} {n c : Nat} (h : ISl I L (.slice a n c)) (hl : L.length ≤ 255) : Fun Tryd.prog 29 #[.slice a n c] I (fun v J => ∃ a c, v = .slice a L.length c ∧ ISl J L (.slice a L.length c)) := by
  obtain ⟨rfl, -⟩ := h.cap
  exact cloneI_c h hl
theorem kok {K : List Nat} (h : ∀ k ∈ K, k ≤ 255) : ∀ i, i < K.length → K.getD i 0 ≤ 255 := fun i hi => h _ (by simp [hi])

set_option maxHeartbeats 8000000 in
theorem paperPatches_c {I : IM} {A D : List Fe} {K : List Int} {r : Nat} {a1 a2 a3 : Option Addr} {c1 c2 c3 : Nat} (hA : FSl I A (.slice a1 A.length c1)) (hD : FSl I D (.slice a2 D.length c2)) (hK0 : ISl I K (.slice a3 K.length c3)) (hlA0 : A.length ≤ 9223372036854775807) (hlD0 : D.length ≤ 9223372036854775807) (hr : r < 65536) (hK : ISl I (K.take (min K.length 9)) (.slice a3 (min K.length 9) c3)) (run52 : ∀ {w : World}, (Instr.sliceAt 52 (.slice a3 K.length c3) none (some (.int .i64 (((min K.length 9) : Nat) : Int))) none).run Tryd.prog w = .ok (.slice a3 (min K.length 9) c3) w) (hN : Tx.NmT I) (hT : Tx.U8 I) : Fun Tryd.prog 10 #[.slice a1 A.length c1, .slice a2 D.length c2, .slice a3 K.length c3, .int .u16 ((r : Nat) : Int)] I (fun v J => v = .bool true) := by
  refine enter_rule 95 [(0, .slice a1 A.length c1), (1, .slice a2 D.length c2), (2, .slice a3 K.length c3), (3, .int .u16 ((r : Nat) : Int))] Tryd.func10 rfl (by kernel_rfl) ?_
  intro w s
  refine wp_seq ?_
  refine region_rule ?_
  refine ops_rule (C := []) [] [] 1 [] 0 (fun φ1 => [(8, .bool false)]) (fun φ1 => []) (fun φ1 => []) s trivial (fun φ1 => by kernel_rfl) ?_
  intro φ1 w1 s
  refine ops_done (by kernel_rfl) ?_
  refine wp_seq ?_
  refine wp_seq ?_
  refine region_rule ?_
  refine call_rule (some 15) s (awakeP_c (nm_of hN) hT) (by kernel_rfl) ?_
  intro v2 I2 w2 le2 h2 s
  replace hA := FSl.mono le2 hA
  replace hD := FSl.mono le2 hD
  replace hK := ISl.mono le2 hK
  replace hN := Tx.NmT.mono le2 hN
  replace hT := Tx.U8.mono le2 hT
  obtain rfl := h2
  refine ops_rule (C := []) [] [] 1 [] 0 (fun φ3 => [(16, .bool false)]) (fun φ3 => []) (fun φ3 => []) s trivial (fun φ3 => by kernel_rfl) ?_
  intro φ3 w3 s
  refine ops_done (by kernel_rfl) ?_
  refine cond_false_rule (b := false) (by kernel_rfl) rfl ?_
  refine wp_skip ?_
  refine wp_seq ?_
  have hH4 := IM.Le.refl I2
  refine held_begin (n := 13) (SubS I2) (by kernel_rfl) (by kernel_rfl) ?_
  replace s := St.drew s
  refine held_take (fuel := 12) [] [] 0 (.slice a1 A.length c1) (some 17) [] (I := I2) trivial (by kernel_rfl) (by kernel_rfl) (by kernel_rfl) (by kernel_rfl) (by kernel_rfl) (fun _ d' _ _ _ h => by cases d' <;> exact h) (by kernel_rfl) (by kernel_rfl) s.sub ?_
  refine held_take (fuel := 11) [] [] 2 (.slice a2 D.length c2) (some 19) [] (I := I2) trivial (by kernel_rfl) (by kernel_rfl) (by kernel_rfl) (by kernel_rfl) (by kernel_rfl) (fun _ d' _ _ _ h => by cases d' <;> exact h) (by kernel_rfl) (by kernel_rfl) s.sub ?_
  refine held_take (fuel := 10) [] [] 4 (.slice a3 K.length c3) (some 21) [] (I := I2) trivial (by kernel_rfl) (by kernel_rfl) (by kernel_rfl) (by kernel_rfl) (by kernel_rfl) (fun _ d' _ _ _ h => by cases d' <;> exact h) (by kernel_rfl) (by kernel_rfl) s.sub ?_
  refine held_take (fuel := 9) [] [] 5 (.slice a3 K.length c3) (some 22) [] (I := I2) trivial (by kernel_rfl) (by kernel_rfl) (by kernel_rfl) (by kernel_rfl) (by kernel_rfl) (fun _ d' _ _ _ h => by cases d' <;> exact h) (by kernel_rfl) (by kernel_rfl) s.sub ?_
  refine held_take (fuel := 8) [] [] 6 (.int .i64 ((K.length : Nat) : Int)) (some 23) [] (I := I2) trivial (by kernel_rfl) (by kernel_rfl) (by kernel_rfl) (by kernel_rfl) (by kernel_rfl) (fun _ d' _ _ _ h => by cases d' <;> exact h) (by kernel_rfl) (by kernel_rfl) s.sub ?_
  refine held_take (fuel := 7) [] [] 7 (.int .i64 (if ((9 : Nat) : Int) < ((K.length : Nat) : Int) then ((9 : Nat) : Int) else ((K.length : Nat) : Int))) (some 24) [] (I := I2) trivial (by kernel_rfl) (by kernel_rfl) (by kernel_rfl) (by kernel_rfl) (by kernel_rfl) (fun _ d' _ _ _ h => by cases d' <;> exact h) (by kernel_rfl) (by kernel_rfl) s.sub ?_
  rw [nat_min (a := K.length) (b := 9)]
  refine held_ran (fuel := 6) (Instr.sliceAt 52 (.slice a3 K.length c3) none (some (.int .i64 ((min K.length 9 : Nat) : Int))) none) 8 (.slice a3 (min K.length 9) c3) (some 25) (I := I2) (by kernel_rfl) (by kernel_rfl) (by kernel_rfl) (by kernel_rfl) (by kernel_rfl) (fun _ d' _ _ _ h => by cases d' <;> exact h) (by kernel_rfl) (by kernel_rfl) (fun w' => run52) s.sub ?_
  refine held_one (fuel := 5) 1 (by kernel_rfl) (by kernel_rfl) ?_
  refine callF_rule (H := []) (F := []) (some 18) s (fewM_c hA hlA0) (by kernel_rfl) ?_
  intro v5 I5 w5 F5 le5 h5 s
  replace hA := FSl.mono le5 hA
  replace hD := FSl.mono le5 hD
  replace hK := ISl.mono le5 hK
  replace hN := Tx.NmT.mono le5 hN
  replace hT := Tx.U8.mono le5 hT
  replace hH4 := leMono le5 hH4
  refine ops_done (by kernel_rfl) ?_
  refine held_next s hH4 ?_
  refine held_one (fuel := 4) 3 (by kernel_rfl) (by kernel_rfl) ?_
  refine call_rule (some 20) s (fewP_c hD hlD0) (by kernel_rfl) ?_
  intro v6 I6 w6 le6 h6 s
  replace hA := FSl.mono le6 hA
  replace hD := FSl.mono le6 hD
  replace hK := ISl.mono le6 hK
  replace hN := Tx.NmT.mono le6 hN
  replace hT := Tx.U8.mono le6 hT
  replace hH4 := leMono le6 hH4
  obtain ⟨a6, c6, rfl, h6_0⟩ := h6
  refine ops_done (by kernel_rfl) ?_
  refine held_next s hH4 ?_
  refine held_one (fuel := 3) 9 (by kernel_rfl) (by kernel_rfl) ?_
  refine call_rule (some 26) s (cloneX_c hK (by rw [List.length_take]; omega)) (by kernel_rfl) ?_
  intro v7 I7 w7 le7 h7 s
  replace hA := FSl.mono le7 hA
  replace hD := FSl.mono le7 hD
  replace hK := ISl.mono le7 hK
  replace hN := Tx.NmT.mono le7 hN
  replace hT := Tx.U8.mono le7 hT
  replace hH4 := leMono le7 hH4
  replace h6_0 := FSl.mono le7 h6_0
  obtain ⟨a7, c7, rfl, h7_0⟩ := h7
  refine ops_done (by kernel_rfl) ?_
  refine held_next s hH4 ?_
  refine held_take (fuel := 2) [] [] 10 (v5) (some 0) [] (I := I2) trivial (by kernel_rfl) (by kernel_rfl) (by kernel_rfl) (by kernel_rfl) (by kernel_rfl) (fun _ d' _ _ _ h => by cases d' <;> exact h) (by kernel_rfl) (by kernel_rfl) (fun k o hk => s.sub k o (hH4 k o hk)) ?_
  refine held_take (fuel := 1) [] [] 11 (.slice a6 (List.length (fewF D)) c6) (some 1) [] (I := I2) trivial (by kernel_rfl) (by kernel_rfl) (by kernel_rfl) (by kernel_rfl) (by kernel_rfl) (fun _ d' _ _ _ h => by cases d' <;> exact h) (by kernel_rfl) (by kernel_rfl) (fun k o hk => s.sub k o (hH4 k o hk)) ?_
  refine held_take (fuel := 0) [] [] 12 (.slice a7 (List.length (K.take (min K.length 9))) c7) (some 2) [] (I := I2) trivial (by kernel_rfl) (by kernel_rfl) (by kernel_rfl) (by kernel_rfl) (by kernel_rfl) (fun _ d' _ _ _ h => by cases d' <;> exact h) (by kernel_rfl) (by kernel_rfl) (fun k o hk => s.sub k o (hH4 k o hk)) ?_
  refine Go.wpAnyH_done (by kernel_rfl) ?_ _
  refine wp_seq ?_
  refine wp_seq ?_
  obtain ⟨a8, c8, hv8⟩ := row_val h5
  subst hv8
  refine region_rule ?_
  refine ops_rule (C := []) [] F5 3 [] 0 (fun φ9 => [(29, .bool (decide ((((List.length (fewF A)) : Nat) : Int) > ((0 : Nat) : Int)))), (28, .int .i64 (((List.length (fewF A)) : Nat) : Int)), (27, .slice a8 (List.length (fewF A)) c8)]) (fun φ9 => []) (fun φ9 => []) s trivial (fun φ9 => by kernel_rfl) ?_
  intro φ9 w9 s
  rw [nat_gtr (a := (List.length (fewF A))) (b := 0)]
  refine ops_done (by kernel_rfl) ?_
  rcases Bool.eq_false_or_eq_true (decide (0 < (List.length (fewF A)))) with hc10 | hc10
  ·
    rw [hc10]
    refine cond_true_rule (b := true) (by kernel_rfl) rfl ?_
    have hlt11 : 0 < (fewF A).length := by have hq0 := of_decide_eq_true hc10; omega
    obtain ⟨g11, cp11, hv11⟩ := row_some h5 hlt11
    simp only [Value.slice.injEq] at hv11
    obtain ⟨rfl, -, rfl⟩ := hv11
    have hH11 := IM.Le.refl I7
    refine held_begin (n := 13) (SubS I7) (by kernel_rfl) (by kernel_rfl) ?_
    replace s := St.drew s
    refine held_take (fuel := 12) [] [] 0 (.slice (some ⟨g11, 0, none⟩) (List.length (fewF A)) c8) (some 30) [] (I := I7) trivial (by kernel_rfl) (by kernel_rfl) (by kernel_rfl) (by kernel_rfl) (by kernel_rfl) (fun _ d' _ _ _ h => by cases d' <;> exact h) (by kernel_rfl) (by kernel_rfl) s.sub ?_
    refine held_ran (fuel := 11) (Instr.indexAt 22 (.slice (some ⟨g11, 0, none⟩) (List.length (fewF A)) c8) (.int .i64 ((0 : Nat) : Int))) 1 (.pointer (some ⟨g11, 0 * 3, none⟩)) (some 31) (I := I7) (by kernel_rfl) (by kernel_rfl) (by kernel_rfl) (by kernel_rfl) (by kernel_rfl) (fun _ d' _ _ _ h => by cases d' <;> exact h) (by kernel_rfl) (by kernel_rfl) (fun w' => row_idx39 hlt11) s.sub ?_
    refine held_take (fuel := 10) [] [] 2 (.pointer (some ⟨g11, 0 * 3 + 2, none⟩)) (some 32) [] (I := I7) trivial (by kernel_rfl) (by kernel_rfl) (by kernel_rfl) (by kernel_rfl) (by kernel_rfl) (fun _ d' _ _ _ h => by cases d' <;> exact h) (by kernel_rfl) (by kernel_rfl) s.sub ?_
    refine held_take (fuel := 9) [] [] 4 (.int .u16 ((r : Nat) : Int)) (some 34) [] (I := I7) trivial (by kernel_rfl) (by kernel_rfl) (by kernel_rfl) (by kernel_rfl) (by kernel_rfl) (fun _ d' _ _ _ h => by cases d' <;> exact h) (by kernel_rfl) (by kernel_rfl) s.sub ?_
    refine held_ran (fuel := 8) (convert 72 3 (.int .u16 ((r : Nat) : Int))) 5 (.int .i64 ((r : Nat) : Int)) (some 35) (I := I7) (by kernel_rfl) (by kernel_rfl) (by kernel_rfl) (by kernel_rfl) (by kernel_rfl) (fun _ d' _ _ _ h => by cases d' <;> exact h) (by kernel_rfl) (by kernel_rfl) (fun w' => run_cv16 hr) s.sub ?_
    refine held_ran (fuel := 7) (binOp .rem 3 (.int .i64 ((r : Nat) : Int)) (.int .i64 ((300 : Nat) : Int))) 6 (.int .i64 (((r % 300) : Nat) : Int)) (some 36) (I := I7) (by kernel_rfl) (by kernel_rfl) (by kernel_rfl) (by kernel_rfl) (by kernel_rfl) (fun _ d' _ _ _ h => by cases d' <;> exact h) (by kernel_rfl) (by kernel_rfl) (fun w' => run_remI (by decide)) s.sub ?_
    have hrn11 := Nat.mod_lt r (show 0 < 300 by decide)
    refine held_two (fuel := 6) 3 7 (by kernel_rfl) (by kernel_rfl) (by kernel_rfl) ?_ ?_
    ·
      refine sem_rule (Instr.loadAt 9 (.pointer (some ⟨g11, 0 * 3 + 2, none⟩))) (some 33) (.string ⟨(((List.getD (fewF A) 0 Fe.z).v)).toArray⟩) (by kernel_rfl) (row_ld9 (H := []) s h5 hlt11) ?_
      refine ops_done (by kernel_rfl) ?_
      refine held_next s hH11 ?_
      refine held_one (fuel := 5) 7 (by kernel_rfl) (by kernel_rfl) ?_
      obtain ⟨z12, cur12, w12, hr12, s, hz12⟩ := make_zeros (n := (r % 300)) s (by omega)
      refine sem_rule (Instr.makeSlice 61 (.int .i64 (((r % 300) : Nat) : Int)) (.int .i64 (((r % 300) : Nat) : Int))) (some 37) (.slice (some ⟨z12, 0, none⟩) (r % 300) (r % 300)) (by kernel_rfl) hr12 ?_
      obtain ⟨J12, le12, hk12, s⟩ := freeze_row (H := [] ++ F5) (F := [(z12, .cells cur12 5)]) s hz12
      replace hA := FSl.mono le12 hA
      replace hD := FSl.mono le12 hD
      replace hK := ISl.mono le12 hK
      replace hN := Tx.NmT.mono le12 hN
      replace hT := Tx.U8.mono le12 hT
      replace hH4 := leMono le12 hH4
      replace h6_0 := FSl.mono le12 h6_0
      replace h7_0 := ISl.mono le12 h7_0
      replace hH11 := leMono le12 hH11
      refine ops_done (by kernel_rfl) ?_
      refine held_next s hH11 ?_
      refine held_one (fuel := 4) 8 (by kernel_rfl) (by kernel_rfl) ?_
      refine sem_rule (convert 61 9 (.slice (some ⟨z12, 0, none⟩) (r % 300) (r % 300))) (some 38) (.string ⟨((List.replicate (r % 300) (0 : UInt8))).toArray⟩) (by kernel_rfl) (run_b2s s.sub hk12) ?_
      refine ops_done (by kernel_rfl) ?_
      refine held_next s hH11 ?_
      have hfs11 := few_short _ (getD_mem hlt11)
      have hll11 : (((List.getD (fewF A) 0 Fe.z).v)).length + ((List.replicate (r % 300) (0 : UInt8))).length ≤ 9223372036854775807 := by rw [List.length_replicate]; omega
      refine held_ran (fuel := 3) (binOp .add 9 (.string ⟨(((List.getD (fewF A) 0 Fe.z).v)).toArray⟩) (.string ⟨((List.replicate (r % 300) (0 : UInt8))).toArray⟩)) 9 (.string ⟨((((List.getD (fewF A) 0 Fe.z).v) ++ (List.replicate (r % 300) (0 : UInt8)))).toArray⟩) (some 39) (I := I7) (by kernel_rfl) (by kernel_rfl) (by kernel_rfl) (by kernel_rfl) (by kernel_rfl) (fun _ d' _ _ _ h => by cases d' <;> exact h) (by kernel_rfl) (by kernel_rfl) (fun w' => run_cat hll11) (fun k o hk => s.sub k o (hH11 k o hk)) ?_
      refine held_ran (fuel := 2) (Instr.indexAt 22 (.slice (some ⟨g11, 0, none⟩) (List.length (fewF A)) c8) (.int .i64 ((0 : Nat) : Int))) 10 (.pointer (some ⟨g11, 0 * 3, none⟩)) (some 40) (I := I7) (by kernel_rfl) (by kernel_rfl) (by kernel_rfl) (by kernel_rfl) (by kernel_rfl) (fun _ d' _ _ _ h => by cases d' <;> exact h) (by kernel_rfl) (by kernel_rfl) (fun w' => row_idx39 hlt11) (fun k o hk => s.sub k o (hH11 k o hk)) ?_
      refine held_take (fuel := 1) [] [] 11 (.pointer (some ⟨g11, 0 * 3 + 2, none⟩)) (some 41) [] (I := I7) trivial (by kernel_rfl) (by kernel_rfl) (by kernel_rfl) (by kernel_rfl) (by kernel_rfl) (fun _ d' _ _ _ h => by cases d' <;> exact h) (by kernel_rfl) (by kernel_rfl) (fun k o hk => s.sub k o (hH11 k o hk)) ?_
      refine held_one (fuel := 0) 12 (by kernel_rfl) (by kernel_rfl) ?_
      obtain ⟨w13, F13, hr13, s, h13⟩ := row_st9 (H := []) (y := (((List.getD (fewF A) 0 Fe.z).v) ++ (List.replicate (r % 300) (0 : UInt8)))) s h5 hlt11
      refine semU_rule (Instr.storeAt 9 (.pointer (some ⟨g11, 0 * 3 + 2, none⟩)) (.string ⟨((((List.getD (fewF A) 0 Fe.z).v) ++ (List.replicate (r % 300) (0 : UInt8)))).toArray⟩)) none (by kernel_rfl) hr13 ?_
      refine ops_done (by kernel_rfl) ?_
      refine held_next s hH11 ?_
      refine Go.wpAnyH_done (by kernel_rfl) ?_ _
      have hx13 := ext_props (L := (fewF A)) (y := (((List.getD (fewF A) 0 Fe.z).v) ++ (List.replicate (r % 300) (0 : UInt8)))) few_len few_short (by rw [List.length_append, List.length_replicate]; omega)
      refine wp_seq ?_
      have hx14 : ((List.set (fewF A) 0 ⟨(List.getD (fewF A) 0 Fe.z).k, (List.getD (fewF A) 0 Fe.z).a, (((List.getD (fewF A) 0 Fe.z).v) ++ (List.replicate (r % 300) (0 : UInt8)))⟩)).length ≤ 14 ∧ ∀ x ∈ (List.set (fewF A) 0 ⟨(List.getD (fewF A) 0 Fe.z).k, (List.getD (fewF A) 0 Fe.z).a, (((List.getD (fewF A) 0 Fe.z).v) ++ (List.replicate (r % 300) (0 : UInt8)))⟩), x.v.length ≤ 400 := hx13
      obtain ⟨J14, le14, hk14, s⟩ := freeze_row39 (H := []) (F := F13) s h13
      replace hA := FSl.mono le14 hA
      replace hD := FSl.mono le14 hD
      replace hK := ISl.mono le14 hK
      replace hN := Tx.NmT.mono le14 hN
      replace hT := Tx.U8.mono le14 hT
      replace hH4 := leMono le14 hH4
      replace h6_0 := FSl.mono le14 h6_0
      replace h7_0 := ISl.mono le14 h7_0
      replace hH11 := leMono le14 hH11
      obtain ⟨AX, hAX⟩ : ∃ X, X = (List.set (fewF A) 0 ⟨(List.getD (fewF A) 0 Fe.z).k, (List.getD (fewF A) 0 Fe.z).a, (((List.getD (fewF A) 0 Fe.z).v) ++ (List.replicate (r % 300) (0 : UInt8)))⟩) := ⟨_, rfl⟩
      rw [← hAX] at hk14 hx14
      obtain ⟨hn14, -⟩ := hk14.cap
      have hlA : AX.length ≤ 255 := by omega
      obtain ⟨DX, hDX⟩ : ∃ X, X = (fewF D) := ⟨_, rfl⟩
      have hlD : DX.length ≤ 255 := by rw [hDX]; exact Nat.le_trans few_len (by decide)
      obtain ⟨KX, hKX⟩ : ∃ X, X = (K.take (min K.length 9)) := ⟨_, rfl⟩
      have hlK : KX.length ≤ 255 := by rw [hKX, List.length_take]; omega
      rw [hn14] at hk14 ⊢
      have hd14 := h6_0
      rw [← hDX] at hd14 ⊢
      have hi14 := h7_0
      rw [← hKX] at hi14 ⊢
      by_cases hpt : ptE AX DX KX = 0
      ·
        obtain ⟨hoA, hoD, hoK⟩ := pt_zero hpt
        replace hoA := okL_ofM hoA
        replace hoD := okL_ofM hoD
        obtain ⟨NX, rfl, hoN⟩ := ints_nat hoK
        rw [List.length_map] at hlK hi14 ⊢
        have hz15 := isl_ksl hi14
        refine region_rule ?_
        refine ops_rule (C := []) [] [] 4 [] 0 (fun φ16 => [(46, .agg #[.slice (some ⟨g11, 0, none⟩) AX.length c8, .slice a6 DX.length c6, .slice a7 NX.length c7]), (45, .slice a7 NX.length c7), (44, .slice a6 DX.length c6), (43, .slice (some ⟨g11, 0, none⟩) AX.length c8)]) (fun φ16 => []) (fun φ16 => []) s trivial (fun φ16 => by kernel_rfl) ?_
        intro φ16 w16 s
        refine call_rule (some 47) s (patch_c hk14 hd14 hz15 hlA hlD hlK hoA hoD (kok hoN)) (by kernel_rfl) ?_
        intro v17 I17 w17 le17 h17 s
        replace hA := FSl.mono le17 hA
        replace hD := FSl.mono le17 hD
        replace hK := ISl.mono le17 hK
        replace hN := Tx.NmT.mono le17 hN
        replace hT := Tx.U8.mono le17 hT
        replace hH4 := leMono le17 hH4
        replace h6_0 := FSl.mono le17 h6_0
        replace h7_0 := ISl.mono le17 h7_0
        replace hH11 := leMono le17 hH11
        replace hk14 := FSl.mono le17 hk14
        replace hd14 := FSl.mono le17 hd14
        replace hz15 := KSl.mono le17 hz15
        obtain ⟨a17, c17, rfl, h17_0⟩ := h17
        refine ops_rule (C := []) [] [] 5 [] 0 (fun φ18 => [(10, .int .i64 0), (9, .slice a17 (List.length (encP AX DX NX)) c17), (49, .int .i64 0), (48, .slice a17 (List.length (encP AX DX NX)) c17), (42, .tuple #[.slice a17 (List.length (encP AX DX NX)) c17, .int .i64 0])]) (fun φ18 => []) (fun φ18 => []) s trivial (fun φ18 => by kernel_rfl) ?_
        intro φ18 w18 s
        refine ops_done (by kernel_rfl) ?_
        refine wp_seq ?_
        refine region_rule ?_
        refine ops_rule (C := []) [] [] 1 [] 0 (fun φ19 => [(51, .slice (some ⟨g11, 0, none⟩) AX.length c8)]) (fun φ19 => []) (fun φ19 => []) s trivial (fun φ19 => by kernel_rfl) ?_
        intro φ19 w19 s
        refine call_rule (some 52) s (ownF_c hk14 (Nat.le_trans hlA (by decide))) (by kernel_rfl) ?_
        intro v20 I20 w20 le20 h20 s
        replace hA := FSl.mono le20 hA
        replace hD := FSl.mono le20 hD
        replace hK := ISl.mono le20 hK
        replace hN := Tx.NmT.mono le20 hN
        replace hT := Tx.U8.mono le20 hT
        replace hH4 := leMono le20 hH4
        replace h6_0 := FSl.mono le20 h6_0
        replace h7_0 := ISl.mono le20 h7_0
        replace hH11 := leMono le20 hH11
        replace hk14 := FSl.mono le20 hk14
        replace hd14 := FSl.mono le20 hd14
        replace hz15 := KSl.mono le20 hz15
        replace h17_0 := BSl.mono le20 h17_0
        obtain ⟨a20, c20, rfl, h20_0⟩ := h20
        refine ops_rule (C := []) [] [] 1 [] 0 (fun φ21 => [(53, .slice a6 DX.length c6)]) (fun φ21 => []) (fun φ21 => []) s trivial (fun φ21 => by kernel_rfl) ?_
        intro φ21 w21 s
        refine call_rule (some 54) s (ownF_c hd14 (Nat.le_trans hlD (by decide))) (by kernel_rfl) ?_
        intro v22 I22 w22 le22 h22 s
        replace hA := FSl.mono le22 hA
        replace hD := FSl.mono le22 hD
        replace hK := ISl.mono le22 hK
        replace hN := Tx.NmT.mono le22 hN
        replace hT := Tx.U8.mono le22 hT
        replace hH4 := leMono le22 hH4
        replace h6_0 := FSl.mono le22 h6_0
        replace h7_0 := ISl.mono le22 h7_0
        replace hH11 := leMono le22 hH11
        replace hk14 := FSl.mono le22 hk14
        replace hd14 := FSl.mono le22 hd14
        replace hz15 := KSl.mono le22 hz15
        replace h17_0 := BSl.mono le22 h17_0
        replace h20_0 := FSl.mono le22 h20_0
        obtain ⟨a22, c22, rfl, h22_0⟩ := h22
        refine ops_rule (C := []) [] [] 1 [] 0 (fun φ23 => [(55, .slice a7 NX.length c7)]) (fun φ23 => []) (fun φ23 => []) s trivial (fun φ23 => by kernel_rfl) ?_
        intro φ23 w23 s
        refine call_rule (some 56) s (refWrite_c h20_0 h22_0 hz15 hlA hlD hlK hoA hoD (kok hoN)) (by kernel_rfl) ?_
        intro v24 I24 w24 le24 h24 s
        replace hA := FSl.mono le24 hA
        replace hD := FSl.mono le24 hD
        replace hK := ISl.mono le24 hK
        replace hN := Tx.NmT.mono le24 hN
        replace hT := Tx.U8.mono le24 hT
        replace hH4 := leMono le24 hH4
        replace h6_0 := FSl.mono le24 h6_0
        replace h7_0 := ISl.mono le24 h7_0
        replace hH11 := leMono le24 hH11
        replace hk14 := FSl.mono le24 hk14
        replace hd14 := FSl.mono le24 hd14
        replace hz15 := KSl.mono le24 hz15
        replace h17_0 := BSl.mono le24 h17_0
        replace h20_0 := FSl.mono le24 h20_0
        replace h22_0 := FSl.mono le24 h22_0
        obtain ⟨a24, c24, rfl, h24_0⟩ := h24
        refine ops_rule (C := []) [] [] 5 [] 0 (fun φ25 => [(12, .int .i64 0), (11, .slice a24 (List.length (encP AX DX NX)) c24), (58, .int .i64 0), (57, .slice a24 (List.length (encP AX DX NX)) c24), (50, .tuple #[.slice a24 (List.length (encP AX DX NX)) c24, .int .i64 0])]) (fun φ25 => []) (fun φ25 => []) s trivial (fun φ25 => by kernel_rfl) ?_
        intro φ25 w25 s
        refine ops_done (by kernel_rfl) ?_
        refine wp_seq ?_
        refine wp_seq ?_
        refine region_rule ?_
        refine ops_rule (C := []) [] [] 6 [] 0 (fun φ26 => [(64, .slice a24 (List.length (encP AX DX NX)) c24), (63, .slice a17 (List.length (encP AX DX NX)) c17), (62, .bool false), (61, .bool false), (60, .int .i64 0), (59, .int .i64 0)]) (fun φ26 => []) (fun φ26 => []) s trivial (fun φ26 => by kernel_rfl) ?_
        intro φ26 w26 s
        refine call_rule (some 65) s (sameR_c h17_0 h24_0 (Nat.le_trans (encP_len hoA hoD hlA hlD hlK) (by decide))) (by kernel_rfl) ?_
        intro v27 I27 w27 le27 h27 s
        replace hA := FSl.mono le27 hA
        replace hD := FSl.mono le27 hD
        replace hK := ISl.mono le27 hK
        replace hN := Tx.NmT.mono le27 hN
        replace hT := Tx.U8.mono le27 hT
        replace hH4 := leMono le27 hH4
        replace h6_0 := FSl.mono le27 h6_0
        replace h7_0 := ISl.mono le27 h7_0
        replace hH11 := leMono le27 hH11
        replace hk14 := FSl.mono le27 hk14
        replace hd14 := FSl.mono le27 hd14
        replace hz15 := KSl.mono le27 hz15
        replace h17_0 := BSl.mono le27 h17_0
        replace h20_0 := FSl.mono le27 h20_0
        replace h22_0 := FSl.mono le27 h22_0
        replace h24_0 := BSl.mono le27 h24_0
        obtain rfl := h27
        refine ops_rule (C := []) [] [] 2 [] 0 (fun φ28 => [(67, .bool false), (66, .bool false)]) (fun φ28 => []) (fun φ28 => []) s trivial (fun φ28 => by kernel_rfl) ?_
        intro φ28 w28 s
        refine ops_done (by kernel_rfl) ?_
        refine cond_false_rule (b := false) (by kernel_rfl) rfl ?_
        refine wp_skip ?_
        refine wp_seq ?_
        refine wp_seq ?_
        refine region_rule ?_
        refine ops_rule (C := []) [] [] 2 [] 0 (fun φ29 => [(69, .bool false), (68, .int .i64 0)]) (fun φ29 => []) (fun φ29 => []) s trivial (fun φ29 => by kernel_rfl) ?_
        intro φ29 w29 s
        refine ops_done (by kernel_rfl) ?_
        refine cond_false_rule (b := false) (by kernel_rfl) rfl ?_
        refine wp_skip ?_
        refine wp_seq ?_
        refine region_rule ?_
        refine ops_rule (C := []) [] [] 1 [] 0 (fun φ30 => [(71, .slice a17 (List.length (encP AX DX NX)) c17)]) (fun φ30 => []) (fun φ30 => []) s trivial (fun φ30 => by kernel_rfl) ?_
        intro φ30 w30 s
        refine call_rule (some 72) s (readW_c h17_0 hoA hoD hoN hlA hlD hlK) (by kernel_rfl) ?_
        intro v31 I31 w31 le31 h31 s
        replace hA := FSl.mono le31 hA
        replace hD := FSl.mono le31 hD
        replace hK := ISl.mono le31 hK
        replace hN := Tx.NmT.mono le31 hN
        replace hT := Tx.U8.mono le31 hT
        replace hH4 := leMono le31 hH4
        replace h6_0 := FSl.mono le31 h6_0
        replace h7_0 := ISl.mono le31 h7_0
        replace hH11 := leMono le31 hH11
        replace hk14 := FSl.mono le31 hk14
        replace hd14 := FSl.mono le31 hd14
        replace hz15 := KSl.mono le31 hz15
        replace h17_0 := BSl.mono le31 h17_0
        replace h20_0 := FSl.mono le31 h20_0
        replace h22_0 := FSl.mono le31 h22_0
        replace h24_0 := BSl.mono le31 h24_0
        obtain ⟨a31, b31, d31, c31, e31, f31, rfl, h31_0, h31_1, h31_2⟩ := h31
        refine ops_rule (C := []) [] [] 6 [.o 0, .o 0, .o 0] 1 (fun φ32 => [(14, .int .i64 0), (13, .pointer (some ⟨(φ32 0), 0, none⟩)), (74, .int .i64 0), (73, .agg #[.slice a31 AX.length c31, .slice b31 DX.length e31, .slice d31 NX.length f31]), (70, .tuple #[.agg #[.slice a31 AX.length c31, .slice b31 DX.length e31, .slice d31 NX.length f31], .int .i64 0])]) (fun φ32 => [((φ32 0), .cells #[.slice a31 AX.length c31, .slice b31 DX.length e31, .slice d31 NX.length f31] 56)]) (fun φ32 => [(φ32 0), (φ32 0), (φ32 0)]) s trivial (fun φ32 => by kernel_rfl) ?_
        intro φ32 w32 s
        refine ops_done (by kernel_rfl) ?_
        refine wp_seq ?_
        refine region_rule ?_
        refine ops_rule (C := []) [((φ32 0), .cells #[.slice a31 AX.length c31, .slice b31 DX.length e31, .slice d31 NX.length f31] 56)] [] 6 [.o 0] 0 (fun φ33 => [(80, .slice (some ⟨g11, 0, none⟩) AX.length c8), (79, .slice a31 AX.length c31), (78, .pointer (some ⟨(φ32 0), 0, none⟩)), (77, .bool true), (76, .bool true), (75, .int .i64 0)]) (fun φ33 => [((φ32 0), .cells #[.slice a31 AX.length c31, .slice b31 DX.length e31, .slice d31 NX.length f31] 56)]) (fun φ33 => [(φ32 0)]) s trivial (fun φ33 => by kernel_rfl) ?_
        intro φ33 w33 s
        refine call_rule (some 81) s (equalF_c h31_0 hk14 (Nat.le_trans hlA (by decide))) (by kernel_rfl) ?_
        intro v34 I34 w34 le34 h34 s
        replace hA := FSl.mono le34 hA
        replace hD := FSl.mono le34 hD
        replace hK := ISl.mono le34 hK
        replace hN := Tx.NmT.mono le34 hN
        replace hT := Tx.U8.mono le34 hT
        replace hH4 := leMono le34 hH4
        replace h6_0 := FSl.mono le34 h6_0
        replace h7_0 := ISl.mono le34 h7_0
        replace hH11 := leMono le34 hH11
        replace hk14 := FSl.mono le34 hk14
        replace hd14 := FSl.mono le34 hd14
        replace hz15 := KSl.mono le34 hz15
        replace h17_0 := BSl.mono le34 h17_0
        replace h20_0 := FSl.mono le34 h20_0
        replace h22_0 := FSl.mono le34 h22_0
        replace h24_0 := BSl.mono le34 h24_0
        replace h31_0 := FSl.mono le34 h31_0
        replace h31_1 := FSl.mono le34 h31_1
        replace h31_2 := KSl.mono le34 h31_2
        obtain rfl := h34
        refine ops_rule (C := []) [((φ32 0), .cells #[.slice a31 AX.length c31, .slice b31 DX.length e31, .slice d31 NX.length f31] 56)] [] 5 [.o 0] 0 (fun φ35 => [(86, .slice a6 DX.length c6), (85, .slice b31 DX.length e31), (84, .pointer (some ⟨(φ32 0), 1, none⟩)), (83, .bool true), (82, .bool true)]) (fun φ35 => [((φ32 0), .cells #[.slice a31 AX.length c31, .slice b31 DX.length e31, .slice d31 NX.length f31] 56)]) (fun φ35 => [(φ32 0)]) s trivial (fun φ35 => by kernel_rfl) ?_
        intro φ35 w35 s
        refine call_rule (some 87) s (equalF_c h31_1 hd14 (Nat.le_trans hlD (by decide))) (by kernel_rfl) ?_
        intro v36 I36 w36 le36 h36 s
        replace hA := FSl.mono le36 hA
        replace hD := FSl.mono le36 hD
        replace hK := ISl.mono le36 hK
        replace hN := Tx.NmT.mono le36 hN
        replace hT := Tx.U8.mono le36 hT
        replace hH4 := leMono le36 hH4
        replace h6_0 := FSl.mono le36 h6_0
        replace h7_0 := ISl.mono le36 h7_0
        replace hH11 := leMono le36 hH11
        replace hk14 := FSl.mono le36 hk14
        replace hd14 := FSl.mono le36 hd14
        replace hz15 := KSl.mono le36 hz15
        replace h17_0 := BSl.mono le36 h17_0
        replace h20_0 := FSl.mono le36 h20_0
        replace h22_0 := FSl.mono le36 h22_0
        replace h24_0 := BSl.mono le36 h24_0
        replace h31_0 := FSl.mono le36 h31_0
        replace h31_1 := FSl.mono le36 h31_1
        replace h31_2 := KSl.mono le36 h31_2
        obtain rfl := h36
        refine ops_rule (C := []) [((φ32 0), .cells #[.slice a31 AX.length c31, .slice b31 DX.length e31, .slice d31 NX.length f31] 56)] [] 5 [.o 0] 0 (fun φ37 => [(92, .slice a7 NX.length c7), (91, .slice d31 NX.length f31), (90, .pointer (some ⟨(φ32 0), 2, none⟩)), (89, .bool true), (88, .bool true)]) (fun φ37 => [((φ32 0), .cells #[.slice a31 AX.length c31, .slice b31 DX.length e31, .slice d31 NX.length f31] 56)]) (fun φ37 => [(φ32 0)]) s trivial (fun φ37 => by kernel_rfl) ?_
        intro φ37 w37 s
        refine call_rule (some 93) s (equalK_c h31_2 hz15 (Nat.le_trans hlK (by decide))) (by kernel_rfl) ?_
        intro v38 I38 w38 le38 h38 s
        replace hA := FSl.mono le38 hA
        replace hD := FSl.mono le38 hD
        replace hK := ISl.mono le38 hK
        replace hN := Tx.NmT.mono le38 hN
        replace hT := Tx.U8.mono le38 hT
        replace hH4 := leMono le38 hH4
        replace h6_0 := FSl.mono le38 h6_0
        replace h7_0 := ISl.mono le38 h7_0
        replace hH11 := leMono le38 hH11
        replace hk14 := FSl.mono le38 hk14
        replace hd14 := FSl.mono le38 hd14
        replace hz15 := KSl.mono le38 hz15
        replace h17_0 := BSl.mono le38 h17_0
        replace h20_0 := FSl.mono le38 h20_0
        replace h22_0 := FSl.mono le38 h22_0
        replace h24_0 := BSl.mono le38 h24_0
        replace h31_0 := FSl.mono le38 h31_0
        replace h31_1 := FSl.mono le38 h31_1
        replace h31_2 := KSl.mono le38 h31_2
        obtain rfl := h38
        refine ops_rule (C := []) [((φ32 0), .cells #[.slice a31 AX.length c31, .slice b31 DX.length e31, .slice d31 NX.length f31] 56)] [] 2 [] 0 (fun φ39 => [(8, .bool true), (94, .bool true)]) (fun φ39 => [((φ32 0), .cells #[.slice a31 AX.length c31, .slice b31 DX.length e31, .slice d31 NX.length f31] 56)]) (fun φ39 => []) s trivial (fun φ39 => by kernel_rfl) ?_
        intro φ39 w39 s
        refine ops_done (by kernel_rfl) ?_
        refine wp_ret ?_
        refine ret_rule (C := []) [((φ32 0), .cells #[.slice a31 AX.length c31, .slice b31 DX.length e31, .slice d31 NX.length f31] 56)] [] (.bool true) [] [] s trivial (by kernel_rfl) ?_
        exact ⟨_, _, _, rfl, s, rfl⟩
      ·
        refine region_rule ?_
        refine ops_rule (C := []) [] [] 4 [] 0 (fun φ40 => [(46, .agg #[.slice (some ⟨g11, 0, none⟩) AX.length c8, .slice a6 DX.length c6, .slice a7 KX.length c7]), (45, .slice a7 KX.length c7), (44, .slice a6 DX.length c6), (43, .slice (some ⟨g11, 0, none⟩) AX.length c8)]) (fun φ40 => []) (fun φ40 => []) s trivial (fun φ40 => by kernel_rfl) ?_
        intro φ40 w40 s
        refine call_rule (some 47) s (patchE_c hk14 hd14 hi14 hlA hlD hlK hpt) (by kernel_rfl) ?_
        intro v41 I41 w41 le41 h41 s
        replace hA := FSl.mono le41 hA
        replace hD := FSl.mono le41 hD
        replace hK := ISl.mono le41 hK
        replace hN := Tx.NmT.mono le41 hN
        replace hT := Tx.U8.mono le41 hT
        replace hH4 := leMono le41 hH4
        replace h6_0 := FSl.mono le41 h6_0
        replace h7_0 := ISl.mono le41 h7_0
        replace hH11 := leMono le41 hH11
        replace hk14 := FSl.mono le41 hk14
        replace hd14 := FSl.mono le41 hd14
        replace hi14 := ISl.mono le41 hi14
        obtain rfl := h41
        refine ops_rule (C := []) [] [] 5 [] 0 (fun φ42 => [(10, .int .i64 (((ptE AX DX KX) : Nat) : Int)), (9, .slice none 0 0), (49, .int .i64 (((ptE AX DX KX) : Nat) : Int)), (48, .slice none 0 0), (42, .tuple #[.slice none 0 0, .int .i64 (((ptE AX DX KX) : Nat) : Int)])]) (fun φ42 => []) (fun φ42 => []) s trivial (fun φ42 => by kernel_rfl) ?_
        intro φ42 w42 s
        refine ops_done (by kernel_rfl) ?_
        refine wp_seq ?_
        refine region_rule ?_
        refine ops_rule (C := []) [] [] 1 [] 0 (fun φ43 => [(51, .slice (some ⟨g11, 0, none⟩) AX.length c8)]) (fun φ43 => []) (fun φ43 => []) s trivial (fun φ43 => by kernel_rfl) ?_
        intro φ43 w43 s
        refine call_rule (some 52) s (ownF_c hk14 (Nat.le_trans hlA (by decide))) (by kernel_rfl) ?_
        intro v44 I44 w44 le44 h44 s
        replace hA := FSl.mono le44 hA
        replace hD := FSl.mono le44 hD
        replace hK := ISl.mono le44 hK
        replace hN := Tx.NmT.mono le44 hN
        replace hT := Tx.U8.mono le44 hT
        replace hH4 := leMono le44 hH4
        replace h6_0 := FSl.mono le44 h6_0
        replace h7_0 := ISl.mono le44 h7_0
        replace hH11 := leMono le44 hH11
        replace hk14 := FSl.mono le44 hk14
        replace hd14 := FSl.mono le44 hd14
        replace hi14 := ISl.mono le44 hi14
        obtain ⟨a44, c44, rfl, h44_0⟩ := h44
        refine ops_rule (C := []) [] [] 1 [] 0 (fun φ45 => [(53, .slice a6 DX.length c6)]) (fun φ45 => []) (fun φ45 => []) s trivial (fun φ45 => by kernel_rfl) ?_
        intro φ45 w45 s
        refine call_rule (some 54) s (ownF_c hd14 (Nat.le_trans hlD (by decide))) (by kernel_rfl) ?_
        intro v46 I46 w46 le46 h46 s
        replace hA := FSl.mono le46 hA
        replace hD := FSl.mono le46 hD
        replace hK := ISl.mono le46 hK
        replace hN := Tx.NmT.mono le46 hN
        replace hT := Tx.U8.mono le46 hT
        replace hH4 := leMono le46 hH4
        replace h6_0 := FSl.mono le46 h6_0
        replace h7_0 := ISl.mono le46 h7_0
        replace hH11 := leMono le46 hH11
        replace hk14 := FSl.mono le46 hk14
        replace hd14 := FSl.mono le46 hd14
        replace hi14 := ISl.mono le46 hi14
        replace h44_0 := FSl.mono le46 h44_0
        obtain ⟨a46, c46, rfl, h46_0⟩ := h46
        refine ops_rule (C := []) [] [] 1 [] 0 (fun φ47 => [(55, .slice a7 KX.length c7)]) (fun φ47 => []) (fun φ47 => []) s trivial (fun φ47 => by kernel_rfl) ?_
        intro φ47 w47 s
        refine call_rule (some 56) s (refWriteE_c h44_0 h46_0 hi14 hlA hlD hlK hpt) (by kernel_rfl) ?_
        intro v48 I48 w48 le48 h48 s
        replace hA := FSl.mono le48 hA
        replace hD := FSl.mono le48 hD
        replace hK := ISl.mono le48 hK
        replace hN := Tx.NmT.mono le48 hN
        replace hT := Tx.U8.mono le48 hT
        replace hH4 := leMono le48 hH4
        replace h6_0 := FSl.mono le48 h6_0
        replace h7_0 := ISl.mono le48 h7_0
        replace hH11 := leMono le48 hH11
        replace hk14 := FSl.mono le48 hk14
        replace hd14 := FSl.mono le48 hd14
        replace hi14 := ISl.mono le48 hi14
        replace h44_0 := FSl.mono le48 h44_0
        replace h46_0 := FSl.mono le48 h46_0
        obtain rfl := h48
        refine ops_rule (C := []) [] [] 5 [] 0 (fun φ49 => [(12, .int .i64 (((ptE AX DX KX) : Nat) : Int)), (11, .slice none 0 0), (58, .int .i64 (((ptE AX DX KX) : Nat) : Int)), (57, .slice none 0 0), (50, .tuple #[.slice none 0 0, .int .i64 (((ptE AX DX KX) : Nat) : Int)])]) (fun φ49 => []) (fun φ49 => []) s trivial (fun φ49 => by kernel_rfl) ?_
        intro φ49 w49 s
        refine ops_done (by kernel_rfl) ?_
        refine wp_seq ?_
        refine wp_seq ?_
        refine region_rule ?_
        refine ops_rule (C := []) [] [] 2 [] 0 (fun φ50 => [(60, .int .i64 (((ptE AX DX KX) : Nat) : Int)), (59, .int .i64 (((ptE AX DX KX) : Nat) : Int))]) (fun φ50 => []) (fun φ50 => []) s trivial (fun φ50 => by kernel_rfl) ?_
        intro φ50 w50 s
        refine sem_rule (binOp .neq 3 (.int .i64 (((ptE AX DX KX) : Nat) : Int)) (.int .i64 (((ptE AX DX KX) : Nat) : Int))) (some 61) (.bool false) (by kernel_rfl) (run_neS3) ?_
        refine ops_rule (C := []) [] [] 3 [] 0 (fun φ51 => [(64, .slice none 0 0), (63, .slice none 0 0), (62, .bool false)]) (fun φ51 => []) (fun φ51 => []) s trivial (fun φ51 => by kernel_rfl) ?_
        intro φ51 w51 s
        refine call_rule (some 65) s (sameR_c (bsl_nil _) (bsl_nil _) (by decide)) (by kernel_rfl) ?_
        intro v52 I52 w52 le52 h52 s
        replace hA := FSl.mono le52 hA
        replace hD := FSl.mono le52 hD
        replace hK := ISl.mono le52 hK
        replace hN := Tx.NmT.mono le52 hN
        replace hT := Tx.U8.mono le52 hT
        replace hH4 := leMono le52 hH4
        replace h6_0 := FSl.mono le52 h6_0
        replace h7_0 := ISl.mono le52 h7_0
        replace hH11 := leMono le52 hH11
        replace hk14 := FSl.mono le52 hk14
        replace hd14 := FSl.mono le52 hd14
        replace hi14 := ISl.mono le52 hi14
        replace h44_0 := FSl.mono le52 h44_0
        replace h46_0 := FSl.mono le52 h46_0
        obtain rfl := h52
        refine ops_rule (C := []) [] [] 2 [] 0 (fun φ53 => [(67, .bool false), (66, .bool false)]) (fun φ53 => []) (fun φ53 => []) s trivial (fun φ53 => by kernel_rfl) ?_
        intro φ53 w53 s
        refine ops_done (by kernel_rfl) ?_
        refine cond_false_rule (b := false) (by kernel_rfl) rfl ?_
        refine wp_skip ?_
        refine wp_seq ?_
        refine wp_seq ?_
        refine region_rule ?_
        refine ops_rule (C := []) [] [] 1 [] 0 (fun φ54 => [(68, .int .i64 (((ptE AX DX KX) : Nat) : Int))]) (fun φ54 => []) (fun φ54 => []) s trivial (fun φ54 => by kernel_rfl) ?_
        intro φ54 w54 s
        refine sem_rule (binOp .neq 27 (.int .i64 (((ptE AX DX KX) : Nat) : Int)) (.int .i64 0)) (some 69) (.bool true) (by kernel_rfl) ((run_neZ27 hpt)) ?_
        refine ops_done (by kernel_rfl) ?_
        refine cond_true_rule (b := true) (by kernel_rfl) rfl ?_
        refine wp_seq ?_
        refine region_rule ?_
        refine ops_rule (C := []) [] [] 1 [] 0 (fun φ55 => [(8, .bool true)]) (fun φ55 => []) (fun φ55 => []) s trivial (fun φ55 => by kernel_rfl) ?_
        intro φ55 w55 s
        refine ops_done (by kernel_rfl) ?_
        refine wp_ret ?_
        refine ret_rule (C := []) [] [] (.bool true) [] [] s trivial (by kernel_rfl) ?_
        exact ⟨_, _, _, rfl, s, rfl⟩
    ·
      obtain ⟨z56, cur56, w56, hr56, s, hz56⟩ := make_zeros (n := (r % 300)) s (by omega)
      refine sem_rule (Instr.makeSlice 61 (.int .i64 (((r % 300) : Nat) : Int)) (.int .i64 (((r % 300) : Nat) : Int))) (some 37) (.slice (some ⟨z56, 0, none⟩) (r % 300) (r % 300)) (by kernel_rfl) hr56 ?_
      obtain ⟨J56, le56, hk56, s⟩ := freeze_row (H := [] ++ F5) (F := [(z56, .cells cur56 5)]) s hz56
      replace hA := FSl.mono le56 hA
      replace hD := FSl.mono le56 hD
      replace hK := ISl.mono le56 hK
      replace hN := Tx.NmT.mono le56 hN
      replace hT := Tx.U8.mono le56 hT
      replace hH4 := leMono le56 hH4
      replace h6_0 := FSl.mono le56 h6_0
      replace h7_0 := ISl.mono le56 h7_0
      replace hH11 := leMono le56 hH11
      refine ops_done (by kernel_rfl) ?_
      refine held_next s hH11 ?_
      refine held_two (fuel := 5) 3 8 (by kernel_rfl) (by kernel_rfl) (by kernel_rfl) ?_ ?_
      ·
        refine sem_rule (Instr.loadAt 9 (.pointer (some ⟨g11, 0 * 3 + 2, none⟩))) (some 33) (.string ⟨(((List.getD (fewF A) 0 Fe.z).v)).toArray⟩) (by kernel_rfl) (row_ld9 (H := []) s h5 hlt11) ?_
        refine ops_done (by kernel_rfl) ?_
        refine held_next s hH11 ?_
        refine held_one (fuel := 4) 8 (by kernel_rfl) (by kernel_rfl) ?_
        refine sem_rule (convert 61 9 (.slice (some ⟨z56, 0, none⟩) (r % 300) (r % 300))) (some 38) (.string ⟨((List.replicate (r % 300) (0 : UInt8))).toArray⟩) (by kernel_rfl) (run_b2s s.sub hk56) ?_
        refine ops_done (by kernel_rfl) ?_
        refine held_next s hH11 ?_
        have hfs11 := few_short _ (getD_mem hlt11)
        have hll11 : (((List.getD (fewF A) 0 Fe.z).v)).length + ((List.replicate (r % 300) (0 : UInt8))).length ≤ 9223372036854775807 := by rw [List.length_replicate]; omega
        refine held_ran (fuel := 3) (binOp .add 9 (.string ⟨(((List.getD (fewF A) 0 Fe.z).v)).toArray⟩) (.string ⟨((List.replicate (r % 300) (0 : UInt8))).toArray⟩)) 9 (.string ⟨((((List.getD (fewF A) 0 Fe.z).v) ++ (List.replicate (r % 300) (0 : UInt8)))).toArray⟩) (some 39) (I := I7) (by kernel_rfl) (by kernel_rfl) (by kernel_rfl) (by kernel_rfl) (by kernel_rfl) (fun _ d' _ _ _ h => by cases d' <;> exact h) (by kernel_rfl) (by kernel_rfl) (fun w' => run_cat hll11) (fun k o hk => s.sub k o (hH11 k o hk)) ?_
        refine held_ran (fuel := 2) (Instr.indexAt 22 (.slice (some ⟨g11, 0, none⟩) (List.length (fewF A)) c8) (.int .i64 ((0 : Nat) : Int))) 10 (.pointer (some ⟨g11, 0 * 3, none⟩)) (some 40) (I := I7) (by kernel_rfl) (by kernel_rfl) (by kernel_rfl) (by kernel_rfl) (by kernel_rfl) (fun _ d' _ _ _ h => by cases d' <;> exact h) (by kernel_rfl) (by kernel_rfl) (fun w' => row_idx39 hlt11) (fun k o hk => s.sub k o (hH11 k o hk)) ?_
        refine held_take (fuel := 1) [] [] 11 (.pointer (some ⟨g11, 0 * 3 + 2, none⟩)) (some 41) [] (I := I7) trivial (by kernel_rfl) (by kernel_rfl) (by kernel_rfl) (by kernel_rfl) (by kernel_rfl) (fun _ d' _ _ _ h => by cases d' <;> exact h) (by kernel_rfl) (by kernel_rfl) (fun k o hk => s.sub k o (hH11 k o hk)) ?_
        refine held_one (fuel := 0) 12 (by kernel_rfl) (by kernel_rfl) ?_
        obtain ⟨w57, F57, hr57, s, h57⟩ := row_st9 (H := []) (y := (((List.getD (fewF A) 0 Fe.z).v) ++ (List.replicate (r % 300) (0 : UInt8)))) s h5 hlt11
        refine semU_rule (Instr.storeAt 9 (.pointer (some ⟨g11, 0 * 3 + 2, none⟩)) (.string ⟨((((List.getD (fewF A) 0 Fe.z).v) ++ (List.replicate (r % 300) (0 : UInt8)))).toArray⟩)) none (by kernel_rfl) hr57 ?_
        refine ops_done (by kernel_rfl) ?_
        refine held_next s hH11 ?_
        refine Go.wpAnyH_done (by kernel_rfl) ?_ _
        have hx57 := ext_props (L := (fewF A)) (y := (((List.getD (fewF A) 0 Fe.z).v) ++ (List.replicate (r % 300) (0 : UInt8)))) few_len few_short (by rw [List.length_append, List.length_replicate]; omega)
        refine wp_seq ?_
        have hx58 : ((List.set (fewF A) 0 ⟨(List.getD (fewF A) 0 Fe.z).k, (List.getD (fewF A) 0 Fe.z).a, (((List.getD (fewF A) 0 Fe.z).v) ++ (List.replicate (r % 300) (0 : UInt8)))⟩)).length ≤ 14 ∧ ∀ x ∈ (List.set (fewF A) 0 ⟨(List.getD (fewF A) 0 Fe.z).k, (List.getD (fewF A) 0 Fe.z).a, (((List.getD (fewF A) 0 Fe.z).v) ++ (List.replicate (r % 300) (0 : UInt8)))⟩), x.v.length ≤ 400 := hx57
        obtain ⟨J58, le58, hk58, s⟩ := freeze_row39 (H := []) (F := F57) s h57
        replace hA := FSl.mono le58 hA
        replace hD := FSl.mono le58 hD
        replace hK := ISl.mono le58 hK
        replace hN := Tx.NmT.mono le58 hN
        replace hT := Tx.U8.mono le58 hT
        replace hH4 := leMono le58 hH4
        replace h6_0 := FSl.mono le58 h6_0
        replace h7_0 := ISl.mono le58 h7_0
        replace hH11 := leMono le58 hH11
        obtain ⟨AX, hAX⟩ : ∃ X, X = (List.set (fewF A) 0 ⟨(List.getD (fewF A) 0 Fe.z).k, (List.getD (fewF A) 0 Fe.z).a, (((List.getD (fewF A) 0 Fe.z).v) ++ (List.replicate (r % 300) (0 : UInt8)))⟩) := ⟨_, rfl⟩
        rw [← hAX] at hk58 hx58
        obtain ⟨hn58, -⟩ := hk58.cap
        have hlA : AX.length ≤ 255 := by omega
        obtain ⟨DX, hDX⟩ : ∃ X, X = (fewF D) := ⟨_, rfl⟩
        have hlD : DX.length ≤ 255 := by rw [hDX]; exact Nat.le_trans few_len (by decide)
        obtain ⟨KX, hKX⟩ : ∃ X, X = (K.take (min K.length 9)) := ⟨_, rfl⟩
        have hlK : KX.length ≤ 255 := by rw [hKX, List.length_take]; omega
        rw [hn58] at hk58 ⊢
        have hd58 := h6_0
        rw [← hDX] at hd58 ⊢
        have hi58 := h7_0
        rw [← hKX] at hi58 ⊢
        by_cases hpt : ptE AX DX KX = 0
        ·
          obtain ⟨hoA, hoD, hoK⟩ := pt_zero hpt
          replace hoA := okL_ofM hoA
          replace hoD := okL_ofM hoD
          obtain ⟨NX, rfl, hoN⟩ := ints_nat hoK
          rw [List.length_map] at hlK hi58 ⊢
          have hz59 := isl_ksl hi58
          refine region_rule ?_
          refine ops_rule (C := []) [] [] 4 [] 0 (fun φ60 => [(46, .agg #[.slice (some ⟨g11, 0, none⟩) AX.length c8, .slice a6 DX.length c6, .slice a7 NX.length c7]), (45, .slice a7 NX.length c7), (44, .slice a6 DX.length c6), (43, .slice (some ⟨g11, 0, none⟩) AX.length c8)]) (fun φ60 => []) (fun φ60 => []) s trivial (fun φ60 => by kernel_rfl) ?_
          intro φ60 w60 s
          refine call_rule (some 47) s (patch_c hk58 hd58 hz59 hlA hlD hlK hoA hoD (kok hoN)) (by kernel_rfl) ?_
          intro v61 I61 w61 le61 h61 s
          replace hA := FSl.mono le61 hA
          replace hD := FSl.mono le61 hD
          replace hK := ISl.mono le61 hK
          replace hN := Tx.NmT.mono le61 hN
          replace hT := Tx.U8.mono le61 hT
          replace hH4 := leMono le61 hH4
          replace h6_0 := FSl.mono le61 h6_0
          replace h7_0 := ISl.mono le61 h7_0
          replace hH11 := leMono le61 hH11
          replace hk58 := FSl.mono le61 hk58
          replace hd58 := FSl.mono le61 hd58
          replace hz59 := KSl.mono le61 hz59
          obtain ⟨a61, c61, rfl, h61_0⟩ := h61
          refine ops_rule (C := []) [] [] 5 [] 0 (fun φ62 => [(10, .int .i64 0), (9, .slice a61 (List.length (encP AX DX NX)) c61), (49, .int .i64 0), (48, .slice a61 (List.length (encP AX DX NX)) c61), (42, .tuple #[.slice a61 (List.length (encP AX DX NX)) c61, .int .i64 0])]) (fun φ62 => []) (fun φ62 => []) s trivial (fun φ62 => by kernel_rfl) ?_
          intro φ62 w62 s
          refine ops_done (by kernel_rfl) ?_
          refine wp_seq ?_
          refine region_rule ?_
          refine ops_rule (C := []) [] [] 1 [] 0 (fun φ63 => [(51, .slice (some ⟨g11, 0, none⟩) AX.length c8)]) (fun φ63 => []) (fun φ63 => []) s trivial (fun φ63 => by kernel_rfl) ?_
          intro φ63 w63 s
          refine call_rule (some 52) s (ownF_c hk58 (Nat.le_trans hlA (by decide))) (by kernel_rfl) ?_
          intro v64 I64 w64 le64 h64 s
          replace hA := FSl.mono le64 hA
          replace hD := FSl.mono le64 hD
          replace hK := ISl.mono le64 hK
          replace hN := Tx.NmT.mono le64 hN
          replace hT := Tx.U8.mono le64 hT
          replace hH4 := leMono le64 hH4
          replace h6_0 := FSl.mono le64 h6_0
          replace h7_0 := ISl.mono le64 h7_0
          replace hH11 := leMono le64 hH11
          replace hk58 := FSl.mono le64 hk58
          replace hd58 := FSl.mono le64 hd58
          replace hz59 := KSl.mono le64 hz59
          replace h61_0 := BSl.mono le64 h61_0
          obtain ⟨a64, c64, rfl, h64_0⟩ := h64
          refine ops_rule (C := []) [] [] 1 [] 0 (fun φ65 => [(53, .slice a6 DX.length c6)]) (fun φ65 => []) (fun φ65 => []) s trivial (fun φ65 => by kernel_rfl) ?_
          intro φ65 w65 s
          refine call_rule (some 54) s (ownF_c hd58 (Nat.le_trans hlD (by decide))) (by kernel_rfl) ?_
          intro v66 I66 w66 le66 h66 s
          replace hA := FSl.mono le66 hA
          replace hD := FSl.mono le66 hD
          replace hK := ISl.mono le66 hK
          replace hN := Tx.NmT.mono le66 hN
          replace hT := Tx.U8.mono le66 hT
          replace hH4 := leMono le66 hH4
          replace h6_0 := FSl.mono le66 h6_0
          replace h7_0 := ISl.mono le66 h7_0
          replace hH11 := leMono le66 hH11
          replace hk58 := FSl.mono le66 hk58
          replace hd58 := FSl.mono le66 hd58
          replace hz59 := KSl.mono le66 hz59
          replace h61_0 := BSl.mono le66 h61_0
          replace h64_0 := FSl.mono le66 h64_0
          obtain ⟨a66, c66, rfl, h66_0⟩ := h66
          refine ops_rule (C := []) [] [] 1 [] 0 (fun φ67 => [(55, .slice a7 NX.length c7)]) (fun φ67 => []) (fun φ67 => []) s trivial (fun φ67 => by kernel_rfl) ?_
          intro φ67 w67 s
          refine call_rule (some 56) s (refWrite_c h64_0 h66_0 hz59 hlA hlD hlK hoA hoD (kok hoN)) (by kernel_rfl) ?_
          intro v68 I68 w68 le68 h68 s
          replace hA := FSl.mono le68 hA
          replace hD := FSl.mono le68 hD
          replace hK := ISl.mono le68 hK
          replace hN := Tx.NmT.mono le68 hN
          replace hT := Tx.U8.mono le68 hT
          replace hH4 := leMono le68 hH4
          replace h6_0 := FSl.mono le68 h6_0
          replace h7_0 := ISl.mono le68 h7_0
          replace hH11 := leMono le68 hH11
          replace hk58 := FSl.mono le68 hk58
          replace hd58 := FSl.mono le68 hd58
          replace hz59 := KSl.mono le68 hz59
          replace h61_0 := BSl.mono le68 h61_0
          replace h64_0 := FSl.mono le68 h64_0
          replace h66_0 := FSl.mono le68 h66_0
          obtain ⟨a68, c68, rfl, h68_0⟩ := h68
          refine ops_rule (C := []) [] [] 5 [] 0 (fun φ69 => [(12, .int .i64 0), (11, .slice a68 (List.length (encP AX DX NX)) c68), (58, .int .i64 0), (57, .slice a68 (List.length (encP AX DX NX)) c68), (50, .tuple #[.slice a68 (List.length (encP AX DX NX)) c68, .int .i64 0])]) (fun φ69 => []) (fun φ69 => []) s trivial (fun φ69 => by kernel_rfl) ?_
          intro φ69 w69 s
          refine ops_done (by kernel_rfl) ?_
          refine wp_seq ?_
          refine wp_seq ?_
          refine region_rule ?_
          refine ops_rule (C := []) [] [] 6 [] 0 (fun φ70 => [(64, .slice a68 (List.length (encP AX DX NX)) c68), (63, .slice a61 (List.length (encP AX DX NX)) c61), (62, .bool false), (61, .bool false), (60, .int .i64 0), (59, .int .i64 0)]) (fun φ70 => []) (fun φ70 => []) s trivial (fun φ70 => by kernel_rfl) ?_
          intro φ70 w70 s
          refine call_rule (some 65) s (sameR_c h61_0 h68_0 (Nat.le_trans (encP_len hoA hoD hlA hlD hlK) (by decide))) (by kernel_rfl) ?_
          intro v71 I71 w71 le71 h71 s
          replace hA := FSl.mono le71 hA
          replace hD := FSl.mono le71 hD
          replace hK := ISl.mono le71 hK
          replace hN := Tx.NmT.mono le71 hN
          replace hT := Tx.U8.mono le71 hT
          replace hH4 := leMono le71 hH4
          replace h6_0 := FSl.mono le71 h6_0
          replace h7_0 := ISl.mono le71 h7_0
          replace hH11 := leMono le71 hH11
          replace hk58 := FSl.mono le71 hk58
          replace hd58 := FSl.mono le71 hd58
          replace hz59 := KSl.mono le71 hz59
          replace h61_0 := BSl.mono le71 h61_0
          replace h64_0 := FSl.mono le71 h64_0
          replace h66_0 := FSl.mono le71 h66_0
          replace h68_0 := BSl.mono le71 h68_0
          obtain rfl := h71
          refine ops_rule (C := []) [] [] 2 [] 0 (fun φ72 => [(67, .bool false), (66, .bool false)]) (fun φ72 => []) (fun φ72 => []) s trivial (fun φ72 => by kernel_rfl) ?_
          intro φ72 w72 s
          refine ops_done (by kernel_rfl) ?_
          refine cond_false_rule (b := false) (by kernel_rfl) rfl ?_
          refine wp_skip ?_
          refine wp_seq ?_
          refine wp_seq ?_
          refine region_rule ?_
          refine ops_rule (C := []) [] [] 2 [] 0 (fun φ73 => [(69, .bool false), (68, .int .i64 0)]) (fun φ73 => []) (fun φ73 => []) s trivial (fun φ73 => by kernel_rfl) ?_
          intro φ73 w73 s
          refine ops_done (by kernel_rfl) ?_
          refine cond_false_rule (b := false) (by kernel_rfl) rfl ?_
          refine wp_skip ?_
          refine wp_seq ?_
          refine region_rule ?_
          refine ops_rule (C := []) [] [] 1 [] 0 (fun φ74 => [(71, .slice a61 (List.length (encP AX DX NX)) c61)]) (fun φ74 => []) (fun φ74 => []) s trivial (fun φ74 => by kernel_rfl) ?_
          intro φ74 w74 s
          refine call_rule (some 72) s (readW_c h61_0 hoA hoD hoN hlA hlD hlK) (by kernel_rfl) ?_
          intro v75 I75 w75 le75 h75 s
          replace hA := FSl.mono le75 hA
          replace hD := FSl.mono le75 hD
          replace hK := ISl.mono le75 hK
          replace hN := Tx.NmT.mono le75 hN
          replace hT := Tx.U8.mono le75 hT
          replace hH4 := leMono le75 hH4
          replace h6_0 := FSl.mono le75 h6_0
          replace h7_0 := ISl.mono le75 h7_0
          replace hH11 := leMono le75 hH11
          replace hk58 := FSl.mono le75 hk58
          replace hd58 := FSl.mono le75 hd58
          replace hz59 := KSl.mono le75 hz59
          replace h61_0 := BSl.mono le75 h61_0
          replace h64_0 := FSl.mono le75 h64_0
          replace h66_0 := FSl.mono le75 h66_0
          replace h68_0 := BSl.mono le75 h68_0
          obtain ⟨a75, b75, d75, c75, e75, f75, rfl, h75_0, h75_1, h75_2⟩ := h75
          refine ops_rule (C := []) [] [] 6 [.o 0, .o 0, .o 0] 1 (fun φ76 => [(14, .int .i64 0), (13, .pointer (some ⟨(φ76 0), 0, none⟩)), (74, .int .i64 0), (73, .agg #[.slice a75 AX.length c75, .slice b75 DX.length e75, .slice d75 NX.length f75]), (70, .tuple #[.agg #[.slice a75 AX.length c75, .slice b75 DX.length e75, .slice d75 NX.length f75], .int .i64 0])]) (fun φ76 => [((φ76 0), .cells #[.slice a75 AX.length c75, .slice b75 DX.length e75, .slice d75 NX.length f75] 56)]) (fun φ76 => [(φ76 0), (φ76 0), (φ76 0)]) s trivial (fun φ76 => by kernel_rfl) ?_
          intro φ76 w76 s
          refine ops_done (by kernel_rfl) ?_
          refine wp_seq ?_
          refine region_rule ?_
          refine ops_rule (C := []) [((φ76 0), .cells #[.slice a75 AX.length c75, .slice b75 DX.length e75, .slice d75 NX.length f75] 56)] [] 6 [.o 0] 0 (fun φ77 => [(80, .slice (some ⟨g11, 0, none⟩) AX.length c8), (79, .slice a75 AX.length c75), (78, .pointer (some ⟨(φ76 0), 0, none⟩)), (77, .bool true), (76, .bool true), (75, .int .i64 0)]) (fun φ77 => [((φ76 0), .cells #[.slice a75 AX.length c75, .slice b75 DX.length e75, .slice d75 NX.length f75] 56)]) (fun φ77 => [(φ76 0)]) s trivial (fun φ77 => by kernel_rfl) ?_
          intro φ77 w77 s
          refine call_rule (some 81) s (equalF_c h75_0 hk58 (Nat.le_trans hlA (by decide))) (by kernel_rfl) ?_
          intro v78 I78 w78 le78 h78 s
          replace hA := FSl.mono le78 hA
          replace hD := FSl.mono le78 hD
          replace hK := ISl.mono le78 hK
          replace hN := Tx.NmT.mono le78 hN
          replace hT := Tx.U8.mono le78 hT
          replace hH4 := leMono le78 hH4
          replace h6_0 := FSl.mono le78 h6_0
          replace h7_0 := ISl.mono le78 h7_0
          replace hH11 := leMono le78 hH11
          replace hk58 := FSl.mono le78 hk58
          replace hd58 := FSl.mono le78 hd58
          replace hz59 := KSl.mono le78 hz59
          replace h61_0 := BSl.mono le78 h61_0
          replace h64_0 := FSl.mono le78 h64_0
          replace h66_0 := FSl.mono le78 h66_0
          replace h68_0 := BSl.mono le78 h68_0
          replace h75_0 := FSl.mono le78 h75_0
          replace h75_1 := FSl.mono le78 h75_1
          replace h75_2 := KSl.mono le78 h75_2
          obtain rfl := h78
          refine ops_rule (C := []) [((φ76 0), .cells #[.slice a75 AX.length c75, .slice b75 DX.length e75, .slice d75 NX.length f75] 56)] [] 5 [.o 0] 0 (fun φ79 => [(86, .slice a6 DX.length c6), (85, .slice b75 DX.length e75), (84, .pointer (some ⟨(φ76 0), 1, none⟩)), (83, .bool true), (82, .bool true)]) (fun φ79 => [((φ76 0), .cells #[.slice a75 AX.length c75, .slice b75 DX.length e75, .slice d75 NX.length f75] 56)]) (fun φ79 => [(φ76 0)]) s trivial (fun φ79 => by kernel_rfl) ?_
          intro φ79 w79 s
          refine call_rule (some 87) s (equalF_c h75_1 hd58 (Nat.le_trans hlD (by decide))) (by kernel_rfl) ?_
          intro v80 I80 w80 le80 h80 s
          replace hA := FSl.mono le80 hA
          replace hD := FSl.mono le80 hD
          replace hK := ISl.mono le80 hK
          replace hN := Tx.NmT.mono le80 hN
          replace hT := Tx.U8.mono le80 hT
          replace hH4 := leMono le80 hH4
          replace h6_0 := FSl.mono le80 h6_0
          replace h7_0 := ISl.mono le80 h7_0
          replace hH11 := leMono le80 hH11
          replace hk58 := FSl.mono le80 hk58
          replace hd58 := FSl.mono le80 hd58
          replace hz59 := KSl.mono le80 hz59
          replace h61_0 := BSl.mono le80 h61_0
          replace h64_0 := FSl.mono le80 h64_0
          replace h66_0 := FSl.mono le80 h66_0
          replace h68_0 := BSl.mono le80 h68_0
          replace h75_0 := FSl.mono le80 h75_0
          replace h75_1 := FSl.mono le80 h75_1
          replace h75_2 := KSl.mono le80 h75_2
          obtain rfl := h80
          refine ops_rule (C := []) [((φ76 0), .cells #[.slice a75 AX.length c75, .slice b75 DX.length e75, .slice d75 NX.length f75] 56)] [] 5 [.o 0] 0 (fun φ81 => [(92, .slice a7 NX.length c7), (91, .slice d75 NX.length f75), (90, .pointer (some ⟨(φ76 0), 2, none⟩)), (89, .bool true), (88, .bool true)]) (fun φ81 => [((φ76 0), .cells #[.slice a75 AX.length c75, .slice b75 DX.length e75, .slice d75 NX.length f75] 56)]) (fun φ81 => [(φ76 0)]) s trivial (fun φ81 => by kernel_rfl) ?_
          intro φ81 w81 s
          refine call_rule (some 93) s (equalK_c h75_2 hz59 (Nat.le_trans hlK (by decide))) (by kernel_rfl) ?_
          intro v82 I82 w82 le82 h82 s
          replace hA := FSl.mono le82 hA
          replace hD := FSl.mono le82 hD
          replace hK := ISl.mono le82 hK
          replace hN := Tx.NmT.mono le82 hN
          replace hT := Tx.U8.mono le82 hT
          replace hH4 := leMono le82 hH4
          replace h6_0 := FSl.mono le82 h6_0
          replace h7_0 := ISl.mono le82 h7_0
          replace hH11 := leMono le82 hH11
          replace hk58 := FSl.mono le82 hk58
          replace hd58 := FSl.mono le82 hd58
          replace hz59 := KSl.mono le82 hz59
          replace h61_0 := BSl.mono le82 h61_0
          replace h64_0 := FSl.mono le82 h64_0
          replace h66_0 := FSl.mono le82 h66_0
          replace h68_0 := BSl.mono le82 h68_0
          replace h75_0 := FSl.mono le82 h75_0
          replace h75_1 := FSl.mono le82 h75_1
          replace h75_2 := KSl.mono le82 h75_2
          obtain rfl := h82
          refine ops_rule (C := []) [((φ76 0), .cells #[.slice a75 AX.length c75, .slice b75 DX.length e75, .slice d75 NX.length f75] 56)] [] 2 [] 0 (fun φ83 => [(8, .bool true), (94, .bool true)]) (fun φ83 => [((φ76 0), .cells #[.slice a75 AX.length c75, .slice b75 DX.length e75, .slice d75 NX.length f75] 56)]) (fun φ83 => []) s trivial (fun φ83 => by kernel_rfl) ?_
          intro φ83 w83 s
          refine ops_done (by kernel_rfl) ?_
          refine wp_ret ?_
          refine ret_rule (C := []) [((φ76 0), .cells #[.slice a75 AX.length c75, .slice b75 DX.length e75, .slice d75 NX.length f75] 56)] [] (.bool true) [] [] s trivial (by kernel_rfl) ?_
          exact ⟨_, _, _, rfl, s, rfl⟩
        ·
          refine region_rule ?_
          refine ops_rule (C := []) [] [] 4 [] 0 (fun φ84 => [(46, .agg #[.slice (some ⟨g11, 0, none⟩) AX.length c8, .slice a6 DX.length c6, .slice a7 KX.length c7]), (45, .slice a7 KX.length c7), (44, .slice a6 DX.length c6), (43, .slice (some ⟨g11, 0, none⟩) AX.length c8)]) (fun φ84 => []) (fun φ84 => []) s trivial (fun φ84 => by kernel_rfl) ?_
          intro φ84 w84 s
          refine call_rule (some 47) s (patchE_c hk58 hd58 hi58 hlA hlD hlK hpt) (by kernel_rfl) ?_
          intro v85 I85 w85 le85 h85 s
          replace hA := FSl.mono le85 hA
          replace hD := FSl.mono le85 hD
          replace hK := ISl.mono le85 hK
          replace hN := Tx.NmT.mono le85 hN
          replace hT := Tx.U8.mono le85 hT
          replace hH4 := leMono le85 hH4
          replace h6_0 := FSl.mono le85 h6_0
          replace h7_0 := ISl.mono le85 h7_0
          replace hH11 := leMono le85 hH11
          replace hk58 := FSl.mono le85 hk58
          replace hd58 := FSl.mono le85 hd58
          replace hi58 := ISl.mono le85 hi58
          obtain rfl := h85
          refine ops_rule (C := []) [] [] 5 [] 0 (fun φ86 => [(10, .int .i64 (((ptE AX DX KX) : Nat) : Int)), (9, .slice none 0 0), (49, .int .i64 (((ptE AX DX KX) : Nat) : Int)), (48, .slice none 0 0), (42, .tuple #[.slice none 0 0, .int .i64 (((ptE AX DX KX) : Nat) : Int)])]) (fun φ86 => []) (fun φ86 => []) s trivial (fun φ86 => by kernel_rfl) ?_
          intro φ86 w86 s
          refine ops_done (by kernel_rfl) ?_
          refine wp_seq ?_
          refine region_rule ?_
          refine ops_rule (C := []) [] [] 1 [] 0 (fun φ87 => [(51, .slice (some ⟨g11, 0, none⟩) AX.length c8)]) (fun φ87 => []) (fun φ87 => []) s trivial (fun φ87 => by kernel_rfl) ?_
          intro φ87 w87 s
          refine call_rule (some 52) s (ownF_c hk58 (Nat.le_trans hlA (by decide))) (by kernel_rfl) ?_
          intro v88 I88 w88 le88 h88 s
          replace hA := FSl.mono le88 hA
          replace hD := FSl.mono le88 hD
          replace hK := ISl.mono le88 hK
          replace hN := Tx.NmT.mono le88 hN
          replace hT := Tx.U8.mono le88 hT
          replace hH4 := leMono le88 hH4
          replace h6_0 := FSl.mono le88 h6_0
          replace h7_0 := ISl.mono le88 h7_0
          replace hH11 := leMono le88 hH11
          replace hk58 := FSl.mono le88 hk58
          replace hd58 := FSl.mono le88 hd58
          replace hi58 := ISl.mono le88 hi58
          obtain ⟨a88, c88, rfl, h88_0⟩ := h88
          refine ops_rule (C := []) [] [] 1 [] 0 (fun φ89 => [(53, .slice a6 DX.length c6)]) (fun φ89 => []) (fun φ89 => []) s trivial (fun φ89 => by kernel_rfl) ?_
          intro φ89 w89 s
          refine call_rule (some 54) s (ownF_c hd58 (Nat.le_trans hlD (by decide))) (by kernel_rfl) ?_
          intro v90 I90 w90 le90 h90 s
          replace hA := FSl.mono le90 hA
          replace hD := FSl.mono le90 hD
          replace hK := ISl.mono le90 hK
          replace hN := Tx.NmT.mono le90 hN
          replace hT := Tx.U8.mono le90 hT
          replace hH4 := leMono le90 hH4
          replace h6_0 := FSl.mono le90 h6_0
          replace h7_0 := ISl.mono le90 h7_0
          replace hH11 := leMono le90 hH11
          replace hk58 := FSl.mono le90 hk58
          replace hd58 := FSl.mono le90 hd58
          replace hi58 := ISl.mono le90 hi58
          replace h88_0 := FSl.mono le90 h88_0
          obtain ⟨a90, c90, rfl, h90_0⟩ := h90
          refine ops_rule (C := []) [] [] 1 [] 0 (fun φ91 => [(55, .slice a7 KX.length c7)]) (fun φ91 => []) (fun φ91 => []) s trivial (fun φ91 => by kernel_rfl) ?_
          intro φ91 w91 s
          refine call_rule (some 56) s (refWriteE_c h88_0 h90_0 hi58 hlA hlD hlK hpt) (by kernel_rfl) ?_
          intro v92 I92 w92 le92 h92 s
          replace hA := FSl.mono le92 hA
          replace hD := FSl.mono le92 hD
          replace hK := ISl.mono le92 hK
          replace hN := Tx.NmT.mono le92 hN
          replace hT := Tx.U8.mono le92 hT
          replace hH4 := leMono le92 hH4
          replace h6_0 := FSl.mono le92 h6_0
          replace h7_0 := ISl.mono le92 h7_0
          replace hH11 := leMono le92 hH11
          replace hk58 := FSl.mono le92 hk58
          replace hd58 := FSl.mono le92 hd58
          replace hi58 := ISl.mono le92 hi58
          replace h88_0 := FSl.mono le92 h88_0
          replace h90_0 := FSl.mono le92 h90_0
          obtain rfl := h92
          refine ops_rule (C := []) [] [] 5 [] 0 (fun φ93 => [(12, .int .i64 (((ptE AX DX KX) : Nat) : Int)), (11, .slice none 0 0), (58, .int .i64 (((ptE AX DX KX) : Nat) : Int)), (57, .slice none 0 0), (50, .tuple #[.slice none 0 0, .int .i64 (((ptE AX DX KX) : Nat) : Int)])]) (fun φ93 => []) (fun φ93 => []) s trivial (fun φ93 => by kernel_rfl) ?_
          intro φ93 w93 s
          refine ops_done (by kernel_rfl) ?_
          refine wp_seq ?_
          refine wp_seq ?_
          refine region_rule ?_
          refine ops_rule (C := []) [] [] 2 [] 0 (fun φ94 => [(60, .int .i64 (((ptE AX DX KX) : Nat) : Int)), (59, .int .i64 (((ptE AX DX KX) : Nat) : Int))]) (fun φ94 => []) (fun φ94 => []) s trivial (fun φ94 => by kernel_rfl) ?_
          intro φ94 w94 s
          refine sem_rule (binOp .neq 3 (.int .i64 (((ptE AX DX KX) : Nat) : Int)) (.int .i64 (((ptE AX DX KX) : Nat) : Int))) (some 61) (.bool false) (by kernel_rfl) (run_neS3) ?_
          refine ops_rule (C := []) [] [] 3 [] 0 (fun φ95 => [(64, .slice none 0 0), (63, .slice none 0 0), (62, .bool false)]) (fun φ95 => []) (fun φ95 => []) s trivial (fun φ95 => by kernel_rfl) ?_
          intro φ95 w95 s
          refine call_rule (some 65) s (sameR_c (bsl_nil _) (bsl_nil _) (by decide)) (by kernel_rfl) ?_
          intro v96 I96 w96 le96 h96 s
          replace hA := FSl.mono le96 hA
          replace hD := FSl.mono le96 hD
          replace hK := ISl.mono le96 hK
          replace hN := Tx.NmT.mono le96 hN
          replace hT := Tx.U8.mono le96 hT
          replace hH4 := leMono le96 hH4
          replace h6_0 := FSl.mono le96 h6_0
          replace h7_0 := ISl.mono le96 h7_0
          replace hH11 := leMono le96 hH11
          replace hk58 := FSl.mono le96 hk58
          replace hd58 := FSl.mono le96 hd58
          replace hi58 := ISl.mono le96 hi58
          replace h88_0 := FSl.mono le96 h88_0
          replace h90_0 := FSl.mono le96 h90_0
          obtain rfl := h96
          refine ops_rule (C := []) [] [] 2 [] 0 (fun φ97 => [(67, .bool false), (66, .bool false)]) (fun φ97 => []) (fun φ97 => []) s trivial (fun φ97 => by kernel_rfl) ?_
          intro φ97 w97 s
          refine ops_done (by kernel_rfl) ?_
          refine cond_false_rule (b := false) (by kernel_rfl) rfl ?_
          refine wp_skip ?_
          refine wp_seq ?_
          refine wp_seq ?_
          refine region_rule ?_
          refine ops_rule (C := []) [] [] 1 [] 0 (fun φ98 => [(68, .int .i64 (((ptE AX DX KX) : Nat) : Int))]) (fun φ98 => []) (fun φ98 => []) s trivial (fun φ98 => by kernel_rfl) ?_
          intro φ98 w98 s
          refine sem_rule (binOp .neq 27 (.int .i64 (((ptE AX DX KX) : Nat) : Int)) (.int .i64 0)) (some 69) (.bool true) (by kernel_rfl) ((run_neZ27 hpt)) ?_
          refine ops_done (by kernel_rfl) ?_
          refine cond_true_rule (b := true) (by kernel_rfl) rfl ?_
          refine wp_seq ?_
          refine region_rule ?_
          refine ops_rule (C := []) [] [] 1 [] 0 (fun φ99 => [(8, .bool true)]) (fun φ99 => []) (fun φ99 => []) s trivial (fun φ99 => by kernel_rfl) ?_
          intro φ99 w99 s
          refine ops_done (by kernel_rfl) ?_
          refine wp_ret ?_
          refine ret_rule (C := []) [] [] (.bool true) [] [] s trivial (by kernel_rfl) ?_
          exact ⟨_, _, _, rfl, s, rfl⟩
      ·
        refine sem_rule (convert 61 9 (.slice (some ⟨z56, 0, none⟩) (r % 300) (r % 300))) (some 38) (.string ⟨((List.replicate (r % 300) (0 : UInt8))).toArray⟩) (by kernel_rfl) (run_b2s s.sub hk56) ?_
        refine ops_done (by kernel_rfl) ?_
        refine held_next s hH11 ?_
        refine held_one (fuel := 4) 3 (by kernel_rfl) (by kernel_rfl) ?_
        refine sem_rule (Instr.loadAt 9 (.pointer (some ⟨g11, 0 * 3 + 2, none⟩))) (some 33) (.string ⟨(((List.getD (fewF A) 0 Fe.z).v)).toArray⟩) (by kernel_rfl) (row_ld9 (H := []) s h5 hlt11) ?_
        refine ops_done (by kernel_rfl) ?_
        refine held_next s hH11 ?_
        have hfs11 := few_short _ (getD_mem hlt11)
        have hll11 : (((List.getD (fewF A) 0 Fe.z).v)).length + ((List.replicate (r % 300) (0 : UInt8))).length ≤ 9223372036854775807 := by rw [List.length_replicate]; omega
        refine held_ran (fuel := 3) (binOp .add 9 (.string ⟨(((List.getD (fewF A) 0 Fe.z).v)).toArray⟩) (.string ⟨((List.replicate (r % 300) (0 : UInt8))).toArray⟩)) 9 (.string ⟨((((List.getD (fewF A) 0 Fe.z).v) ++ (List.replicate (r % 300) (0 : UInt8)))).toArray⟩) (some 39) (I := I7) (by kernel_rfl) (by kernel_rfl) (by kernel_rfl) (by kernel_rfl) (by kernel_rfl) (fun _ d' _ _ _ h => by cases d' <;> exact h) (by kernel_rfl) (by kernel_rfl) (fun w' => run_cat hll11) (fun k o hk => s.sub k o (hH11 k o hk)) ?_
        refine held_ran (fuel := 2) (Instr.indexAt 22 (.slice (some ⟨g11, 0, none⟩) (List.length (fewF A)) c8) (.int .i64 ((0 : Nat) : Int))) 10 (.pointer (some ⟨g11, 0 * 3, none⟩)) (some 40) (I := I7) (by kernel_rfl) (by kernel_rfl) (by kernel_rfl) (by kernel_rfl) (by kernel_rfl) (fun _ d' _ _ _ h => by cases d' <;> exact h) (by kernel_rfl) (by kernel_rfl) (fun w' => row_idx39 hlt11) (fun k o hk => s.sub k o (hH11 k o hk)) ?_
        refine held_take (fuel := 1) [] [] 11 (.pointer (some ⟨g11, 0 * 3 + 2, none⟩)) (some 41) [] (I := I7) trivial (by kernel_rfl) (by kernel_rfl) (by kernel_rfl) (by kernel_rfl) (by kernel_rfl) (fun _ d' _ _ _ h => by cases d' <;> exact h) (by kernel_rfl) (by kernel_rfl) (fun k o hk => s.sub k o (hH11 k o hk)) ?_
        refine held_one (fuel := 0) 12 (by kernel_rfl) (by kernel_rfl) ?_
        obtain ⟨w100, F100, hr100, s, h100⟩ := row_st9 (H := []) (y := (((List.getD (fewF A) 0 Fe.z).v) ++ (List.replicate (r % 300) (0 : UInt8)))) s h5 hlt11
        refine semU_rule (Instr.storeAt 9 (.pointer (some ⟨g11, 0 * 3 + 2, none⟩)) (.string ⟨((((List.getD (fewF A) 0 Fe.z).v) ++ (List.replicate (r % 300) (0 : UInt8)))).toArray⟩)) none (by kernel_rfl) hr100 ?_
        refine ops_done (by kernel_rfl) ?_
        refine held_next s hH11 ?_
        refine Go.wpAnyH_done (by kernel_rfl) ?_ _
        have hx100 := ext_props (L := (fewF A)) (y := (((List.getD (fewF A) 0 Fe.z).v) ++ (List.replicate (r % 300) (0 : UInt8)))) few_len few_short (by rw [List.length_append, List.length_replicate]; omega)
        refine wp_seq ?_
        have hx101 : ((List.set (fewF A) 0 ⟨(List.getD (fewF A) 0 Fe.z).k, (List.getD (fewF A) 0 Fe.z).a, (((List.getD (fewF A) 0 Fe.z).v) ++ (List.replicate (r % 300) (0 : UInt8)))⟩)).length ≤ 14 ∧ ∀ x ∈ (List.set (fewF A) 0 ⟨(List.getD (fewF A) 0 Fe.z).k, (List.getD (fewF A) 0 Fe.z).a, (((List.getD (fewF A) 0 Fe.z).v) ++ (List.replicate (r % 300) (0 : UInt8)))⟩), x.v.length ≤ 400 := hx100
        obtain ⟨J101, le101, hk101, s⟩ := freeze_row39 (H := []) (F := F100) s h100
        replace hA := FSl.mono le101 hA
        replace hD := FSl.mono le101 hD
        replace hK := ISl.mono le101 hK
        replace hN := Tx.NmT.mono le101 hN
        replace hT := Tx.U8.mono le101 hT
        replace hH4 := leMono le101 hH4
        replace h6_0 := FSl.mono le101 h6_0
        replace h7_0 := ISl.mono le101 h7_0
        replace hH11 := leMono le101 hH11
        obtain ⟨AX, hAX⟩ : ∃ X, X = (List.set (fewF A) 0 ⟨(List.getD (fewF A) 0 Fe.z).k, (List.getD (fewF A) 0 Fe.z).a, (((List.getD (fewF A) 0 Fe.z).v) ++ (List.replicate (r % 300) (0 : UInt8)))⟩) := ⟨_, rfl⟩
        rw [← hAX] at hk101 hx101
        obtain ⟨hn101, -⟩ := hk101.cap
        have hlA : AX.length ≤ 255 := by omega
        obtain ⟨DX, hDX⟩ : ∃ X, X = (fewF D) := ⟨_, rfl⟩
        have hlD : DX.length ≤ 255 := by rw [hDX]; exact Nat.le_trans few_len (by decide)
        obtain ⟨KX, hKX⟩ : ∃ X, X = (K.take (min K.length 9)) := ⟨_, rfl⟩
        have hlK : KX.length ≤ 255 := by rw [hKX, List.length_take]; omega
        rw [hn101] at hk101 ⊢
        have hd101 := h6_0
        rw [← hDX] at hd101 ⊢
        have hi101 := h7_0
        rw [← hKX] at hi101 ⊢
        by_cases hpt : ptE AX DX KX = 0
        ·
          obtain ⟨hoA, hoD, hoK⟩ := pt_zero hpt
          replace hoA := okL_ofM hoA
          replace hoD := okL_ofM hoD
          obtain ⟨NX, rfl, hoN⟩ := ints_nat hoK
          rw [List.length_map] at hlK hi101 ⊢
          have hz102 := isl_ksl hi101
          refine region_rule ?_
          refine ops_rule (C := []) [] [] 4 [] 0 (fun φ103 => [(46, .agg #[.slice (some ⟨g11, 0, none⟩) AX.length c8, .slice a6 DX.length c6, .slice a7 NX.length c7]), (45, .slice a7 NX.length c7), (44, .slice a6 DX.length c6), (43, .slice (some ⟨g11, 0, none⟩) AX.length c8)]) (fun φ103 => []) (fun φ103 => []) s trivial (fun φ103 => by kernel_rfl) ?_
          intro φ103 w103 s
          refine call_rule (some 47) s (patch_c hk101 hd101 hz102 hlA hlD hlK hoA hoD (kok hoN)) (by kernel_rfl) ?_
          intro v104 I104 w104 le104 h104 s
          replace hA := FSl.mono le104 hA
          replace hD := FSl.mono le104 hD
          replace hK := ISl.mono le104 hK
          replace hN := Tx.NmT.mono le104 hN
          replace hT := Tx.U8.mono le104 hT
          replace hH4 := leMono le104 hH4
          replace h6_0 := FSl.mono le104 h6_0
          replace h7_0 := ISl.mono le104 h7_0
          replace hH11 := leMono le104 hH11
          replace hk101 := FSl.mono le104 hk101
          replace hd101 := FSl.mono le104 hd101
          replace hz102 := KSl.mono le104 hz102
          obtain ⟨a104, c104, rfl, h104_0⟩ := h104
          refine ops_rule (C := []) [] [] 5 [] 0 (fun φ105 => [(10, .int .i64 0), (9, .slice a104 (List.length (encP AX DX NX)) c104), (49, .int .i64 0), (48, .slice a104 (List.length (encP AX DX NX)) c104), (42, .tuple #[.slice a104 (List.length (encP AX DX NX)) c104, .int .i64 0])]) (fun φ105 => []) (fun φ105 => []) s trivial (fun φ105 => by kernel_rfl) ?_
          intro φ105 w105 s
          refine ops_done (by kernel_rfl) ?_
          refine wp_seq ?_
          refine region_rule ?_
          refine ops_rule (C := []) [] [] 1 [] 0 (fun φ106 => [(51, .slice (some ⟨g11, 0, none⟩) AX.length c8)]) (fun φ106 => []) (fun φ106 => []) s trivial (fun φ106 => by kernel_rfl) ?_
          intro φ106 w106 s
          refine call_rule (some 52) s (ownF_c hk101 (Nat.le_trans hlA (by decide))) (by kernel_rfl) ?_
          intro v107 I107 w107 le107 h107 s
          replace hA := FSl.mono le107 hA
          replace hD := FSl.mono le107 hD
          replace hK := ISl.mono le107 hK
          replace hN := Tx.NmT.mono le107 hN
          replace hT := Tx.U8.mono le107 hT
          replace hH4 := leMono le107 hH4
          replace h6_0 := FSl.mono le107 h6_0
          replace h7_0 := ISl.mono le107 h7_0
          replace hH11 := leMono le107 hH11
          replace hk101 := FSl.mono le107 hk101
          replace hd101 := FSl.mono le107 hd101
          replace hz102 := KSl.mono le107 hz102
          replace h104_0 := BSl.mono le107 h104_0
          obtain ⟨a107, c107, rfl, h107_0⟩ := h107
          refine ops_rule (C := []) [] [] 1 [] 0 (fun φ108 => [(53, .slice a6 DX.length c6)]) (fun φ108 => []) (fun φ108 => []) s trivial (fun φ108 => by kernel_rfl) ?_
          intro φ108 w108 s
          refine call_rule (some 54) s (ownF_c hd101 (Nat.le_trans hlD (by decide))) (by kernel_rfl) ?_
          intro v109 I109 w109 le109 h109 s
          replace hA := FSl.mono le109 hA
          replace hD := FSl.mono le109 hD
          replace hK := ISl.mono le109 hK
          replace hN := Tx.NmT.mono le109 hN
          replace hT := Tx.U8.mono le109 hT
          replace hH4 := leMono le109 hH4
          replace h6_0 := FSl.mono le109 h6_0
          replace h7_0 := ISl.mono le109 h7_0
          replace hH11 := leMono le109 hH11
          replace hk101 := FSl.mono le109 hk101
          replace hd101 := FSl.mono le109 hd101
          replace hz102 := KSl.mono le109 hz102
          replace h104_0 := BSl.mono le109 h104_0
          replace h107_0 := FSl.mono le109 h107_0
          obtain ⟨a109, c109, rfl, h109_0⟩ := h109
          refine ops_rule (C := []) [] [] 1 [] 0 (fun φ110 => [(55, .slice a7 NX.length c7)]) (fun φ110 => []) (fun φ110 => []) s trivial (fun φ110 => by kernel_rfl) ?_
          intro φ110 w110 s
          refine call_rule (some 56) s (refWrite_c h107_0 h109_0 hz102 hlA hlD hlK hoA hoD (kok hoN)) (by kernel_rfl) ?_
          intro v111 I111 w111 le111 h111 s
          replace hA := FSl.mono le111 hA
          replace hD := FSl.mono le111 hD
          replace hK := ISl.mono le111 hK
          replace hN := Tx.NmT.mono le111 hN
          replace hT := Tx.U8.mono le111 hT
          replace hH4 := leMono le111 hH4
          replace h6_0 := FSl.mono le111 h6_0
          replace h7_0 := ISl.mono le111 h7_0
          replace hH11 := leMono le111 hH11
          replace hk101 := FSl.mono le111 hk101
          replace hd101 := FSl.mono le111 hd101
          replace hz102 := KSl.mono le111 hz102
          replace h104_0 := BSl.mono le111 h104_0
          replace h107_0 := FSl.mono le111 h107_0
          replace h109_0 := FSl.mono le111 h109_0
          obtain ⟨a111, c111, rfl, h111_0⟩ := h111
          refine ops_rule (C := []) [] [] 5 [] 0 (fun φ112 => [(12, .int .i64 0), (11, .slice a111 (List.length (encP AX DX NX)) c111), (58, .int .i64 0), (57, .slice a111 (List.length (encP AX DX NX)) c111), (50, .tuple #[.slice a111 (List.length (encP AX DX NX)) c111, .int .i64 0])]) (fun φ112 => []) (fun φ112 => []) s trivial (fun φ112 => by kernel_rfl) ?_
          intro φ112 w112 s
          refine ops_done (by kernel_rfl) ?_
          refine wp_seq ?_
          refine wp_seq ?_
          refine region_rule ?_
          refine ops_rule (C := []) [] [] 6 [] 0 (fun φ113 => [(64, .slice a111 (List.length (encP AX DX NX)) c111), (63, .slice a104 (List.length (encP AX DX NX)) c104), (62, .bool false), (61, .bool false), (60, .int .i64 0), (59, .int .i64 0)]) (fun φ113 => []) (fun φ113 => []) s trivial (fun φ113 => by kernel_rfl) ?_
          intro φ113 w113 s
          refine call_rule (some 65) s (sameR_c h104_0 h111_0 (Nat.le_trans (encP_len hoA hoD hlA hlD hlK) (by decide))) (by kernel_rfl) ?_
          intro v114 I114 w114 le114 h114 s
          replace hA := FSl.mono le114 hA
          replace hD := FSl.mono le114 hD
          replace hK := ISl.mono le114 hK
          replace hN := Tx.NmT.mono le114 hN
          replace hT := Tx.U8.mono le114 hT
          replace hH4 := leMono le114 hH4
          replace h6_0 := FSl.mono le114 h6_0
          replace h7_0 := ISl.mono le114 h7_0
          replace hH11 := leMono le114 hH11
          replace hk101 := FSl.mono le114 hk101
          replace hd101 := FSl.mono le114 hd101
          replace hz102 := KSl.mono le114 hz102
          replace h104_0 := BSl.mono le114 h104_0
          replace h107_0 := FSl.mono le114 h107_0
          replace h109_0 := FSl.mono le114 h109_0
          replace h111_0 := BSl.mono le114 h111_0
          obtain rfl := h114
          refine ops_rule (C := []) [] [] 2 [] 0 (fun φ115 => [(67, .bool false), (66, .bool false)]) (fun φ115 => []) (fun φ115 => []) s trivial (fun φ115 => by kernel_rfl) ?_
          intro φ115 w115 s
          refine ops_done (by kernel_rfl) ?_
          refine cond_false_rule (b := false) (by kernel_rfl) rfl ?_
          refine wp_skip ?_
          refine wp_seq ?_
          refine wp_seq ?_
          refine region_rule ?_
          refine ops_rule (C := []) [] [] 2 [] 0 (fun φ116 => [(69, .bool false), (68, .int .i64 0)]) (fun φ116 => []) (fun φ116 => []) s trivial (fun φ116 => by kernel_rfl) ?_
          intro φ116 w116 s
          refine ops_done (by kernel_rfl) ?_
          refine cond_false_rule (b := false) (by kernel_rfl) rfl ?_
          refine wp_skip ?_
          refine wp_seq ?_
          refine region_rule ?_
          refine ops_rule (C := []) [] [] 1 [] 0 (fun φ117 => [(71, .slice a104 (List.length (encP AX DX NX)) c104)]) (fun φ117 => []) (fun φ117 => []) s trivial (fun φ117 => by kernel_rfl) ?_
          intro φ117 w117 s
          refine call_rule (some 72) s (readW_c h104_0 hoA hoD hoN hlA hlD hlK) (by kernel_rfl) ?_
          intro v118 I118 w118 le118 h118 s
          replace hA := FSl.mono le118 hA
          replace hD := FSl.mono le118 hD
          replace hK := ISl.mono le118 hK
          replace hN := Tx.NmT.mono le118 hN
          replace hT := Tx.U8.mono le118 hT
          replace hH4 := leMono le118 hH4
          replace h6_0 := FSl.mono le118 h6_0
          replace h7_0 := ISl.mono le118 h7_0
          replace hH11 := leMono le118 hH11
          replace hk101 := FSl.mono le118 hk101
          replace hd101 := FSl.mono le118 hd101
          replace hz102 := KSl.mono le118 hz102
          replace h104_0 := BSl.mono le118 h104_0
          replace h107_0 := FSl.mono le118 h107_0
          replace h109_0 := FSl.mono le118 h109_0
          replace h111_0 := BSl.mono le118 h111_0
          obtain ⟨a118, b118, d118, c118, e118, f118, rfl, h118_0, h118_1, h118_2⟩ := h118
          refine ops_rule (C := []) [] [] 6 [.o 0, .o 0, .o 0] 1 (fun φ119 => [(14, .int .i64 0), (13, .pointer (some ⟨(φ119 0), 0, none⟩)), (74, .int .i64 0), (73, .agg #[.slice a118 AX.length c118, .slice b118 DX.length e118, .slice d118 NX.length f118]), (70, .tuple #[.agg #[.slice a118 AX.length c118, .slice b118 DX.length e118, .slice d118 NX.length f118], .int .i64 0])]) (fun φ119 => [((φ119 0), .cells #[.slice a118 AX.length c118, .slice b118 DX.length e118, .slice d118 NX.length f118] 56)]) (fun φ119 => [(φ119 0), (φ119 0), (φ119 0)]) s trivial (fun φ119 => by kernel_rfl) ?_
          intro φ119 w119 s
          refine ops_done (by kernel_rfl) ?_
          refine wp_seq ?_
          refine region_rule ?_
          refine ops_rule (C := []) [((φ119 0), .cells #[.slice a118 AX.length c118, .slice b118 DX.length e118, .slice d118 NX.length f118] 56)] [] 6 [.o 0] 0 (fun φ120 => [(80, .slice (some ⟨g11, 0, none⟩) AX.length c8), (79, .slice a118 AX.length c118), (78, .pointer (some ⟨(φ119 0), 0, none⟩)), (77, .bool true), (76, .bool true), (75, .int .i64 0)]) (fun φ120 => [((φ119 0), .cells #[.slice a118 AX.length c118, .slice b118 DX.length e118, .slice d118 NX.length f118] 56)]) (fun φ120 => [(φ119 0)]) s trivial (fun φ120 => by kernel_rfl) ?_
          intro φ120 w120 s
          refine call_rule (some 81) s (equalF_c h118_0 hk101 (Nat.le_trans hlA (by decide))) (by kernel_rfl) ?_
          intro v121 I121 w121 le121 h121 s
          replace hA := FSl.mono le121 hA
          replace hD := FSl.mono le121 hD
          replace hK := ISl.mono le121 hK
          replace hN := Tx.NmT.mono le121 hN
          replace hT := Tx.U8.mono le121 hT
          replace hH4 := leMono le121 hH4
          replace h6_0 := FSl.mono le121 h6_0
          replace h7_0 := ISl.mono le121 h7_0
          replace hH11 := leMono le121 hH11
          replace hk101 := FSl.mono le121 hk101
          replace hd101 := FSl.mono le121 hd101
          replace hz102 := KSl.mono le121 hz102
          replace h104_0 := BSl.mono le121 h104_0
          replace h107_0 := FSl.mono le121 h107_0
          replace h109_0 := FSl.mono le121 h109_0
          replace h111_0 := BSl.mono le121 h111_0
          replace h118_0 := FSl.mono le121 h118_0
          replace h118_1 := FSl.mono le121 h118_1
          replace h118_2 := KSl.mono le121 h118_2
          obtain rfl := h121
          refine ops_rule (C := []) [((φ119 0), .cells #[.slice a118 AX.length c118, .slice b118 DX.length e118, .slice d118 NX.length f118] 56)] [] 5 [.o 0] 0 (fun φ122 => [(86, .slice a6 DX.length c6), (85, .slice b118 DX.length e118), (84, .pointer (some ⟨(φ119 0), 1, none⟩)), (83, .bool true), (82, .bool true)]) (fun φ122 => [((φ119 0), .cells #[.slice a118 AX.length c118, .slice b118 DX.length e118, .slice d118 NX.length f118] 56)]) (fun φ122 => [(φ119 0)]) s trivial (fun φ122 => by kernel_rfl) ?_
          intro φ122 w122 s
          refine call_rule (some 87) s (equalF_c h118_1 hd101 (Nat.le_trans hlD (by decide))) (by kernel_rfl) ?_
          intro v123 I123 w123 le123 h123 s
          replace hA := FSl.mono le123 hA
          replace hD := FSl.mono le123 hD
          replace hK := ISl.mono le123 hK
          replace hN := Tx.NmT.mono le123 hN
          replace hT := Tx.U8.mono le123 hT
          replace hH4 := leMono le123 hH4
          replace h6_0 := FSl.mono le123 h6_0
          replace h7_0 := ISl.mono le123 h7_0
          replace hH11 := leMono le123 hH11
          replace hk101 := FSl.mono le123 hk101
          replace hd101 := FSl.mono le123 hd101
          replace hz102 := KSl.mono le123 hz102
          replace h104_0 := BSl.mono le123 h104_0
          replace h107_0 := FSl.mono le123 h107_0
          replace h109_0 := FSl.mono le123 h109_0
          replace h111_0 := BSl.mono le123 h111_0
          replace h118_0 := FSl.mono le123 h118_0
          replace h118_1 := FSl.mono le123 h118_1
          replace h118_2 := KSl.mono le123 h118_2
          obtain rfl := h123
          refine ops_rule (C := []) [((φ119 0), .cells #[.slice a118 AX.length c118, .slice b118 DX.length e118, .slice d118 NX.length f118] 56)] [] 5 [.o 0] 0 (fun φ124 => [(92, .slice a7 NX.length c7), (91, .slice d118 NX.length f118), (90, .pointer (some ⟨(φ119 0), 2, none⟩)), (89, .bool true), (88, .bool true)]) (fun φ124 => [((φ119 0), .cells #[.slice a118 AX.length c118, .slice b118 DX.length e118, .slice d118 NX.length f118] 56)]) (fun φ124 => [(φ119 0)]) s trivial (fun φ124 => by kernel_rfl) ?_
          intro φ124 w124 s
          refine call_rule (some 93) s (equalK_c h118_2 hz102 (Nat.le_trans hlK (by decide))) (by kernel_rfl) ?_
          intro v125 I125 w125 le125 h125 s
          replace hA := FSl.mono le125 hA
          replace hD := FSl.mono le125 hD
          replace hK := ISl.mono le125 hK
          replace hN := Tx.NmT.mono le125 hN
          replace hT := Tx.U8.mono le125 hT
          replace hH4 := leMono le125 hH4
          replace h6_0 := FSl.mono le125 h6_0
          replace h7_0 := ISl.mono le125 h7_0
          replace hH11 := leMono le125 hH11
          replace hk101 := FSl.mono le125 hk101
          replace hd101 := FSl.mono le125 hd101
          replace hz102 := KSl.mono le125 hz102
          replace h104_0 := BSl.mono le125 h104_0
          replace h107_0 := FSl.mono le125 h107_0
          replace h109_0 := FSl.mono le125 h109_0
          replace h111_0 := BSl.mono le125 h111_0
          replace h118_0 := FSl.mono le125 h118_0
          replace h118_1 := FSl.mono le125 h118_1
          replace h118_2 := KSl.mono le125 h118_2
          obtain rfl := h125
          refine ops_rule (C := []) [((φ119 0), .cells #[.slice a118 AX.length c118, .slice b118 DX.length e118, .slice d118 NX.length f118] 56)] [] 2 [] 0 (fun φ126 => [(8, .bool true), (94, .bool true)]) (fun φ126 => [((φ119 0), .cells #[.slice a118 AX.length c118, .slice b118 DX.length e118, .slice d118 NX.length f118] 56)]) (fun φ126 => []) s trivial (fun φ126 => by kernel_rfl) ?_
          intro φ126 w126 s
          refine ops_done (by kernel_rfl) ?_
          refine wp_ret ?_
          refine ret_rule (C := []) [((φ119 0), .cells #[.slice a118 AX.length c118, .slice b118 DX.length e118, .slice d118 NX.length f118] 56)] [] (.bool true) [] [] s trivial (by kernel_rfl) ?_
          exact ⟨_, _, _, rfl, s, rfl⟩
        ·
          refine region_rule ?_
          refine ops_rule (C := []) [] [] 4 [] 0 (fun φ127 => [(46, .agg #[.slice (some ⟨g11, 0, none⟩) AX.length c8, .slice a6 DX.length c6, .slice a7 KX.length c7]), (45, .slice a7 KX.length c7), (44, .slice a6 DX.length c6), (43, .slice (some ⟨g11, 0, none⟩) AX.length c8)]) (fun φ127 => []) (fun φ127 => []) s trivial (fun φ127 => by kernel_rfl) ?_
          intro φ127 w127 s
          refine call_rule (some 47) s (patchE_c hk101 hd101 hi101 hlA hlD hlK hpt) (by kernel_rfl) ?_
          intro v128 I128 w128 le128 h128 s
          replace hA := FSl.mono le128 hA
          replace hD := FSl.mono le128 hD
          replace hK := ISl.mono le128 hK
          replace hN := Tx.NmT.mono le128 hN
          replace hT := Tx.U8.mono le128 hT
          replace hH4 := leMono le128 hH4
          replace h6_0 := FSl.mono le128 h6_0
          replace h7_0 := ISl.mono le128 h7_0
          replace hH11 := leMono le128 hH11
          replace hk101 := FSl.mono le128 hk101
          replace hd101 := FSl.mono le128 hd101
          replace hi101 := ISl.mono le128 hi101
          obtain rfl := h128
          refine ops_rule (C := []) [] [] 5 [] 0 (fun φ129 => [(10, .int .i64 (((ptE AX DX KX) : Nat) : Int)), (9, .slice none 0 0), (49, .int .i64 (((ptE AX DX KX) : Nat) : Int)), (48, .slice none 0 0), (42, .tuple #[.slice none 0 0, .int .i64 (((ptE AX DX KX) : Nat) : Int)])]) (fun φ129 => []) (fun φ129 => []) s trivial (fun φ129 => by kernel_rfl) ?_
          intro φ129 w129 s
          refine ops_done (by kernel_rfl) ?_
          refine wp_seq ?_
          refine region_rule ?_
          refine ops_rule (C := []) [] [] 1 [] 0 (fun φ130 => [(51, .slice (some ⟨g11, 0, none⟩) AX.length c8)]) (fun φ130 => []) (fun φ130 => []) s trivial (fun φ130 => by kernel_rfl) ?_
          intro φ130 w130 s
          refine call_rule (some 52) s (ownF_c hk101 (Nat.le_trans hlA (by decide))) (by kernel_rfl) ?_
          intro v131 I131 w131 le131 h131 s
          replace hA := FSl.mono le131 hA
          replace hD := FSl.mono le131 hD
          replace hK := ISl.mono le131 hK
          replace hN := Tx.NmT.mono le131 hN
          replace hT := Tx.U8.mono le131 hT
          replace hH4 := leMono le131 hH4
          replace h6_0 := FSl.mono le131 h6_0
          replace h7_0 := ISl.mono le131 h7_0
          replace hH11 := leMono le131 hH11
          replace hk101 := FSl.mono le131 hk101
          replace hd101 := FSl.mono le131 hd101
          replace hi101 := ISl.mono le131 hi101
          obtain ⟨a131, c131, rfl, h131_0⟩ := h131
          refine ops_rule (C := []) [] [] 1 [] 0 (fun φ132 => [(53, .slice a6 DX.length c6)]) (fun φ132 => []) (fun φ132 => []) s trivial (fun φ132 => by kernel_rfl) ?_
          intro φ132 w132 s
          refine call_rule (some 54) s (ownF_c hd101 (Nat.le_trans hlD (by decide))) (by kernel_rfl) ?_
          intro v133 I133 w133 le133 h133 s
          replace hA := FSl.mono le133 hA
          replace hD := FSl.mono le133 hD
          replace hK := ISl.mono le133 hK
          replace hN := Tx.NmT.mono le133 hN
          replace hT := Tx.U8.mono le133 hT
          replace hH4 := leMono le133 hH4
          replace h6_0 := FSl.mono le133 h6_0
          replace h7_0 := ISl.mono le133 h7_0
          replace hH11 := leMono le133 hH11
          replace hk101 := FSl.mono le133 hk101
          replace hd101 := FSl.mono le133 hd101
          replace hi101 := ISl.mono le133 hi101
          replace h131_0 := FSl.mono le133 h131_0
          obtain ⟨a133, c133, rfl, h133_0⟩ := h133
          refine ops_rule (C := []) [] [] 1 [] 0 (fun φ134 => [(55, .slice a7 KX.length c7)]) (fun φ134 => []) (fun φ134 => []) s trivial (fun φ134 => by kernel_rfl) ?_
          intro φ134 w134 s
          refine call_rule (some 56) s (refWriteE_c h131_0 h133_0 hi101 hlA hlD hlK hpt) (by kernel_rfl) ?_
          intro v135 I135 w135 le135 h135 s
          replace hA := FSl.mono le135 hA
          replace hD := FSl.mono le135 hD
          replace hK := ISl.mono le135 hK
          replace hN := Tx.NmT.mono le135 hN
          replace hT := Tx.U8.mono le135 hT
          replace hH4 := leMono le135 hH4
          replace h6_0 := FSl.mono le135 h6_0
          replace h7_0 := ISl.mono le135 h7_0
          replace hH11 := leMono le135 hH11
          replace hk101 := FSl.mono le135 hk101
          replace hd101 := FSl.mono le135 hd101
          replace hi101 := ISl.mono le135 hi101
          replace h131_0 := FSl.mono le135 h131_0
          replace h133_0 := FSl.mono le135 h133_0
          obtain rfl := h135
          refine ops_rule (C := []) [] [] 5 [] 0 (fun φ136 => [(12, .int .i64 (((ptE AX DX KX) : Nat) : Int)), (11, .slice none 0 0), (58, .int .i64 (((ptE AX DX KX) : Nat) : Int)), (57, .slice none 0 0), (50, .tuple #[.slice none 0 0, .int .i64 (((ptE AX DX KX) : Nat) : Int)])]) (fun φ136 => []) (fun φ136 => []) s trivial (fun φ136 => by kernel_rfl) ?_
          intro φ136 w136 s
          refine ops_done (by kernel_rfl) ?_
          refine wp_seq ?_
          refine wp_seq ?_
          refine region_rule ?_
          refine ops_rule (C := []) [] [] 2 [] 0 (fun φ137 => [(60, .int .i64 (((ptE AX DX KX) : Nat) : Int)), (59, .int .i64 (((ptE AX DX KX) : Nat) : Int))]) (fun φ137 => []) (fun φ137 => []) s trivial (fun φ137 => by kernel_rfl) ?_
          intro φ137 w137 s
          refine sem_rule (binOp .neq 3 (.int .i64 (((ptE AX DX KX) : Nat) : Int)) (.int .i64 (((ptE AX DX KX) : Nat) : Int))) (some 61) (.bool false) (by kernel_rfl) (run_neS3) ?_
          refine ops_rule (C := []) [] [] 3 [] 0 (fun φ138 => [(64, .slice none 0 0), (63, .slice none 0 0), (62, .bool false)]) (fun φ138 => []) (fun φ138 => []) s trivial (fun φ138 => by kernel_rfl) ?_
          intro φ138 w138 s
          refine call_rule (some 65) s (sameR_c (bsl_nil _) (bsl_nil _) (by decide)) (by kernel_rfl) ?_
          intro v139 I139 w139 le139 h139 s
          replace hA := FSl.mono le139 hA
          replace hD := FSl.mono le139 hD
          replace hK := ISl.mono le139 hK
          replace hN := Tx.NmT.mono le139 hN
          replace hT := Tx.U8.mono le139 hT
          replace hH4 := leMono le139 hH4
          replace h6_0 := FSl.mono le139 h6_0
          replace h7_0 := ISl.mono le139 h7_0
          replace hH11 := leMono le139 hH11
          replace hk101 := FSl.mono le139 hk101
          replace hd101 := FSl.mono le139 hd101
          replace hi101 := ISl.mono le139 hi101
          replace h131_0 := FSl.mono le139 h131_0
          replace h133_0 := FSl.mono le139 h133_0
          obtain rfl := h139
          refine ops_rule (C := []) [] [] 2 [] 0 (fun φ140 => [(67, .bool false), (66, .bool false)]) (fun φ140 => []) (fun φ140 => []) s trivial (fun φ140 => by kernel_rfl) ?_
          intro φ140 w140 s
          refine ops_done (by kernel_rfl) ?_
          refine cond_false_rule (b := false) (by kernel_rfl) rfl ?_
          refine wp_skip ?_
          refine wp_seq ?_
          refine wp_seq ?_
          refine region_rule ?_
          refine ops_rule (C := []) [] [] 1 [] 0 (fun φ141 => [(68, .int .i64 (((ptE AX DX KX) : Nat) : Int))]) (fun φ141 => []) (fun φ141 => []) s trivial (fun φ141 => by kernel_rfl) ?_
          intro φ141 w141 s
          refine sem_rule (binOp .neq 27 (.int .i64 (((ptE AX DX KX) : Nat) : Int)) (.int .i64 0)) (some 69) (.bool true) (by kernel_rfl) ((run_neZ27 hpt)) ?_
          refine ops_done (by kernel_rfl) ?_
          refine cond_true_rule (b := true) (by kernel_rfl) rfl ?_
          refine wp_seq ?_
          refine region_rule ?_
          refine ops_rule (C := []) [] [] 1 [] 0 (fun φ142 => [(8, .bool true)]) (fun φ142 => []) (fun φ142 => []) s trivial (fun φ142 => by kernel_rfl) ?_
          intro φ142 w142 s
          refine ops_done (by kernel_rfl) ?_
          refine wp_ret ?_
          refine ret_rule (C := []) [] [] (.bool true) [] [] s trivial (by kernel_rfl) ?_
          exact ⟨_, _, _, rfl, s, rfl⟩
  ·
    rw [hc10]
    refine cond_false_rule (b := false) (by kernel_rfl) rfl ?_
    refine wp_skip ?_
    refine wp_seq ?_
    have hx143 : ((fewF A)).length ≤ 14 ∧ ∀ x ∈ (fewF A), x.v.length ≤ 400 := ⟨few_len, fun x hx => by have := few_short x hx; omega⟩
    obtain ⟨J143, le143, hk143, s⟩ := freeze_row39 (H := []) (F := F5) s h5
    replace hA := FSl.mono le143 hA
    replace hD := FSl.mono le143 hD
    replace hK := ISl.mono le143 hK
    replace hN := Tx.NmT.mono le143 hN
    replace hT := Tx.U8.mono le143 hT
    replace hH4 := leMono le143 hH4
    replace h6_0 := FSl.mono le143 h6_0
    replace h7_0 := ISl.mono le143 h7_0
    obtain ⟨AX, hAX⟩ : ∃ X, X = (fewF A) := ⟨_, rfl⟩
    rw [← hAX] at hk143 hx143
    obtain ⟨hn143, -⟩ := hk143.cap
    have hlA : AX.length ≤ 255 := by omega
    obtain ⟨DX, hDX⟩ : ∃ X, X = (fewF D) := ⟨_, rfl⟩
    have hlD : DX.length ≤ 255 := by rw [hDX]; exact Nat.le_trans few_len (by decide)
    obtain ⟨KX, hKX⟩ : ∃ X, X = (K.take (min K.length 9)) := ⟨_, rfl⟩
    have hlK : KX.length ≤ 255 := by rw [hKX, List.length_take]; omega
    rw [← hAX]
    have hd143 := h6_0
    rw [← hDX] at hd143 ⊢
    have hi143 := h7_0
    rw [← hKX] at hi143 ⊢
    by_cases hpt : ptE AX DX KX = 0
    ·
      obtain ⟨hoA, hoD, hoK⟩ := pt_zero hpt
      replace hoA := okL_ofM hoA
      replace hoD := okL_ofM hoD
      obtain ⟨NX, rfl, hoN⟩ := ints_nat hoK
      rw [List.length_map] at hlK hi143 ⊢
      have hz144 := isl_ksl hi143
      refine region_rule ?_
      refine ops_rule (C := []) [] [] 4 [] 0 (fun φ145 => [(46, .agg #[.slice a8 AX.length c8, .slice a6 DX.length c6, .slice a7 NX.length c7]), (45, .slice a7 NX.length c7), (44, .slice a6 DX.length c6), (43, .slice a8 AX.length c8)]) (fun φ145 => []) (fun φ145 => []) s trivial (fun φ145 => by kernel_rfl) ?_
      intro φ145 w145 s
      refine call_rule (some 47) s (patch_c hk143 hd143 hz144 hlA hlD hlK hoA hoD (kok hoN)) (by kernel_rfl) ?_
      intro v146 I146 w146 le146 h146 s
      replace hA := FSl.mono le146 hA
      replace hD := FSl.mono le146 hD
      replace hK := ISl.mono le146 hK
      replace hN := Tx.NmT.mono le146 hN
      replace hT := Tx.U8.mono le146 hT
      replace hH4 := leMono le146 hH4
      replace h6_0 := FSl.mono le146 h6_0
      replace h7_0 := ISl.mono le146 h7_0
      replace hk143 := FSl.mono le146 hk143
      replace hd143 := FSl.mono le146 hd143
      replace hz144 := KSl.mono le146 hz144
      obtain ⟨a146, c146, rfl, h146_0⟩ := h146
      refine ops_rule (C := []) [] [] 5 [] 0 (fun φ147 => [(10, .int .i64 0), (9, .slice a146 (List.length (encP AX DX NX)) c146), (49, .int .i64 0), (48, .slice a146 (List.length (encP AX DX NX)) c146), (42, .tuple #[.slice a146 (List.length (encP AX DX NX)) c146, .int .i64 0])]) (fun φ147 => []) (fun φ147 => []) s trivial (fun φ147 => by kernel_rfl) ?_
      intro φ147 w147 s
      refine ops_done (by kernel_rfl) ?_
      refine wp_seq ?_
      refine region_rule ?_
      refine ops_rule (C := []) [] [] 1 [] 0 (fun φ148 => [(51, .slice a8 AX.length c8)]) (fun φ148 => []) (fun φ148 => []) s trivial (fun φ148 => by kernel_rfl) ?_
      intro φ148 w148 s
      refine call_rule (some 52) s (ownF_c hk143 (Nat.le_trans hlA (by decide))) (by kernel_rfl) ?_
      intro v149 I149 w149 le149 h149 s
      replace hA := FSl.mono le149 hA
      replace hD := FSl.mono le149 hD
      replace hK := ISl.mono le149 hK
      replace hN := Tx.NmT.mono le149 hN
      replace hT := Tx.U8.mono le149 hT
      replace hH4 := leMono le149 hH4
      replace h6_0 := FSl.mono le149 h6_0
      replace h7_0 := ISl.mono le149 h7_0
      replace hk143 := FSl.mono le149 hk143
      replace hd143 := FSl.mono le149 hd143
      replace hz144 := KSl.mono le149 hz144
      replace h146_0 := BSl.mono le149 h146_0
      obtain ⟨a149, c149, rfl, h149_0⟩ := h149
      refine ops_rule (C := []) [] [] 1 [] 0 (fun φ150 => [(53, .slice a6 DX.length c6)]) (fun φ150 => []) (fun φ150 => []) s trivial (fun φ150 => by kernel_rfl) ?_
      intro φ150 w150 s
      refine call_rule (some 54) s (ownF_c hd143 (Nat.le_trans hlD (by decide))) (by kernel_rfl) ?_
      intro v151 I151 w151 le151 h151 s
      replace hA := FSl.mono le151 hA
      replace hD := FSl.mono le151 hD
      replace hK := ISl.mono le151 hK
      replace hN := Tx.NmT.mono le151 hN
      replace hT := Tx.U8.mono le151 hT
      replace hH4 := leMono le151 hH4
      replace h6_0 := FSl.mono le151 h6_0
      replace h7_0 := ISl.mono le151 h7_0
      replace hk143 := FSl.mono le151 hk143
      replace hd143 := FSl.mono le151 hd143
      replace hz144 := KSl.mono le151 hz144
      replace h146_0 := BSl.mono le151 h146_0
      replace h149_0 := FSl.mono le151 h149_0
      obtain ⟨a151, c151, rfl, h151_0⟩ := h151
      refine ops_rule (C := []) [] [] 1 [] 0 (fun φ152 => [(55, .slice a7 NX.length c7)]) (fun φ152 => []) (fun φ152 => []) s trivial (fun φ152 => by kernel_rfl) ?_
      intro φ152 w152 s
      refine call_rule (some 56) s (refWrite_c h149_0 h151_0 hz144 hlA hlD hlK hoA hoD (kok hoN)) (by kernel_rfl) ?_
      intro v153 I153 w153 le153 h153 s
      replace hA := FSl.mono le153 hA
      replace hD := FSl.mono le153 hD
      replace hK := ISl.mono le153 hK
      replace hN := Tx.NmT.mono le153 hN
      replace hT := Tx.U8.mono le153 hT
      replace hH4 := leMono le153 hH4
      replace h6_0 := FSl.mono le153 h6_0
      replace h7_0 := ISl.mono le153 h7_0
      replace hk143 := FSl.mono le153 hk143
      replace hd143 := FSl.mono le153 hd143
      replace hz144 := KSl.mono le153 hz144
      replace h146_0 := BSl.mono le153 h146_0
      replace h149_0 := FSl.mono le153 h149_0
      replace h151_0 := FSl.mono le153 h151_0
      obtain ⟨a153, c153, rfl, h153_0⟩ := h153
      refine ops_rule (C := []) [] [] 5 [] 0 (fun φ154 => [(12, .int .i64 0), (11, .slice a153 (List.length (encP AX DX NX)) c153), (58, .int .i64 0), (57, .slice a153 (List.length (encP AX DX NX)) c153), (50, .tuple #[.slice a153 (List.length (encP AX DX NX)) c153, .int .i64 0])]) (fun φ154 => []) (fun φ154 => []) s trivial (fun φ154 => by kernel_rfl) ?_
      intro φ154 w154 s
      refine ops_done (by kernel_rfl) ?_
      refine wp_seq ?_
      refine wp_seq ?_
      refine region_rule ?_
      refine ops_rule (C := []) [] [] 6 [] 0 (fun φ155 => [(64, .slice a153 (List.length (encP AX DX NX)) c153), (63, .slice a146 (List.length (encP AX DX NX)) c146), (62, .bool false), (61, .bool false), (60, .int .i64 0), (59, .int .i64 0)]) (fun φ155 => []) (fun φ155 => []) s trivial (fun φ155 => by kernel_rfl) ?_
      intro φ155 w155 s
      refine call_rule (some 65) s (sameR_c h146_0 h153_0 (Nat.le_trans (encP_len hoA hoD hlA hlD hlK) (by decide))) (by kernel_rfl) ?_
      intro v156 I156 w156 le156 h156 s
      replace hA := FSl.mono le156 hA
      replace hD := FSl.mono le156 hD
      replace hK := ISl.mono le156 hK
      replace hN := Tx.NmT.mono le156 hN
      replace hT := Tx.U8.mono le156 hT
      replace hH4 := leMono le156 hH4
      replace h6_0 := FSl.mono le156 h6_0
      replace h7_0 := ISl.mono le156 h7_0
      replace hk143 := FSl.mono le156 hk143
      replace hd143 := FSl.mono le156 hd143
      replace hz144 := KSl.mono le156 hz144
      replace h146_0 := BSl.mono le156 h146_0
      replace h149_0 := FSl.mono le156 h149_0
      replace h151_0 := FSl.mono le156 h151_0
      replace h153_0 := BSl.mono le156 h153_0
      obtain rfl := h156
      refine ops_rule (C := []) [] [] 2 [] 0 (fun φ157 => [(67, .bool false), (66, .bool false)]) (fun φ157 => []) (fun φ157 => []) s trivial (fun φ157 => by kernel_rfl) ?_
      intro φ157 w157 s
      refine ops_done (by kernel_rfl) ?_
      refine cond_false_rule (b := false) (by kernel_rfl) rfl ?_
      refine wp_skip ?_
      refine wp_seq ?_
      refine wp_seq ?_
      refine region_rule ?_
      refine ops_rule (C := []) [] [] 2 [] 0 (fun φ158 => [(69, .bool false), (68, .int .i64 0)]) (fun φ158 => []) (fun φ158 => []) s trivial (fun φ158 => by kernel_rfl) ?_
      intro φ158 w158 s
      refine ops_done (by kernel_rfl) ?_
      refine cond_false_rule (b := false) (by kernel_rfl) rfl ?_
      refine wp_skip ?_
      refine wp_seq ?_
      refine region_rule ?_
      refine ops_rule (C := []) [] [] 1 [] 0 (fun φ159 => [(71, .slice a146 (List.length (encP AX DX NX)) c146)]) (fun φ159 => []) (fun φ159 => []) s trivial (fun φ159 => by kernel_rfl) ?_
      intro φ159 w159 s
      refine call_rule (some 72) s (readW_c h146_0 hoA hoD hoN hlA hlD hlK) (by kernel_rfl) ?_
      intro v160 I160 w160 le160 h160 s
      replace hA := FSl.mono le160 hA
      replace hD := FSl.mono le160 hD
      replace hK := ISl.mono le160 hK
      replace hN := Tx.NmT.mono le160 hN
      replace hT := Tx.U8.mono le160 hT
      replace hH4 := leMono le160 hH4
      replace h6_0 := FSl.mono le160 h6_0
      replace h7_0 := ISl.mono le160 h7_0
      replace hk143 := FSl.mono le160 hk143
      replace hd143 := FSl.mono le160 hd143
      replace hz144 := KSl.mono le160 hz144
      replace h146_0 := BSl.mono le160 h146_0
      replace h149_0 := FSl.mono le160 h149_0
      replace h151_0 := FSl.mono le160 h151_0
      replace h153_0 := BSl.mono le160 h153_0
      obtain ⟨a160, b160, d160, c160, e160, f160, rfl, h160_0, h160_1, h160_2⟩ := h160
      refine ops_rule (C := []) [] [] 6 [.o 0, .o 0, .o 0] 1 (fun φ161 => [(14, .int .i64 0), (13, .pointer (some ⟨(φ161 0), 0, none⟩)), (74, .int .i64 0), (73, .agg #[.slice a160 AX.length c160, .slice b160 DX.length e160, .slice d160 NX.length f160]), (70, .tuple #[.agg #[.slice a160 AX.length c160, .slice b160 DX.length e160, .slice d160 NX.length f160], .int .i64 0])]) (fun φ161 => [((φ161 0), .cells #[.slice a160 AX.length c160, .slice b160 DX.length e160, .slice d160 NX.length f160] 56)]) (fun φ161 => [(φ161 0), (φ161 0), (φ161 0)]) s trivial (fun φ161 => by kernel_rfl) ?_
      intro φ161 w161 s
      refine ops_done (by kernel_rfl) ?_
      refine wp_seq ?_
      refine region_rule ?_
      refine ops_rule (C := []) [((φ161 0), .cells #[.slice a160 AX.length c160, .slice b160 DX.length e160, .slice d160 NX.length f160] 56)] [] 6 [.o 0] 0 (fun φ162 => [(80, .slice a8 AX.length c8), (79, .slice a160 AX.length c160), (78, .pointer (some ⟨(φ161 0), 0, none⟩)), (77, .bool true), (76, .bool true), (75, .int .i64 0)]) (fun φ162 => [((φ161 0), .cells #[.slice a160 AX.length c160, .slice b160 DX.length e160, .slice d160 NX.length f160] 56)]) (fun φ162 => [(φ161 0)]) s trivial (fun φ162 => by kernel_rfl) ?_
      intro φ162 w162 s
      refine call_rule (some 81) s (equalF_c h160_0 hk143 (Nat.le_trans hlA (by decide))) (by kernel_rfl) ?_
      intro v163 I163 w163 le163 h163 s
      replace hA := FSl.mono le163 hA
      replace hD := FSl.mono le163 hD
      replace hK := ISl.mono le163 hK
      replace hN := Tx.NmT.mono le163 hN
      replace hT := Tx.U8.mono le163 hT
      replace hH4 := leMono le163 hH4
      replace h6_0 := FSl.mono le163 h6_0
      replace h7_0 := ISl.mono le163 h7_0
      replace hk143 := FSl.mono le163 hk143
      replace hd143 := FSl.mono le163 hd143
      replace hz144 := KSl.mono le163 hz144
      replace h146_0 := BSl.mono le163 h146_0
      replace h149_0 := FSl.mono le163 h149_0
      replace h151_0 := FSl.mono le163 h151_0
      replace h153_0 := BSl.mono le163 h153_0
      replace h160_0 := FSl.mono le163 h160_0
      replace h160_1 := FSl.mono le163 h160_1
      replace h160_2 := KSl.mono le163 h160_2
      obtain rfl := h163
      refine ops_rule (C := []) [((φ161 0), .cells #[.slice a160 AX.length c160, .slice b160 DX.length e160, .slice d160 NX.length f160] 56)] [] 5 [.o 0] 0 (fun φ164 => [(86, .slice a6 DX.length c6), (85, .slice b160 DX.length e160), (84, .pointer (some ⟨(φ161 0), 1, none⟩)), (83, .bool true), (82, .bool true)]) (fun φ164 => [((φ161 0), .cells #[.slice a160 AX.length c160, .slice b160 DX.length e160, .slice d160 NX.length f160] 56)]) (fun φ164 => [(φ161 0)]) s trivial (fun φ164 => by kernel_rfl) ?_
      intro φ164 w164 s
      refine call_rule (some 87) s (equalF_c h160_1 hd143 (Nat.le_trans hlD (by decide))) (by kernel_rfl) ?_
      intro v165 I165 w165 le165 h165 s
      replace hA := FSl.mono le165 hA
      replace hD := FSl.mono le165 hD
      replace hK := ISl.mono le165 hK
      replace hN := Tx.NmT.mono le165 hN
      replace hT := Tx.U8.mono le165 hT
      replace hH4 := leMono le165 hH4
      replace h6_0 := FSl.mono le165 h6_0
      replace h7_0 := ISl.mono le165 h7_0
      replace hk143 := FSl.mono le165 hk143
      replace hd143 := FSl.mono le165 hd143
      replace hz144 := KSl.mono le165 hz144
      replace h146_0 := BSl.mono le165 h146_0
      replace h149_0 := FSl.mono le165 h149_0
      replace h151_0 := FSl.mono le165 h151_0
      replace h153_0 := BSl.mono le165 h153_0
      replace h160_0 := FSl.mono le165 h160_0
      replace h160_1 := FSl.mono le165 h160_1
      replace h160_2 := KSl.mono le165 h160_2
      obtain rfl := h165
      refine ops_rule (C := []) [((φ161 0), .cells #[.slice a160 AX.length c160, .slice b160 DX.length e160, .slice d160 NX.length f160] 56)] [] 5 [.o 0] 0 (fun φ166 => [(92, .slice a7 NX.length c7), (91, .slice d160 NX.length f160), (90, .pointer (some ⟨(φ161 0), 2, none⟩)), (89, .bool true), (88, .bool true)]) (fun φ166 => [((φ161 0), .cells #[.slice a160 AX.length c160, .slice b160 DX.length e160, .slice d160 NX.length f160] 56)]) (fun φ166 => [(φ161 0)]) s trivial (fun φ166 => by kernel_rfl) ?_
      intro φ166 w166 s
      refine call_rule (some 93) s (equalK_c h160_2 hz144 (Nat.le_trans hlK (by decide))) (by kernel_rfl) ?_
      intro v167 I167 w167 le167 h167 s
      replace hA := FSl.mono le167 hA
      replace hD := FSl.mono le167 hD
      replace hK := ISl.mono le167 hK
      replace hN := Tx.NmT.mono le167 hN
      replace hT := Tx.U8.mono le167 hT
      replace hH4 := leMono le167 hH4
      replace h6_0 := FSl.mono le167 h6_0
      replace h7_0 := ISl.mono le167 h7_0
      replace hk143 := FSl.mono le167 hk143
      replace hd143 := FSl.mono le167 hd143
      replace hz144 := KSl.mono le167 hz144
      replace h146_0 := BSl.mono le167 h146_0
      replace h149_0 := FSl.mono le167 h149_0
      replace h151_0 := FSl.mono le167 h151_0
      replace h153_0 := BSl.mono le167 h153_0
      replace h160_0 := FSl.mono le167 h160_0
      replace h160_1 := FSl.mono le167 h160_1
      replace h160_2 := KSl.mono le167 h160_2
      obtain rfl := h167
      refine ops_rule (C := []) [((φ161 0), .cells #[.slice a160 AX.length c160, .slice b160 DX.length e160, .slice d160 NX.length f160] 56)] [] 2 [] 0 (fun φ168 => [(8, .bool true), (94, .bool true)]) (fun φ168 => [((φ161 0), .cells #[.slice a160 AX.length c160, .slice b160 DX.length e160, .slice d160 NX.length f160] 56)]) (fun φ168 => []) s trivial (fun φ168 => by kernel_rfl) ?_
      intro φ168 w168 s
      refine ops_done (by kernel_rfl) ?_
      refine wp_ret ?_
      refine ret_rule (C := []) [((φ161 0), .cells #[.slice a160 AX.length c160, .slice b160 DX.length e160, .slice d160 NX.length f160] 56)] [] (.bool true) [] [] s trivial (by kernel_rfl) ?_
      exact ⟨_, _, _, rfl, s, rfl⟩
    ·
      refine region_rule ?_
      refine ops_rule (C := []) [] [] 4 [] 0 (fun φ169 => [(46, .agg #[.slice a8 AX.length c8, .slice a6 DX.length c6, .slice a7 KX.length c7]), (45, .slice a7 KX.length c7), (44, .slice a6 DX.length c6), (43, .slice a8 AX.length c8)]) (fun φ169 => []) (fun φ169 => []) s trivial (fun φ169 => by kernel_rfl) ?_
      intro φ169 w169 s
      refine call_rule (some 47) s (patchE_c hk143 hd143 hi143 hlA hlD hlK hpt) (by kernel_rfl) ?_
      intro v170 I170 w170 le170 h170 s
      replace hA := FSl.mono le170 hA
      replace hD := FSl.mono le170 hD
      replace hK := ISl.mono le170 hK
      replace hN := Tx.NmT.mono le170 hN
      replace hT := Tx.U8.mono le170 hT
      replace hH4 := leMono le170 hH4
      replace h6_0 := FSl.mono le170 h6_0
      replace h7_0 := ISl.mono le170 h7_0
      replace hk143 := FSl.mono le170 hk143
      replace hd143 := FSl.mono le170 hd143
      replace hi143 := ISl.mono le170 hi143
      obtain rfl := h170
      refine ops_rule (C := []) [] [] 5 [] 0 (fun φ171 => [(10, .int .i64 (((ptE AX DX KX) : Nat) : Int)), (9, .slice none 0 0), (49, .int .i64 (((ptE AX DX KX) : Nat) : Int)), (48, .slice none 0 0), (42, .tuple #[.slice none 0 0, .int .i64 (((ptE AX DX KX) : Nat) : Int)])]) (fun φ171 => []) (fun φ171 => []) s trivial (fun φ171 => by kernel_rfl) ?_
      intro φ171 w171 s
      refine ops_done (by kernel_rfl) ?_
      refine wp_seq ?_
      refine region_rule ?_
      refine ops_rule (C := []) [] [] 1 [] 0 (fun φ172 => [(51, .slice a8 AX.length c8)]) (fun φ172 => []) (fun φ172 => []) s trivial (fun φ172 => by kernel_rfl) ?_
      intro φ172 w172 s
      refine call_rule (some 52) s (ownF_c hk143 (Nat.le_trans hlA (by decide))) (by kernel_rfl) ?_
      intro v173 I173 w173 le173 h173 s
      replace hA := FSl.mono le173 hA
      replace hD := FSl.mono le173 hD
      replace hK := ISl.mono le173 hK
      replace hN := Tx.NmT.mono le173 hN
      replace hT := Tx.U8.mono le173 hT
      replace hH4 := leMono le173 hH4
      replace h6_0 := FSl.mono le173 h6_0
      replace h7_0 := ISl.mono le173 h7_0
      replace hk143 := FSl.mono le173 hk143
      replace hd143 := FSl.mono le173 hd143
      replace hi143 := ISl.mono le173 hi143
      obtain ⟨a173, c173, rfl, h173_0⟩ := h173
      refine ops_rule (C := []) [] [] 1 [] 0 (fun φ174 => [(53, .slice a6 DX.length c6)]) (fun φ174 => []) (fun φ174 => []) s trivial (fun φ174 => by kernel_rfl) ?_
      intro φ174 w174 s
      refine call_rule (some 54) s (ownF_c hd143 (Nat.le_trans hlD (by decide))) (by kernel_rfl) ?_
      intro v175 I175 w175 le175 h175 s
      replace hA := FSl.mono le175 hA
      replace hD := FSl.mono le175 hD
      replace hK := ISl.mono le175 hK
      replace hN := Tx.NmT.mono le175 hN
      replace hT := Tx.U8.mono le175 hT
      replace hH4 := leMono le175 hH4
      replace h6_0 := FSl.mono le175 h6_0
      replace h7_0 := ISl.mono le175 h7_0
      replace hk143 := FSl.mono le175 hk143
      replace hd143 := FSl.mono le175 hd143
      replace hi143 := ISl.mono le175 hi143
      replace h173_0 := FSl.mono le175 h173_0
      obtain ⟨a175, c175, rfl, h175_0⟩ := h175
      refine ops_rule (C := []) [] [] 1 [] 0 (fun φ176 => [(55, .slice a7 KX.length c7)]) (fun φ176 => []) (fun φ176 => []) s trivial (fun φ176 => by kernel_rfl) ?_
      intro φ176 w176 s
      refine call_rule (some 56) s (refWriteE_c h173_0 h175_0 hi143 hlA hlD hlK hpt) (by kernel_rfl) ?_
      intro v177 I177 w177 le177 h177 s
      replace hA := FSl.mono le177 hA
      replace hD := FSl.mono le177 hD
      replace hK := ISl.mono le177 hK
      replace hN := Tx.NmT.mono le177 hN
      replace hT := Tx.U8.mono le177 hT
      replace hH4 := leMono le177 hH4
      replace h6_0 := FSl.mono le177 h6_0
      replace h7_0 := ISl.mono le177 h7_0
      replace hk143 := FSl.mono le177 hk143
      replace hd143 := FSl.mono le177 hd143
      replace hi143 := ISl.mono le177 hi143
      replace h173_0 := FSl.mono le177 h173_0
      replace h175_0 := FSl.mono le177 h175_0
      obtain rfl := h177
      refine ops_rule (C := []) [] [] 5 [] 0 (fun φ178 => [(12, .int .i64 (((ptE AX DX KX) : Nat) : Int)), (11, .slice none 0 0), (58, .int .i64 (((ptE AX DX KX) : Nat) : Int)), (57, .slice none 0 0), (50, .tuple #[.slice none 0 0, .int .i64 (((ptE AX DX KX) : Nat) : Int)])]) (fun φ178 => []) (fun φ178 => []) s trivial (fun φ178 => by kernel_rfl) ?_
      intro φ178 w178 s
      refine ops_done (by kernel_rfl) ?_
      refine wp_seq ?_
      refine wp_seq ?_
      refine region_rule ?_
      refine ops_rule (C := []) [] [] 2 [] 0 (fun φ179 => [(60, .int .i64 (((ptE AX DX KX) : Nat) : Int)), (59, .int .i64 (((ptE AX DX KX) : Nat) : Int))]) (fun φ179 => []) (fun φ179 => []) s trivial (fun φ179 => by kernel_rfl) ?_
      intro φ179 w179 s
      refine sem_rule (binOp .neq 3 (.int .i64 (((ptE AX DX KX) : Nat) : Int)) (.int .i64 (((ptE AX DX KX) : Nat) : Int))) (some 61) (.bool false) (by kernel_rfl) (run_neS3) ?_
      refine ops_rule (C := []) [] [] 3 [] 0 (fun φ180 => [(64, .slice none 0 0), (63, .slice none 0 0), (62, .bool false)]) (fun φ180 => []) (fun φ180 => []) s trivial (fun φ180 => by kernel_rfl) ?_
      intro φ180 w180 s
      refine call_rule (some 65) s (sameR_c (bsl_nil _) (bsl_nil _) (by decide)) (by kernel_rfl) ?_
      intro v181 I181 w181 le181 h181 s
      replace hA := FSl.mono le181 hA
      replace hD := FSl.mono le181 hD
      replace hK := ISl.mono le181 hK
      replace hN := Tx.NmT.mono le181 hN
      replace hT := Tx.U8.mono le181 hT
      replace hH4 := leMono le181 hH4
      replace h6_0 := FSl.mono le181 h6_0
      replace h7_0 := ISl.mono le181 h7_0
      replace hk143 := FSl.mono le181 hk143
      replace hd143 := FSl.mono le181 hd143
      replace hi143 := ISl.mono le181 hi143
      replace h173_0 := FSl.mono le181 h173_0
      replace h175_0 := FSl.mono le181 h175_0
      obtain rfl := h181
      refine ops_rule (C := []) [] [] 2 [] 0 (fun φ182 => [(67, .bool false), (66, .bool false)]) (fun φ182 => []) (fun φ182 => []) s trivial (fun φ182 => by kernel_rfl) ?_
      intro φ182 w182 s
      refine ops_done (by kernel_rfl) ?_
      refine cond_false_rule (b := false) (by kernel_rfl) rfl ?_
      refine wp_skip ?_
      refine wp_seq ?_
      refine wp_seq ?_
      refine region_rule ?_
      refine ops_rule (C := []) [] [] 1 [] 0 (fun φ183 => [(68, .int .i64 (((ptE AX DX KX) : Nat) : Int))]) (fun φ183 => []) (fun φ183 => []) s trivial (fun φ183 => by kernel_rfl) ?_
      intro φ183 w183 s
      refine sem_rule (binOp .neq 27 (.int .i64 (((ptE AX DX KX) : Nat) : Int)) (.int .i64 0)) (some 69) (.bool true) (by kernel_rfl) ((run_neZ27 hpt)) ?_
      refine ops_done (by kernel_rfl) ?_
      refine cond_true_rule (b := true) (by kernel_rfl) rfl ?_
      refine wp_seq ?_
      refine region_rule ?_
      refine ops_rule (C := []) [] [] 1 [] 0 (fun φ184 => [(8, .bool true)]) (fun φ184 => []) (fun φ184 => []) s trivial (fun φ184 => by kernel_rfl) ?_
      intro φ184 w184 s
      refine ops_done (by kernel_rfl) ?_
      refine wp_ret ?_
      refine ret_rule (C := []) [] [] (.bool true) [] [] s trivial (by kernel_rfl) ?_
      exact ⟨_, _, _, rfl, s, rfl⟩

end Go.Proofs.YtcpmjogeafhpnaaDoor
/- Any patch: with nothing but what came in. -/
set_option linter.all false
set_option maxRecDepth 100000
namespace Go.Proofs.YtcpmjogeafhpnaaDoor
open Go.RowKit Go.Sep
theorem paperPatchesX_c {I : IM} {A D : List Fe} {K : List Int} {r : Nat} {a1 a2 a3 : Option Addr} {c1 c2 c3 : Nat} (hA : FSl I A (.slice a1 A.length c1)) (hD : FSl I D (.slice a2 D.length c2)) (hK : ISl I K (.slice a3 K.length c3)) (hlA : A.length ≤ 9223372036854775807) (hlD : D.length ≤ 9223372036854775807) (hr : r < 65536) (hN : Tx.NmT I) (hT : Tx.U8 I) :
    Fun Tryd.prog 10 #[.slice a1 A.length c1, .slice a2 D.length c2, .slice a3 K.length c3, .int .u16 ((r : Nat) : Int)] I (fun v J => v = .bool true) := by
  have e : (K.take (min K.length 9)).length = min K.length 9 := by rw [List.length_take]; omega
  have h := isl_take (m := min K.length 9) hK
  rw [e] at h
  refine paperPatches_c hA hD hK hlA hlD hr h (fun {w} => ?_) hN hT
  have q := run_to52 (w := w) (m := min K.length 9) (hi := min K.length 9) hK (by omega)
  rw [e] at q; exact q
end Go.Proofs.YtcpmjogeafhpnaaDoor
/- What the laid variables give. -/
set_option linter.all false
set_option maxRecDepth 100000
namespace Go.Proofs.YtcpmjogeafhpnaaDoor
open Go.RowKit Go.Sep Go.Lib
theorem ownKnob_none : ownKnob Tryd.prog.godebug = none := by kernel_rfl
abbrev laidT : List (String × DataW Unit) := Rows.cardMakesRow.laid
theorem tabs_of_laid {W : World} (h : laidMetH Tryd.prog laidT W) : Lib.Utf8Tabs 1 2 W := by
  rw [MakeChecks.laidMetH_plain _ _ _ (by kernel_rfl)] at h
  have h4 := Lib.laidMet.reads h (.head _)
  have h3 := Lib.laidMet.reads h (.tail _ (.tail _ (.head _)))
  exact utf8Tabs_of_readsT (ρ := Tryd.lays196_ren) (U8Types.of196 Tryd.lays196) ⟨by kernel_rfl, by kernel_rfl, by kernel_rfl, by kernel_rfl, by kernel_rfl, by kernel_rfl, by kernel_rfl⟩ (kcast (by kernel_rfl) h3) (kcast (by kernel_rfl) h4)
theorem block_of {W : World} {b o : Nat} {v : Value} (h : W.cell? ⟨b, o, none⟩ = some v) : ∃ cs T fr, W.heap[b]? = some (.cells cs T fr) ∧ cs[o]? = some v := by
  unfold World.cell? at h
  cases hb : W.heap[b]? with
  | none => simp [hb] at h
  | some ob =>
    cases ob <;> simp [hb] at h
    exact ⟨_, _, _, rfl, h⟩
theorem nm_of_laid {W : World} (h : laidMetH Tryd.prog laidT W) : Tx.NmT (fun k => W.heap[k]?) := by
  rw [MakeChecks.laidMetH_plain _ _ _ (by kernel_rfl)] at h
  obtain ⟨g, t, cs, fuel, p, hg, hty, hvar, hd⟩ := Lib.laidMet.reads h (.tail _ (.head _))
  obtain rfl := Option.some.inj ((show Tryd.prog.globalNamed "kinfolk/card.names" = some 0 by kernel_rfl).symm.trans hg)
  obtain rfl := Option.some.inj ((show (Tryd.prog.globals[0]?).map (·.type) = some 98 by kernel_rfl).symm.trans hty)
  have one : ∀ i, i < 7 → W.cell? ⟨0, i, none⟩ = some (.string ⟨(Tx.nmL.getD i []).toArray⟩) := fun i hi => by
    obtain ⟨fuel', d, q, hdi, he⟩ := array_elem (show Tryd.prog.underlying 98 = some (.array 7 9) by kernel_rfl) hd i hi
    have hdl : d = DataW.lit (.string (Tx.nmL.getD i [])) := by
      have : i = 0 ∨ i = 1 ∨ i = 2 ∨ i = 3 ∨ i = 4 ∨ i = 5 ∨ i = 6 := by omega
      rcases this with rfl | rfl | rfl | rfl | rfl | rfl | rfl <;> exact (Option.some.inj hdi).symm
    subst hdl
    obtain ⟨s, hc, hx, -⟩ := DataW.trod_string Tryd.underlying9 he
    have hs : s = ⟨(Tx.nmL.getD i []).toArray⟩ := by
      have h1 := congrArg Prod.fst hx
      simp only [DataW.lit.injEq, Lit.string.injEq] at h1
      obtain ⟨⟨l⟩⟩ := s
      simp only at h1
      exact congrArg ByteArray.mk (congrArg Array.mk h1.symm)
    rw [show Tryd.prog.cellsOf 9 = 1 by kernel_rfl] at hc
    have e0 := congrArg (·[0]?) hc
    simp only [List.getElem?_take, List.getElem?_drop] at e0
    have h2 := World.var?_cell hg hvar i
    rw [← Array.getElem?_toList] at h2
    rw [← hs]
    exact h2.trans (by simpa using e0)
  obtain ⟨cs', T, fr, e1, -⟩ := block_of (one 0 (by decide))
  refine ⟨cs', T, fr, e1, fun i hi => ?_⟩
  obtain ⟨cs2, T2, fr2, f1, f2⟩ := block_of (one i hi)
  rw [e1] at f1
  cases f1
  exact f2
theorem cell_up {W w : World} (hw : IM.Sub (fun k => W.heap[k]?) w) {a : Addr} {v : Value} (h : W.cell? a = some v) : w.cell? a = some v := by
  unfold World.cell? at h ⊢
  cases e : W.heap[a.block]? with
  | none => rw [e] at h; cases h
  | some o => rw [hw _ _ e]; rw [e] at h; exact h
theorem u8_of_laid {W : World} (h : laidMetH Tryd.prog laidT W) : Tx.U8 (fun k => W.heap[k]?) := fun w hw =>
  have t := tabs_of_laid h
  ⟨fun c hc => cell_up hw (t.1 c hc), fun i hi => ⟨cell_up hw (t.2 i hi).1, cell_up hw (t.2 i hi).2⟩⟩
theorem met_wit (os : Os) (args : Array Value) : laidMetH Tryd.prog laidT ((World.laidAll Tryd.prog os laidT).forCall (fun _ _ => 0) ⟨#[], args, []⟩).memory := by
  rw [MakeChecks.laidMetH_plain _ _ _ (by kernel_rfl)]; exact laidMet_laidAll _ (by kernel_rfl) (by kernel_rfl)
end Go.Proofs.YtcpmjogeafhpnaaDoor
/- A slice of bytes that came in, as the contracts want it. -/
set_option linter.all false
namespace Go.Proofs.YtcpmjogeafhpnaaDoor
open Go.RowKit Go.Sep

theorem cell_block {w : World} {b o : Nat} {v : Value} (h : w.cell? ⟨b, o, none⟩ = some v) : ∃ cs T fr, w.heap[b]? = some (.cells cs T fr) ∧ cs[o]? = some v := by
  unfold World.cell? at h
  cases hb : w.heap[b]? with
  | none => simp [hb] at h
  | some ob =>
    cases ob <;> simp [hb] at h
    exact ⟨_, _, _, rfl, h⟩
end Go.Proofs.YtcpmjogeafhpnaaDoor
/- Slices of fields that came in. -/
set_option linter.all false
set_option maxRecDepth 100000
namespace Go.Proofs.YtcpmjogeafhpnaaDoor
open Go.Sep
open Go.ChangeShapes Go.WideShapes Go.ChangeAt Go.RowKit
structure FX where
  k : Int
  a : List UInt8
  v : List UInt8
def FX.d : FX := ⟨0, [], []⟩
instance : Inhabited FX := ⟨FX.d⟩
def FXl (I : IM) (L : List FX) (v : Value) : Prop := ∃ a cap, v = .slice a L.length cap ∧ L.length ≤ cap ∧ ∀ (j : Nat) (x : FX), L[j]? = some x → (-9223372036854775808 ≤ x.k ∧ x.k < 9223372036854775808 ∧ x.a.length ≤ maxLen ∧ x.v.length ≤ maxLen) ∧ ∃ (b o : Nat) (cs : Array Value) (T : TypeId) (fr : Nat × Nat), a = some ⟨b, o, none⟩ ∧ I b = some (.cells cs T fr) ∧ cs[o + j * 3]? = some (.int .i64 x.k) ∧ cs[o + j * 3 + 1]? = some (.string ⟨x.a.toArray⟩) ∧ cs[o + j * 3 + 2]? = some (.string ⟨x.v.toArray⟩)
theorem FXl.mono {I J : IM} (le : I.Le J) {L : List FX} {v : Value} (h : FXl I L v) : FXl J L v := by
  obtain ⟨a, cap, hv, hc, hr⟩ := h
  refine ⟨a, cap, hv, hc, fun j x hj => ?_⟩
  obtain ⟨hx, b, o, cs, T, fr, h1, h2, h3, h4, h5⟩ := hr j x hj
  exact ⟨hx, b, o, cs, T, fr, h1, le _ _ h2, h3, h4, h5⟩
theorem FXl.cap {I : IM} {L : List FX} {a : Option Addr} {n c : Nat} (h : FXl I L (.slice a n c)) : n = L.length ∧ L.length ≤ c := by
  obtain ⟨a', c', hv, hc, _⟩ := h
  cases hv; exact ⟨rfl, hc⟩
theorem fXl_nil (I : IM) : FXl I [] (.slice none 0 0) := ⟨none, 0, rfl, Nat.le_refl _, fun j x h => by simp at h⟩
theorem fXl_cells {cs : List Value} (h : cs.length = 3) : ∃ v0 v1 v2, cs = [v0, v1, v2] := by
  match cs, h with
  | [v0, v1, v2], _ => exact ⟨v0, v1, v2, rfl⟩
theorem fXl_open {H : Type} {enc : TypeId × Value → H} {w : World} {fuel : Nat} {a0 : Option Addr} {len0 cap0 : Nat} {x : DataW H × List MemPlace} (hf : DataW.trod enc Tryd.prog w 0 (fun _ => true) true fuel 22 [.slice a0 len0 cap0] = some x) :
    ∃ L, FXl (fun k => w.heap[k]?) L (.slice a0 len0 cap0) ∧ L.length ≤ maxLen := by
  rcases Go.Deep.open_slice Tryd.underlying22 hf with ⟨hcs, _⟩ | ⟨a, len, cap, m, n, D, Pl, hcs, _, hl, hml, hm, _, hx⟩
  · simp at hcs
    obtain ⟨rfl, rfl, rfl⟩ := hcs
    exact ⟨[], fXl_nil _, Nat.zero_le _⟩
  · simp at hcs
    obtain ⟨rfl, rfl, rfl⟩ := hcs
    have hm' : m = cap0 := by simpa using hm
    subst hm'
    have ce : Tryd.prog.cellsOf 39 = 3 := by kernel_rfl
    have c3 : Tryd.prog.cellsOf 3 = 1 := by kernel_rfl
    have c9 : Tryd.prog.cellsOf 9 = 1 := by kernel_rfl
    have one : ∀ i, i < len0 → ∃ y : FX, (-9223372036854775808 ≤ y.k ∧ y.k < 9223372036854775808 ∧ y.a.length ≤ maxLen ∧ y.v.length ≤ maxLen) ∧ w.cell? (a.add (i * 3)) = some (.int .i64 y.k) ∧ w.cell? (a.add (i * 3 + 1)) = some (.string ⟨y.a.toArray⟩) ∧ w.cell? (a.add (i * 3 + 2)) = some (.string ⟨y.v.toArray⟩) := by
      intro i hi
      obtain ⟨cs', h1, h2⟩ := hx i (by omega)
      rw [ce] at h1
      obtain ⟨_, hlen, hcell⟩ := World.cells?_some h1
      obtain ⟨xs, n', _, _, _, hxl, hfs⟩ := DataW.trod_struct Tryd.underlying39 h2
      obtain ⟨v0, v1, v2, rfl⟩ := fXl_cells hlen
      have hxl' : xs.length = 3 := hxl
      have hx0 : 0 < xs.length := by omega
      have t0 := hfs 0 _ rfl
      rw [List.getElem?_eq_getElem hx0] at t0
      simp [c3] at t0
      obtain ⟨y0, e0, _, b0⟩ := DataW.trod_int Tryd.underlying3 t0
      simp at e0
      subst e0
      have hx1 : 1 < xs.length := by omega
      have t1 := hfs 1 _ rfl
      rw [List.getElem?_eq_getElem hx1] at t1
      simp [c9] at t1
      obtain ⟨y1, e1, _, b1⟩ := DataW.trod_string Tryd.underlying9 t1
      simp at e1
      subst e1
      have hx2 : 2 < xs.length := by omega
      have t2 := hfs 2 _ rfl
      rw [List.getElem?_eq_getElem hx2] at t2
      simp [c9] at t2
      obtain ⟨y2, e2, _, b2⟩ := DataW.trod_string Tryd.underlying9 t2
      simp at e2
      subst e2
      have d0 : -9223372036854775808 ≤ y0 ∧ y0 < 9223372036854775808 := by
        have := b0; simp [Lit.wf, IntKind.min, IntKind.max, IntKind.signed, IntKind.bits] at this; omega
      have g0 := hcell 0 (by omega)
      have g1 := hcell 1 (by omega)
      have g2 := hcell 2 (by omega)
      rw [Go.Deep.add_add] at g0 g1 g2
      exact ⟨⟨y0, y1.data.toList, y2.data.toList⟩, ⟨d0.1, d0.2, b1, b2⟩, (by simpa using g0), (by simpa using g1), (by simpa using g2)⟩
    obtain ⟨f, hfn⟩ := Go.Deep.choose_lt one
    refine ⟨(List.range len0).map f, ⟨some a, m, by simp, by simpa using hl, fun j y hj => ?_⟩, by simp; omega⟩
    have hj' : j < len0 := by
      have := (List.getElem?_eq_some_iff.1 hj).1
      simpa using this
    have hy : y = f j := by simpa [hj'] using hj.symm
    subst hy
    obtain ⟨hb, h0, h1, h2⟩ := hfn j hj'
    obtain ⟨b, o, sp⟩ := a
    cases sp with
    | none =>
      rw [addr_addO b o (j * 3)] at h0
      obtain ⟨cs0, T0, fr0, e0, k0⟩ := cell_block h0
      rw [addr_addO b o (j * 3 + 1)] at h1
      obtain ⟨cs1, T1, fr1, e1, k1⟩ := cell_block h1
      rw [addr_addO b o (j * 3 + 2)] at h2
      obtain ⟨cs2, T2, fr2, e2, k2⟩ := cell_block h2
      rw [e0] at e1
      cases e1
      rw [e0] at e2
      cases e2
      exact ⟨hb, b, o, cs0, T0, fr0, rfl, e0, k0, (by rw [Nat.add_assoc]; exact k1), (by rw [Nat.add_assoc]; exact k2)⟩
    | some sp =>
      exfalso
      obtain ⟨_, h0, _⟩ := hfn 0 (by omega)
      unfold World.cell? Addr.add at h0
      rw [if_pos (by rfl)] at h0
      revert h0
      split <;> simp
def toFe (x : FX) : Fe := ⟨x.k, x.a, x.v⟩
theorem fxl_fsl {I : IM} {L : List FX} {v : Value} (h : FXl I L v) : FSl I (L.map toFe) v := by
  obtain ⟨a, cap, hv, hc, hr⟩ := h
  refine ⟨a, cap, by rw [List.length_map]; exact hv, by rw [List.length_map]; exact hc, fun j x hj => ?_⟩
  rw [List.getElem?_map] at hj
  cases hq : L[j]? with
  | none => rw [hq] at hj; cases hj
  | some y =>
    rw [hq] at hj
    simp only [Option.map_some, Option.some.injEq] at hj
    subst hj
    obtain ⟨_, b, o, cs, T, fr, h1, h2, h3, h4, h5⟩ := hr j y hq
    exact ⟨b, o, cs, T, fr, h1, h2, h3, h4, h5⟩
/-- fields that came in -/
def FIn (I : IM) (L : List Fe) (v : Value) : Prop := FSl I L v ∧ L.length ≤ maxLen
theorem fin_open {H : Type} {enc : TypeId × Value → H} {w : World} {fuel : Nat} {a0 : Option Addr} {len0 cap0 : Nat} {x : DataW H × List MemPlace} (hf : DataW.trod enc Tryd.prog w 0 (fun _ => true) true fuel 22 [.slice a0 len0 cap0] = some x) :
    ∃ L, FIn (fun k => w.heap[k]?) L (.slice a0 len0 cap0) := by
  obtain ⟨L, h, hl⟩ := fXl_open hf
  exact ⟨L.map toFe, fxl_fsl h, by rw [List.length_map]; exact hl⟩
end Go.Proofs.YtcpmjogeafhpnaaDoor
/- Slices of ints that came in. -/
set_option linter.all false
set_option maxRecDepth 100000
namespace Go.Proofs.YtcpmjogeafhpnaaDoor
open Go.Sep
open Go.ChangeShapes Go.WideShapes Go.ChangeAt Go.RowKit
theorem islI_row {w : World} {a : Option Addr} {len cap : Nat} {zs : List Int}
    (h : (a = none ∧ len = 0 ∧ cap = 0 ∧ zs = []) ∨ ∃ x, a = some x ∧ len ≤ cap ∧ cap ≤ maxLen ∧ zs.length = cap ∧ (∀ i, i < zs.length → w.cell? (x.add i) = some (.int .i64 (zs.getD i 0))) ∧ ∀ n ∈ zs, (Lit.int .i64 n).wf = true) :
    ∃ l, ISl (fun k => w.heap[k]?) l (.slice a len cap) := by
  rcases h with ⟨rfl, rfl, rfl, rfl⟩ | ⟨x, rfl, hl, hm, hz, hc, hw⟩
  · exact ⟨[], isl_nil _⟩
  · refine ⟨zs.take len, some x, cap, by rw [List.length_take, Nat.min_eq_left (show len ≤ zs.length by omega)], by rw [List.length_take]; omega, fun j z hz1 => ?_⟩
    rw [List.getElem?_take] at hz1
    split at hz1
    · have hjl : j < zs.length := (List.getElem?_eq_some_iff.1 hz1).1
      have h1 := hc j hjl
      have h2 : zs.getD j 0 = z := by simp [hz1]
      rw [h2] at h1
      obtain ⟨b, o, sp⟩ := x
      cases sp with
      | none =>
        have : (⟨b, o, none⟩ : Addr).add j = ⟨b, o + j, none⟩ := by unfold Addr.add; split <;> simp_all
        rw [this] at h1
        obtain ⟨cs, T, fr, e1, e2⟩ := cell_block h1
        exact ⟨b, o, cs, T, fr, rfl, e1, e2⟩
      | some sp =>
        exfalso
        have h0 := hc 0 (by omega)
        unfold World.cell? Addr.add at h0
        rw [if_pos rfl] at h0
        revert h0
        split <;> simp
    · cases hz1
theorem iin_open {H : Type} {enc : TypeId × Value → H} {w : World} {fuel : Nat} {a0 : Option Addr} {len0 cap0 : Nat} {x : DataW H × List MemPlace} (hf : DataW.trod enc Tryd.prog w 0 (fun _ => true) true fuel 52 [.slice a0 len0 cap0] = some x) :
    ∃ K, ISl (fun k => w.heap[k]?) K (.slice a0 len0 cap0) := by
  rcases open_ints Tryd.underlying52 Tryd.underlying3 (by kernel_rfl) hf with ⟨hcs, _⟩ | ⟨x, l, c, zs, hcs, _, hl, hm, hz, _, hcell, hwz⟩
  · simp at hcs
    obtain ⟨rfl, rfl, rfl⟩ := hcs
    exact islI_row (zs := []) (.inl ⟨rfl, rfl, rfl, rfl⟩)
  · simp at hcs
    obtain ⟨rfl, rfl, rfl⟩ := hcs
    exact islI_row (.inr ⟨_, rfl, hl, hm, by simpa using hz, hcell, hwz⟩)
end Go.Proofs.YtcpmjogeafhpnaaDoor
