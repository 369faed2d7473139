/- BitsNums. -/
import Derived.Test.YtpnlaeapnokipaaBwW11
set_option linter.all false
set_option maxRecDepth 100000
namespace Go.Proofs.Ytpnlaeapnokipaa
open Go.RowKit Go.Sep
attribute [local irreducible] Go.wpList Go.Code.wp

theorem numE_c {I : IM} {b n : Nat} (hn : n < 18446744073709551616) : FunM Try.prog 18 #[.pointer (some ⟨b, 0, none⟩), .int .u64 ((n : Nat) : Int)] I ((b, .cells #[.slice none 0 0, .int .i64 0] 96) :: []) (fun v J H' => ∃ (b' : OB) (F' : List OB), H' = b' :: F' ∧ b'.1 = b ∧ ∃ v', v = .tuple #[] ∧ b' = (b, .cells #[v', .int .i64 (((List.length (numW 62 2 n)) : Nat) : Int)] 96) ∧ RowH 5 1 v' (pk (numW 62 2 n)).length ((pk (numW 62 2 n)).map bV) F') := by
  have h := num_c (I := I) (b := b) (cnt := 0) (bs := []) (v0 := .slice none 0 0) (F := []) (n := n) rfl (by decide) (row_nilB : RowH 5 1 (.slice none 0 0) (pk []).length ((pk []).map bV) []) hn
  rw [Nat.zero_add] at h
  exact h
set_option maxHeartbeats 1000000 in
theorem awake5_c {I : IM} : Fun Try.prog 14 #[] I (fun v J => v = .bool true) := by
  refine enter_rule 22 [] Try.func14 rfl (by kernel_rfl) ?_
  intro w s
  refine wp_seq ?_
  refine region_rule ?_
  refine ops_rule (C := []) [] [] 1 [] 0 (fun φ1 => [(0, .bool false)]) (fun φ1 => []) (fun φ1 => []) s trivial (fun φ1 => by kernel_rfl) ?_
  intro φ1 w1 s
  refine ops_done (by kernel_rfl) ?_
  refine wp_seq ?_
  refine region_rule ?_
  refine callF_rule (H := []) (F := []) (some 3) s (newWriter_c) (by kernel_rfl) ?_
  rintro v2 I2 w2 F2 le2 ⟨b2, rfl, rfl⟩ s
  refine ops_rule (C := []) [(b2, .cells #[.slice none 0 0, .int .i64 0] 96)] [] 1 [] 0 (fun φ3 => [(1, .pointer (some ⟨b2, 0, none⟩))]) (fun φ3 => [(b2, .cells #[.slice none 0 0, .int .i64 0] 96)]) (fun φ3 => []) s trivial (fun φ3 => by kernel_rfl) ?_
  intro φ3 w3 s
  refine ops_done (by kernel_rfl) ?_
  refine wp_seq ?_
  refine region_rule ?_
  refine ops_rule (C := []) [(b2, .cells #[.slice none 0 0, .int .i64 0] 96)] [] 1 [] 0 (fun φ4 => [(4, .pointer (some ⟨b2, 0, none⟩))]) (fun φ4 => [(b2, .cells #[.slice none 0 0, .int .i64 0] 96)]) (fun φ4 => []) s trivial (fun φ4 => by kernel_rfl) ?_
  intro φ4 w4 s
  refine callH_rule (b := (b2, .cells #[.slice none 0 0, .int .i64 0] 96)) (H := [(b2, .cells #[.slice none 0 0, .int .i64 0] 96)]) (F := []) (Hr := []) (some 5) 0 s (by kernel_rfl) (by kernel_rfl) (numE_c (b := b2) (n := 5) (by have hz5 : (0 : Nat) < (pk (numW 62 2 5)).length := (by decide +kernel);  omega)) (by kernel_rfl) ?_
  rintro v5 I5 w5 b5 F5 le5 - h5 s
  obtain ⟨v5, rfl, rfl, hr5⟩ := h5
  refine ops_done (by kernel_rfl) ?_
  refine wp_seq ?_
  refine region_rule ?_
  refine ops_rule (C := []) [(b2, .cells #[v5, .int .i64 (((List.length (numW 62 2 5)) : Nat) : Int)] 96)] F5 1 [] 0 (fun φ6 => [(6, .pointer (some ⟨b2, 0, none⟩))]) (fun φ6 => [(b2, .cells #[v5, .int .i64 (((List.length (numW 62 2 5)) : Nat) : Int)] 96)]) (fun φ6 => []) s trivial (fun φ6 => by kernel_rfl) ?_
  intro φ6 w6 s
  refine callH_rule (b := (b2, .cells #[v5, .int .i64 (((List.length (numW 62 2 5)) : Nat) : Int)] 96)) (H := [(b2, .cells #[v5, .int .i64 (((List.length (numW 62 2 5)) : Nat) : Int)] 96)]) (F := F5) (Hr := []) (some 7) 0 s (by kernel_rfl) (by kernel_rfl) (bytes_c (b := b2) (cnt := (List.length (numW 62 2 5))) (bs := (numW 62 2 5)) (v0 := v5) (by decide +kernel) (by decide +kernel) hr5) (by kernel_rfl) ?_
  rintro v7 I7 w7 b7 F7 le7 - h7 s
  obtain ⟨a7, c7, rfl, rfl, hr7, h7_0⟩ := h7
  refine ops_rule (C := []) [(b2, .cells #[v5, .int .i64 (((List.length (numW 62 2 5)) : Nat) : Int)] 96)] F7 1 [] 0 (fun φ8 => [(2, .slice a7 (List.length (pk (numW 62 2 5))) c7)]) (fun φ8 => [(b2, .cells #[v5, .int .i64 (((List.length (numW 62 2 5)) : Nat) : Int)] 96)]) (fun φ8 => []) s trivial (fun φ8 => by kernel_rfl) ?_
  intro φ8 w8 s
  refine ops_done (by kernel_rfl) ?_
  refine wp_seq ?_
  refine region_rule ?_
  refine ops_rule (C := []) [(b2, .cells #[v5, .int .i64 (((List.length (numW 62 2 5)) : Nat) : Int)] 96)] F7 4 [] 0 (fun φ9 => [(11, .bool ((((List.length (pk (numW 62 2 5))) : Nat) : Int) == ((1 : Nat) : Int))), (10, .bool ((((List.length (pk (numW 62 2 5))) : Nat) : Int) == ((1 : Nat) : Int))), (9, .int .i64 (((List.length (pk (numW 62 2 5))) : Nat) : Int)), (8, .slice a7 (List.length (pk (numW 62 2 5))) c7)]) (fun φ9 => [(b2, .cells #[v5, .int .i64 (((List.length (numW 62 2 5)) : Nat) : Int)] 96)]) (fun φ9 => []) s trivial (fun φ9 => by kernel_rfl) ?_
  intro φ9 w9 s
  rw [nat_eql (a := (List.length (pk (numW 62 2 5)))) (b := 1)]
  rcases Bool.eq_false_or_eq_true (decide ((List.length (pk (numW 62 2 5))) = 1)) with hc10 | hc10
  ·
    rw [hc10]
    refine ops_rule (C := []) [(b2, .cells #[v5, .int .i64 (((List.length (numW 62 2 5)) : Nat) : Int)] 96)] F7 1 [] 0 (fun φ11 => [(12, .slice a7 (List.length (pk (numW 62 2 5))) c7)]) (fun φ11 => [(b2, .cells #[v5, .int .i64 (((List.length (numW 62 2 5)) : Nat) : Int)] 96)]) (fun φ11 => []) s trivial (fun φ11 => by kernel_rfl) ?_
    intro φ11 w11 s
    refine sem_rule (Instr.indexAt 34 (.slice a7 (List.length (pk (numW 62 2 5))) c7) (.int .i64 ((0 : Nat) : Int))) (some 13) (.pointer (pAt a7 0)) (by kernel_rfl) (bsl_idx h7_0 (by have hz5 : (0 : Nat) < (pk (numW 62 2 5)).length := (by decide +kernel); have hq0 := of_decide_eq_true hc10; omega)) ?_
    refine sem_rule (Instr.loadAt 5 (.pointer (pAt a7 0))) (some 14) (.int .u8 ((((pk (numW 62 2 5)).getD 0 0).toNat : Nat) : Int)) (by kernel_rfl) (bsl_ld s.sub h7_0 (by have hz5 : (0 : Nat) < (pk (numW 62 2 5)).length := (by decide +kernel); have hq0 := of_decide_eq_true hc10; omega)) ?_
    refine ops_rule (C := []) [(b2, .cells #[v5, .int .i64 (((List.length (numW 62 2 5)) : Nat) : Int)] 96)] F7 3 [] 0 (fun φ12 => [(17, .bool (((((pk (numW 62 2 5)).getD 0 0).toNat : Nat) : Int) == ((136 : Nat) : Int))), (16, .bool (((((pk (numW 62 2 5)).getD 0 0).toNat : Nat) : Int) == ((136 : Nat) : Int))), (15, .bool (((((pk (numW 62 2 5)).getD 0 0).toNat : Nat) : Int) == ((136 : Nat) : Int)))]) (fun φ12 => [(b2, .cells #[v5, .int .i64 (((List.length (numW 62 2 5)) : Nat) : Int)] 96)]) (fun φ12 => []) s trivial (fun φ12 => by kernel_rfl) ?_
    intro φ12 w12 s
    rw [nat_eql (a := (((pk (numW 62 2 5)).getD 0 0).toNat)) (b := 136)]
    rcases Bool.eq_false_or_eq_true (decide ((((pk (numW 62 2 5)).getD 0 0).toNat) = 136)) with hc13 | hc13
    ·
      rw [hc13]
      refine ops_rule (C := []) [(b2, .cells #[v5, .int .i64 (((List.length (numW 62 2 5)) : Nat) : Int)] 96)] F7 1 [] 0 (fun φ14 => [(18, .pointer (some ⟨b2, 0, none⟩))]) (fun φ14 => [(b2, .cells #[v5, .int .i64 (((List.length (numW 62 2 5)) : Nat) : Int)] 96)]) (fun φ14 => []) s trivial (fun φ14 => by kernel_rfl) ?_
      intro φ14 w14 s
      refine callB_rule (b := (b2, .cells #[v5, .int .i64 (((List.length (numW 62 2 5)) : Nat) : Int)] 96)) (H := [(b2, .cells #[v5, .int .i64 (((List.length (numW 62 2 5)) : Nat) : Int)] 96)]) (F := F7) (Hr := []) (some 19) 0 s (by kernel_rfl) (by kernel_rfl) (len_c (b := b2) (cnt := (List.length (numW 62 2 5))) (v0 := v5)) (by kernel_rfl) ?_
      rintro v15 I15 w15 b15 le15 - h15 s
      replace h7_0 := BSl.mono le15 h7_0
      obtain ⟨rfl, rfl⟩ := h15
      refine ops_rule (C := []) [(b2, .cells #[v5, .int .i64 (((List.length (numW 62 2 5)) : Nat) : Int)] 96)] F7 3 [] 0 (fun φ16 => [(0, .bool ((((List.length (numW 62 2 5)) : Nat) : Int) == ((5 : Nat) : Int))), (21, .bool ((((List.length (numW 62 2 5)) : Nat) : Int) == ((5 : Nat) : Int))), (20, .bool ((((List.length (numW 62 2 5)) : Nat) : Int) == ((5 : Nat) : Int)))]) (fun φ16 => [(b2, .cells #[v5, .int .i64 (((List.length (numW 62 2 5)) : Nat) : Int)] 96)]) (fun φ16 => []) s trivial (fun φ16 => by kernel_rfl) ?_
      intro φ16 w16 s
      rw [nat_eql (a := (List.length (numW 62 2 5))) (b := 5)]
      refine ops_done (by kernel_rfl) ?_
      refine wp_ret ?_
      refine ret_rule (C := []) [(b2, .cells #[v5, .int .i64 (((List.length (numW 62 2 5)) : Nat) : Int)] 96)] F7 (.bool (decide ((List.length (numW 62 2 5)) = 5))) [] [] s trivial (by kernel_rfl) ?_
      exact ⟨_, _, _, rfl, s, (congrArg Value.bool (decide_eq_true (by decide +kernel)))⟩
    ·
      exact absurd (of_decide_eq_false hc13) (fun h => h (by decide +kernel))
  ·
    exact absurd (of_decide_eq_false hc10) (fun h => h (by decide +kernel))

end Go.Proofs.Ytpnlaeapnokipaa
