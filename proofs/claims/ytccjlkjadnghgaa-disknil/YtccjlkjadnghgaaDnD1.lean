/- A disk is made, armed, counted. -/
import Derived.Test.YtccjlkjadnghgaaDnM2
set_option linter.all false
set_option maxRecDepth 100000
namespace Go.Proofs.Ytccjlkjadnghgaa
open Go.RowKit Go.Sep
attribute [local irreducible] Go.wpList Go.Code.wp

set_option maxHeartbeats 400000 in
theorem count_c {I : IM} {d m room used armed torn : Nat} {full : Bool} (ha : armed ≤ 9223372036854775807) : FunM Try.prog 38 #[.pointer (some ⟨d, 4, none⟩)] I [(d, .cells #[.map (some m), .int .i64 ((room : Nat) : Int), .int .i64 ((used : Nat) : Int), .bool full, .bool false, .int .i64 ((armed : Nat) : Int), .int .i64 ((torn : Nat) : Int)] 70)] (fun v J F => ∃ b' : OB, F = [b'] ∧ b'.1 = d ∧ v = .int .i64 ((cntE armed : Nat) : Int) ∧ b' = (d, .cells #[.map (some m), .int .i64 ((room : Nat) : Int), .int .i64 ((used : Nat) : Int), .bool full, .bool (decide (armed = 1)), .int .i64 ((armed - 1 : Nat) : Int), .int .i64 ((torn : Nat) : Int)] 70)) := by
  refine enterM_rule 23 [(0, .pointer (some ⟨d, 4, none⟩))] Try.func38 rfl (by kernel_rfl) ?_
  intro w s
  refine wp_seq ?_
  refine region_rule ?_
  refine ops_rule (C := []) [(d, .cells #[.map (some m), .int .i64 ((room : Nat) : Int), .int .i64 ((used : Nat) : Int), .bool full, .bool false, .int .i64 ((armed : Nat) : Int), .int .i64 ((torn : Nat) : Int)] 70)] [] 1 [] 0 (fun φ1 => [(2, .int .i64 0)]) (fun φ1 => [(d, .cells #[.map (some m), .int .i64 ((room : Nat) : Int), .int .i64 ((used : Nat) : Int), .bool full, .bool false, .int .i64 ((armed : Nat) : Int), .int .i64 ((torn : Nat) : Int)] 70)]) (fun φ1 => []) s trivial (fun φ1 => by kernel_rfl) ?_
  intro φ1 w1 s
  refine ops_done (by kernel_rfl) ?_
  refine wp_seq ?_
  refine wp_seq ?_
  refine region_rule ?_
  refine ops_rule (C := []) [(d, .cells #[.map (some m), .int .i64 ((room : Nat) : Int), .int .i64 ((used : Nat) : Int), .bool full, .bool false, .int .i64 ((armed : Nat) : Int), .int .i64 ((torn : Nat) : Int)] 70)] [] 5 [.o 0] 0 (fun φ2 => [(7, .bool (((armed : Nat) : Int) == ((0 : Nat) : Int))), (6, .int .i64 ((armed : Nat) : Int)), (5, .pointer (some ⟨d, 5, none⟩)), (4, .pointer (some ⟨d, 4, none⟩)), (3, .pointer (some ⟨d, 4, none⟩))]) (fun φ2 => [(d, .cells #[.map (some m), .int .i64 ((room : Nat) : Int), .int .i64 ((used : Nat) : Int), .bool full, .bool false, .int .i64 ((armed : Nat) : Int), .int .i64 ((torn : Nat) : Int)] 70)]) (fun φ2 => [d]) s trivial (fun φ2 => by kernel_rfl) ?_
  intro φ2 w2 s
  rw [nat_eql (a := armed) (b := 0)]
  refine ops_done (by kernel_rfl) ?_
  rcases Bool.eq_false_or_eq_true (decide (armed = 0)) with hc3 | hc3
  ·
    rw [hc3]
    refine cond_true_rule (b := true) (by kernel_rfl) rfl ?_
    refine wp_seq ?_
    refine region_rule ?_
    refine ops_rule (C := []) [(d, .cells #[.map (some m), .int .i64 ((room : Nat) : Int), .int .i64 ((used : Nat) : Int), .bool full, .bool false, .int .i64 ((armed : Nat) : Int), .int .i64 ((torn : Nat) : Int)] 70)] [] 1 [] 0 (fun φ4 => [(2, .int .i64 0)]) (fun φ4 => [(d, .cells #[.map (some m), .int .i64 ((room : Nat) : Int), .int .i64 ((used : Nat) : Int), .bool full, .bool false, .int .i64 ((armed : Nat) : Int), .int .i64 ((torn : Nat) : Int)] 70)]) (fun φ4 => []) s trivial (fun φ4 => by kernel_rfl) ?_
    intro φ4 w4 s
    refine ops_done (by kernel_rfl) ?_
    refine wp_ret ?_
    refine ret_rule (C := []) [(d, .cells #[.map (some m), .int .i64 ((room : Nat) : Int), .int .i64 ((used : Nat) : Int), .bool full, .bool false, .int .i64 ((armed : Nat) : Int), .int .i64 ((torn : Nat) : Int)] 70)] [] (.int .i64 0) [] [] s trivial (by kernel_rfl) ?_
    replace s := s.drop (List.Sublist.append (List.Sublist.cons₂ _ List.Sublist.slnil) (List.Sublist.refl []))
    obtain rfl := of_decide_eq_true hc3
    exact ⟨_, _, _, rfl, s, ⟨_, rfl, rfl, rfl, rfl⟩⟩
  ·
    rw [hc3]
    refine cond_false_rule (b := false) (by kernel_rfl) rfl ?_
    refine wp_skip ?_
    refine wp_seq ?_
    refine region_rule ?_
    refine ops_rule (C := []) [(d, .cells #[.map (some m), .int .i64 ((room : Nat) : Int), .int .i64 ((used : Nat) : Int), .bool full, .bool false, .int .i64 ((armed : Nat) : Int), .int .i64 ((torn : Nat) : Int)] 70)] [] 8 [.o 0, .o 0] 0 (fun φ5 => [(14, .pointer (some ⟨d, 5, none⟩)), (13, .pointer (some ⟨d, 4, none⟩)), (12, .int .i64 (IntKind.wrap .i64 (((armed : Nat) : Int) - ((1 : Nat) : Int)))), (11, .int .i64 ((armed : Nat) : Int)), (10, .pointer (some ⟨d, 5, none⟩)), (9, .pointer (some ⟨d, 4, none⟩)), (8, .pointer (some ⟨d, 4, none⟩))]) (fun φ5 => [(d, .cells #[.map (some m), .int .i64 ((room : Nat) : Int), .int .i64 ((used : Nat) : Int), .bool full, .bool false, .int .i64 (IntKind.wrap .i64 (((armed : Nat) : Int) - ((1 : Nat) : Int))), .int .i64 ((torn : Nat) : Int)] 70)]) (fun φ5 => [d, d]) s trivial (fun φ5 => by kernel_rfl) ?_
    intro φ5 w5 s
    rw [nat_subI (a := armed) (b := 1) (by  have hq0 := of_decide_eq_false hc3; omega) (by  have hq0 := of_decide_eq_false hc3; omega)] at s ⊢
    refine ops_done (by kernel_rfl) ?_
    refine wp_seq ?_
    refine wp_seq ?_
    refine region_rule ?_
    refine ops_rule (C := []) [(d, .cells #[.map (some m), .int .i64 ((room : Nat) : Int), .int .i64 ((used : Nat) : Int), .bool full, .bool false, .int .i64 ((armed - 1 : Nat) : Int), .int .i64 ((torn : Nat) : Int)] 70)] [] 5 [.o 0] 0 (fun φ6 => [(19, .bool (decide (((armed - 1 : Nat) : Int) > ((0 : Nat) : Int)))), (18, .int .i64 ((armed - 1 : Nat) : Int)), (17, .pointer (some ⟨d, 5, none⟩)), (16, .pointer (some ⟨d, 4, none⟩)), (15, .pointer (some ⟨d, 4, none⟩))]) (fun φ6 => [(d, .cells #[.map (some m), .int .i64 ((room : Nat) : Int), .int .i64 ((used : Nat) : Int), .bool full, .bool false, .int .i64 ((armed - 1 : Nat) : Int), .int .i64 ((torn : Nat) : Int)] 70)]) (fun φ6 => [d]) s trivial (fun φ6 => by kernel_rfl) ?_
    intro φ6 w6 s
    rw [nat_gtr (a := (armed - 1)) (b := 0)]
    refine ops_done (by kernel_rfl) ?_
    rcases Bool.eq_false_or_eq_true (decide (0 < (armed - 1))) with hc7 | hc7
    ·
      rw [hc7]
      refine cond_true_rule (b := true) (by kernel_rfl) rfl ?_
      refine wp_seq ?_
      refine region_rule ?_
      refine ops_rule (C := []) [(d, .cells #[.map (some m), .int .i64 ((room : Nat) : Int), .int .i64 ((used : Nat) : Int), .bool full, .bool false, .int .i64 ((armed - 1 : Nat) : Int), .int .i64 ((torn : Nat) : Int)] 70)] [] 1 [] 0 (fun φ8 => [(2, .int .i64 0)]) (fun φ8 => [(d, .cells #[.map (some m), .int .i64 ((room : Nat) : Int), .int .i64 ((used : Nat) : Int), .bool full, .bool false, .int .i64 ((armed - 1 : Nat) : Int), .int .i64 ((torn : Nat) : Int)] 70)]) (fun φ8 => []) s trivial (fun φ8 => by kernel_rfl) ?_
      intro φ8 w8 s
      refine ops_done (by kernel_rfl) ?_
      refine wp_ret ?_
      refine ret_rule (C := []) [(d, .cells #[.map (some m), .int .i64 ((room : Nat) : Int), .int .i64 ((used : Nat) : Int), .bool full, .bool false, .int .i64 ((armed - 1 : Nat) : Int), .int .i64 ((torn : Nat) : Int)] 70)] [] (.int .i64 0) [] [] s trivial (by kernel_rfl) ?_
      replace s := s.drop (List.Sublist.append (List.Sublist.cons₂ _ List.Sublist.slnil) (List.Sublist.refl []))
      have h1 := of_decide_eq_false hc3
      have h2 := of_decide_eq_true hc7
      have e1 : cntE armed = 0 := if_neg (by omega)
      have e2 : decide (armed = 1) = false := decide_eq_false (by omega)
      exact ⟨_, _, _, rfl, s, ⟨_, rfl, rfl, by rw [e1]; rfl, by rw [e2]⟩⟩
    ·
      rw [hc7]
      refine cond_false_rule (b := false) (by kernel_rfl) rfl ?_
      refine wp_skip ?_
      refine wp_seq ?_
      refine region_rule ?_
      refine ops_rule (C := []) [(d, .cells #[.map (some m), .int .i64 ((room : Nat) : Int), .int .i64 ((used : Nat) : Int), .bool full, .bool false, .int .i64 ((armed - 1 : Nat) : Int), .int .i64 ((torn : Nat) : Int)] 70)] [] 4 [.o 0] 0 (fun φ9 => [(22, .pointer (some ⟨d, 4, none⟩)), (21, .pointer (some ⟨d, 4, none⟩)), (20, .pointer (some ⟨d, 4, none⟩))]) (fun φ9 => [(d, .cells #[.map (some m), .int .i64 ((room : Nat) : Int), .int .i64 ((used : Nat) : Int), .bool full, .bool true, .int .i64 ((armed - 1 : Nat) : Int), .int .i64 ((torn : Nat) : Int)] 70)]) (fun φ9 => [d]) s trivial (fun φ9 => by kernel_rfl) ?_
      intro φ9 w9 s
      refine ops_done (by kernel_rfl) ?_
      refine wp_seq ?_
      refine region_rule ?_
      refine ops_rule (C := []) [(d, .cells #[.map (some m), .int .i64 ((room : Nat) : Int), .int .i64 ((used : Nat) : Int), .bool full, .bool true, .int .i64 ((armed - 1 : Nat) : Int), .int .i64 ((torn : Nat) : Int)] 70)] [] 1 [] 0 (fun φ10 => [(2, .int .i64 10)]) (fun φ10 => [(d, .cells #[.map (some m), .int .i64 ((room : Nat) : Int), .int .i64 ((used : Nat) : Int), .bool full, .bool true, .int .i64 ((armed - 1 : Nat) : Int), .int .i64 ((torn : Nat) : Int)] 70)]) (fun φ10 => []) s trivial (fun φ10 => by kernel_rfl) ?_
      intro φ10 w10 s
      refine ops_done (by kernel_rfl) ?_
      refine wp_ret ?_
      refine ret_rule (C := []) [(d, .cells #[.map (some m), .int .i64 ((room : Nat) : Int), .int .i64 ((used : Nat) : Int), .bool full, .bool true, .int .i64 ((armed - 1 : Nat) : Int), .int .i64 ((torn : Nat) : Int)] 70)] [] (.int .i64 10) [] [] s trivial (by kernel_rfl) ?_
      replace s := s.drop (List.Sublist.append (List.Sublist.cons₂ _ List.Sublist.slnil) (List.Sublist.refl []))
      have h1 := of_decide_eq_false hc3
      have h2 := of_decide_eq_false hc7
      obtain rfl : armed = 1 := by omega
      exact ⟨_, _, _, rfl, s, ⟨_, rfl, rfl, rfl, rfl⟩⟩

set_option maxHeartbeats 400000 in
theorem has_c {I : IM} {m clk k : Nat} {arr : Array MapEntry} {v0 : Value} {r : Bool} (hm : I m = some (.map arr clk)) (hl : ∀ w clk, w.heap[m]? = some (.map arr clk) → (Instr.lookup 66 (.map (some m)) (.int .u64 ((k : Nat) : Int)) true).run Try.prog w = .ok (.tuple #[v0, .bool r]) w) : Fun Try.prog 37 #[.map (some m), .int .u64 ((k : Nat) : Int)] I (fun v J => v = .bool r) := by
  refine enter_rule 14 [(0, .map (some m)), (1, .int .u64 ((k : Nat) : Int))] Try.func37 rfl (by kernel_rfl) ?_
  intro w s
  refine wp_seq ?_
  refine region_rule ?_
  refine ops_rule (C := []) [] [] 1 [] 0 (fun φ1 => [(4, .bool false)]) (fun φ1 => []) (fun φ1 => []) s trivial (fun φ1 => by kernel_rfl) ?_
  intro φ1 w1 s
  refine ops_done (by kernel_rfl) ?_
  refine wp_seq ?_
  refine region_rule ?_
  refine ops_rule (C := []) [] [] 2 [] 0 (fun φ2 => [(9, .int .u64 ((k : Nat) : Int)), (8, .map (some m))]) (fun φ2 => []) (fun φ2 => []) s trivial (fun φ2 => by kernel_rfl) ?_
  intro φ2 w2 s
  refine sem_rule (Instr.lookup 66 (.map (some m)) (.int .u64 ((k : Nat) : Int)) true) (some 10) (.tuple #[v0, .bool r]) (by kernel_rfl) (hl _ clk (s.sub _ _ hm)) ?_
  refine ops_rule (C := []) [] [] 5 [] 0 (fun φ3 => [(6, .bool r), (5, v0), (12, .bool r), (11, v0), (7, .tuple #[v0, .bool r])]) (fun φ3 => []) (fun φ3 => []) s trivial (fun φ3 => by kernel_rfl) ?_
  intro φ3 w3 s
  refine ops_done (by kernel_rfl) ?_
  refine wp_seq ?_
  refine region_rule ?_
  refine ops_rule (C := []) [] [] 2 [] 0 (fun φ4 => [(4, .bool r), (13, .bool r)]) (fun φ4 => []) (fun φ4 => []) s trivial (fun φ4 => by kernel_rfl) ?_
  intro φ4 w4 s
  refine ops_done (by kernel_rfl) ?_
  refine wp_ret ?_
  refine ret_rule (C := []) [] [] (.bool r) [] [] s trivial (by kernel_rfl) ?_
  exact ⟨_, _, _, rfl, s, rfl⟩

theorem max_zero (n : Nat) : max n 0 = n := by omega
set_option maxHeartbeats 400000 in
theorem newN_c {I : IM} {n : Nat} : FunM Try.prog 9 #[.int .i64 ((n : Nat) : Int)] I [] (fun v J F => ∃ d m : Nat, v = .pointer (some ⟨d, 0, none⟩) ∧ F = [(d, .cells #[.map (some m), .int .i64 ((n : Nat) : Int), .int .i64 0, .bool false, .bool false, .int .i64 0, .int .i64 0] 70), (m, .map #[] 0)]) := by
  refine enterM_rule 8 [(0, .int .i64 ((n : Nat) : Int))] Try.func9 rfl (by kernel_rfl) ?_
  intro w s
  refine wp_seq ?_
  refine region_rule ?_
  refine ops_rule (C := []) [] [] 1 [] 0 (fun φ1 => [(2, .pointer none)]) (fun φ1 => []) (fun φ1 => []) s trivial (fun φ1 => by kernel_rfl) ?_
  intro φ1 w1 s
  refine ops_done (by kernel_rfl) ?_
  refine wp_seq ?_
  refine region_rule ?_
  refine ops_rule (C := []) [] [] 6 [] 2 (fun φ2 => [(2, .pointer (some ⟨(φ2 1), 0, none⟩)), (7, .pointer (some ⟨(φ2 1), 0, none⟩)), (6, .agg #[.map (some (φ2 0)), .int .i64 (if ((0 : Nat) : Int) > ((n : Nat) : Int) then ((0 : Nat) : Int) else ((n : Nat) : Int)), .int .i64 0, .bool false, .bool false, .int .i64 0, .int .i64 0]), (5, .int .i64 (if ((0 : Nat) : Int) > ((n : Nat) : Int) then ((0 : Nat) : Int) else ((n : Nat) : Int))), (4, .int .i64 ((n : Nat) : Int)), (3, .map (some (φ2 0)))]) (fun φ2 => [((φ2 0), .map #[] 0), ((φ2 1), .cells #[.map (some (φ2 0)), .int .i64 (if ((0 : Nat) : Int) > ((n : Nat) : Int) then ((0 : Nat) : Int) else ((n : Nat) : Int)), .int .i64 0, .bool false, .bool false, .int .i64 0, .int .i64 0] 70)]) (fun φ2 => []) s trivial (fun φ2 => by kernel_rfl) ?_
  intro φ2 w2 s
  rw [nat_max (a := n) (b := 0)] at s ⊢
  refine ops_done (by kernel_rfl) ?_
  refine wp_ret ?_
  refine ret_rule (C := []) [((φ2 0), .map #[] 0), ((φ2 1), .cells #[.map (some (φ2 0)), .int .i64 ((max n 0 : Nat) : Int), .int .i64 0, .bool false, .bool false, .int .i64 0, .int .i64 0] 70)] [] (.pointer (some ⟨(φ2 1), 0, none⟩)) [] [] s trivial (by kernel_rfl) ?_
  rw [max_zero] at s
  replace s := s.perm (H' := [((φ2 1), .cells #[.map (some (φ2 0)), .int .i64 ((n : Nat) : Int), .int .i64 0, .bool false, .bool false, .int .i64 0, .int .i64 0] 70), ((φ2 0), .map #[] 0)]) (List.Perm.swap _ _ _)
  exact ⟨_, _, _, rfl, s, ⟨_, _, rfl, rfl⟩⟩

set_option maxHeartbeats 400000 in
theorem newZ_c {I : IM} {z : Int} : FunM Try.prog 9 #[.int .i64 z] I [] (fun v J F => ∃ d m : Nat, v = .pointer (some ⟨d, 0, none⟩) ∧ F = [(d, .cells #[.map (some m), .int .i64 (if 0 > z then 0 else z), .int .i64 0, .bool false, .bool false, .int .i64 0, .int .i64 0] 70), (m, .map #[] 0)]) := by
  refine enterM_rule 8 [(0, .int .i64 z)] Try.func9 rfl (by kernel_rfl) ?_
  intro w s
  refine wp_seq ?_
  refine region_rule ?_
  refine ops_rule (C := []) [] [] 1 [] 0 (fun φ1 => [(2, .pointer none)]) (fun φ1 => []) (fun φ1 => []) s trivial (fun φ1 => by kernel_rfl) ?_
  intro φ1 w1 s
  refine ops_done (by kernel_rfl) ?_
  refine wp_seq ?_
  refine region_rule ?_
  refine ops_rule (C := []) [] [] 6 [] 2 (fun φ2 => [(2, .pointer (some ⟨(φ2 1), 0, none⟩)), (7, .pointer (some ⟨(φ2 1), 0, none⟩)), (6, .agg #[.map (some (φ2 0)), .int .i64 (if ((0 : Nat) : Int) > z then ((0 : Nat) : Int) else z), .int .i64 0, .bool false, .bool false, .int .i64 0, .int .i64 0]), (5, .int .i64 (if ((0 : Nat) : Int) > z then ((0 : Nat) : Int) else z)), (4, .int .i64 z), (3, .map (some (φ2 0)))]) (fun φ2 => [((φ2 0), .map #[] 0), ((φ2 1), .cells #[.map (some (φ2 0)), .int .i64 (if ((0 : Nat) : Int) > z then ((0 : Nat) : Int) else z), .int .i64 0, .bool false, .bool false, .int .i64 0, .int .i64 0] 70)]) (fun φ2 => []) s trivial (fun φ2 => by kernel_rfl) ?_
  intro φ2 w2 s
  refine ops_done (by kernel_rfl) ?_
  refine wp_ret ?_
  refine ret_rule (C := []) [((φ2 0), .map #[] 0), ((φ2 1), .cells #[.map (some (φ2 0)), .int .i64 (if ((0 : Nat) : Int) > z then ((0 : Nat) : Int) else z), .int .i64 0, .bool false, .bool false, .int .i64 0, .int .i64 0] 70)] [] (.pointer (some ⟨(φ2 1), 0, none⟩)) [] [] s trivial (by kernel_rfl) ?_
  replace s := s.perm (H' := [((φ2 1), .cells #[.map (some (φ2 0)), .int .i64 (if ((0 : Nat) : Int) > z then ((0 : Nat) : Int) else z), .int .i64 0, .bool false, .bool false, .int .i64 0, .int .i64 0] 70), ((φ2 0), .map #[] 0)]) (List.Perm.swap _ _ _)
  exact ⟨_, _, _, rfl, s, ⟨_, _, rfl, rfl⟩⟩

set_option maxHeartbeats 400000 in
theorem up_c {I : IM} {d m room used armed torn : Nat} {full off : Bool} : FunM Try.prog 19 #[.pointer (some ⟨d, 0, none⟩)] I [(d, .cells #[.map (some m), .int .i64 ((room : Nat) : Int), .int .i64 ((used : Nat) : Int), .bool full, .bool off, .int .i64 ((armed : Nat) : Int), .int .i64 ((torn : Nat) : Int)] 70)] (fun v J F => ∃ b' : OB, F = [b'] ∧ b'.1 = d ∧ v = .bool (!(off)) ∧ b' = (d, .cells #[.map (some m), .int .i64 ((room : Nat) : Int), .int .i64 ((used : Nat) : Int), .bool full, .bool off, .int .i64 ((armed : Nat) : Int), .int .i64 ((torn : Nat) : Int)] 70)) := by
  refine enterM_rule 13 [(0, .pointer (some ⟨d, 0, none⟩))] Try.func19 rfl (by kernel_rfl) ?_
  intro w s
  refine wp_seq ?_
  refine region_rule ?_
  refine ops_rule (C := []) [(d, .cells #[.map (some m), .int .i64 ((room : Nat) : Int), .int .i64 ((used : Nat) : Int), .bool full, .bool off, .int .i64 ((armed : Nat) : Int), .int .i64 ((torn : Nat) : Int)] 70)] [] 1 [] 0 (fun φ1 => [(2, .bool false)]) (fun φ1 => [(d, .cells #[.map (some m), .int .i64 ((room : Nat) : Int), .int .i64 ((used : Nat) : Int), .bool full, .bool off, .int .i64 ((armed : Nat) : Int), .int .i64 ((torn : Nat) : Int)] 70)]) (fun φ1 => []) s trivial (fun φ1 => by kernel_rfl) ?_
  intro φ1 w1 s
  refine ops_done (by kernel_rfl) ?_
  refine wp_seq ?_
  refine region_rule ?_
  refine ops_rule (C := []) [(d, .cells #[.map (some m), .int .i64 ((room : Nat) : Int), .int .i64 ((used : Nat) : Int), .bool full, .bool off, .int .i64 ((armed : Nat) : Int), .int .i64 ((torn : Nat) : Int)] 70)] [] 11 [.o 0] 0 (fun φ2 => [(2, .bool (!(off))), (12, .bool (!(off))), (11, .bool (!(off))), (10, .bool off), (9, .pointer (some ⟨d, 4, none⟩)), (8, .pointer (some ⟨d, 4, none⟩)), (7, .pointer (some ⟨d, 0, none⟩)), (6, .pointer (some ⟨d, 0, none⟩)), (5, .bool true), (4, .bool true), (3, .pointer (some ⟨d, 0, none⟩))]) (fun φ2 => [(d, .cells #[.map (some m), .int .i64 ((room : Nat) : Int), .int .i64 ((used : Nat) : Int), .bool full, .bool off, .int .i64 ((armed : Nat) : Int), .int .i64 ((torn : Nat) : Int)] 70)]) (fun φ2 => [d]) s trivial (fun φ2 => by kernel_rfl) ?_
  intro φ2 w2 s
  refine ops_done (by kernel_rfl) ?_
  refine wp_ret ?_
  refine ret_rule (C := []) [(d, .cells #[.map (some m), .int .i64 ((room : Nat) : Int), .int .i64 ((used : Nat) : Int), .bool full, .bool off, .int .i64 ((armed : Nat) : Int), .int .i64 ((torn : Nat) : Int)] 70)] [] (.bool (!(off))) [] [] s trivial (by kernel_rfl) ?_
  replace s := s.drop (List.Sublist.append (List.Sublist.cons₂ _ List.Sublist.slnil) (List.Sublist.refl []))
  exact ⟨_, _, _, rfl, s, ⟨_, rfl, rfl, rfl, rfl⟩⟩

theorem if_toNat {z : Int} : (if ((0 : Nat) : Int) > z then ((0 : Nat) : Int) else z) = ((z.toNat : Nat) : Int) := by split <;> omega
set_option maxHeartbeats 400000 in
theorem arm_c {I : IM} {d m room used armed torn : Nat} {full off : Bool} {n : Nat} {z : Int} : FunM Try.prog 15 #[.pointer (some ⟨d, 0, none⟩), .int .i64 ((n : Nat) : Int), .int .i64 z] I [(d, .cells #[.map (some m), .int .i64 ((room : Nat) : Int), .int .i64 ((used : Nat) : Int), .bool full, .bool off, .int .i64 ((armed : Nat) : Int), .int .i64 ((torn : Nat) : Int)] 70)] (fun v J F => ∃ b' : OB, F = [b'] ∧ b'.1 = d ∧ v = .tuple #[] ∧ b' = (d, .cells #[.map (some m), .int .i64 ((room : Nat) : Int), .int .i64 ((used : Nat) : Int), .bool full, .bool off, .int .i64 ((n : Nat) : Int), .int .i64 ((z.toNat : Nat) : Int)] 70)) := by
  refine enterM_rule 20 [(0, .pointer (some ⟨d, 0, none⟩)), (1, .int .i64 ((n : Nat) : Int)), (2, .int .i64 z)] Try.func15 rfl (by kernel_rfl) ?_
  intro w s
  refine wp_seq ?_
  refine region_rule ?_
  refine ops_rule (C := []) [(d, .cells #[.map (some m), .int .i64 ((room : Nat) : Int), .int .i64 ((used : Nat) : Int), .bool full, .bool off, .int .i64 ((armed : Nat) : Int), .int .i64 ((torn : Nat) : Int)] 70)] [] 2 [] 0 (fun φ1 => [(7, .bool true), (6, .pointer (some ⟨d, 0, none⟩))]) (fun φ1 => [(d, .cells #[.map (some m), .int .i64 ((room : Nat) : Int), .int .i64 ((used : Nat) : Int), .bool full, .bool off, .int .i64 ((armed : Nat) : Int), .int .i64 ((torn : Nat) : Int)] 70)]) (fun φ1 => []) s trivial (fun φ1 => by kernel_rfl) ?_
  intro φ1 w1 s
  refine ops_done (by kernel_rfl) ?_
  refine cond_true_rule (b := true) (by kernel_rfl) rfl ?_
  refine region_rule ?_
  refine ops_rule (C := []) [(d, .cells #[.map (some m), .int .i64 ((room : Nat) : Int), .int .i64 ((used : Nat) : Int), .bool full, .bool off, .int .i64 ((armed : Nat) : Int), .int .i64 ((torn : Nat) : Int)] 70)] [] 14 [.o 0, .o 0] 0 (fun φ2 => [(19, .pointer (some ⟨d, 6, none⟩)), (18, .pointer (some ⟨d, 4, none⟩)), (17, .pointer (some ⟨d, 0, none⟩)), (16, .pointer (some ⟨d, 5, none⟩)), (15, .pointer (some ⟨d, 4, none⟩)), (14, .pointer (some ⟨d, 0, none⟩)), (13, .int .i64 (if ((0 : Nat) : Int) > z then ((0 : Nat) : Int) else z)), (12, .int .i64 z), (11, .int .i64 (if ((0 : Nat) : Int) > ((n : Nat) : Int) then ((0 : Nat) : Int) else ((n : Nat) : Int))), (10, .int .i64 ((n : Nat) : Int)), (9, .pointer (some ⟨d, 0, none⟩)), (8, .pointer (some ⟨d, 0, none⟩))]) (fun φ2 => [(d, .cells #[.map (some m), .int .i64 ((room : Nat) : Int), .int .i64 ((used : Nat) : Int), .bool full, .bool off, .int .i64 (if ((0 : Nat) : Int) > ((n : Nat) : Int) then ((0 : Nat) : Int) else ((n : Nat) : Int)), .int .i64 (if ((0 : Nat) : Int) > z then ((0 : Nat) : Int) else z)] 70)]) (fun φ2 => [d, d]) s trivial (fun φ2 => by kernel_rfl) ?_
  intro φ2 w2 s
  rw [nat_max (a := n) (b := 0)] at s ⊢
  refine ops_done (by kernel_rfl) ?_
  refine end_rule (C := []) [(d, .cells #[.map (some m), .int .i64 ((room : Nat) : Int), .int .i64 ((used : Nat) : Int), .bool full, .bool off, .int .i64 ((max n 0 : Nat) : Int), .int .i64 (if ((0 : Nat) : Int) > z then ((0 : Nat) : Int) else z)] 70)] [] (.tuple #[]) [] [] s trivial (by kernel_rfl) ?_
  replace s := s.drop (List.Sublist.append (List.Sublist.cons₂ _ List.Sublist.slnil) (List.Sublist.refl []))
  exact ⟨_, _, _, rfl, s, ⟨_, rfl, rfl, rfl, by rw [max_zero, if_toNat]⟩⟩

end Go.Proofs.Ytccjlkjadnghgaa
