/- The program's Quote. -/
import Derived.Test.YtgmigcmhnmmdkaaDoorTfT7
set_option linter.all false
set_option maxRecDepth 100000
namespace Go.Proofs.YtgmigcmhnmmdkaaDoor
open Go.RowKit Go.Sep
attribute [local irreducible] Go.wpList Go.Code.wp

set_option maxHeartbeats 2000000 in
theorem quote_c {I : IM} {l : List UInt8} (hn : l.length ≤ 1000000) : Fun Tryd.prog 29 #[.string ⟨(l).toArray⟩] I (fun v J => v = .string ⟨(quoteS l).toArray⟩) := by
  refine enter_rule 19 [(0, .string ⟨(l).toArray⟩)] Tryd.func29 rfl (by kernel_rfl) ?_
  intro w s
  have hs0 := s.sub
  refine wp_seq ?_
  refine region_rule ?_
  refine ops_rule (C := []) [] [] 1 [] 0 (fun φ1 => [(2, .string ⟨#[]⟩)]) (fun φ1 => []) (fun φ1 => []) s trivial (fun φ1 => by kernel_rfl) ?_
  intro φ1 w1 s
  refine ops_done (by kernel_rfl) ?_
  refine wp_seq ?_
  refine wp_seq ?_
  refine region_rule ?_
  refine ops_rule (C := []) [] [] 1 [] 0 (fun φ2 => [(5, .string ⟨(l).toArray⟩)]) (fun φ2 => []) (fun φ2 => []) s trivial (fun φ2 => by kernel_rfl) ?_
  intro φ2 w2 s
  refine sem_rule (binOp .eql 9 (.string ⟨(l).toArray⟩) (.string ⟨(([] : List UInt8)).toArray⟩)) (some 6) (.bool (decide (l = ([] : List UInt8)))) (by kernel_rfl) (run_eqS (x := l) (y := ([] : List UInt8))) ?_
  refine ops_done (by kernel_rfl) ?_
  rcases Bool.eq_false_or_eq_true (decide (l = ([] : List UInt8))) with hc3 | hc3
  ·
    rw [hc3]
    refine cond_true_rule (b := true) (by kernel_rfl) rfl ?_
    refine wp_seq ?_
    refine region_rule ?_
    refine ops_rule (C := []) [] [] 1 [] 0 (fun φ4 => [(2, .string ⟨#[92, 45]⟩)]) (fun φ4 => []) (fun φ4 => []) s trivial (fun φ4 => by kernel_rfl) ?_
    intro φ4 w4 s
    refine ops_done (by kernel_rfl) ?_
    refine wp_ret ?_
    refine ret_rule (C := []) [] [] (.string ⟨#[92, 45]⟩) [] [] s trivial (by kernel_rfl) ?_
    exact ⟨_, _, _, rfl, s, (congrArg (fun q : List UInt8 => Value.string ⟨q.toArray⟩) (quoteS_e (of_decide_eq_true hc3)))⟩
  ·
    rw [hc3]
    refine cond_false_rule (b := false) (by kernel_rfl) rfl ?_
    refine wp_skip ?_
    refine wp_seq ?_
    refine region_rule ?_
    refine ops_rule (C := []) [] [] 1 [] 1 (fun φ5 => [(3, .pointer (some ⟨(φ5 0), 0, none⟩))]) (fun φ5 => [((φ5 0), .cells #[.pointer none, .slice none 0 0] 100)]) (fun φ5 => []) s trivial (fun φ5 => by kernel_rfl) ?_
    intro φ5 w5 s
    refine ops_done (by kernel_rfl) ?_
    refine wp_seq ?_
    refine wp_seq ?_
    refine region_rule ?_
    refine ops_rule (C := []) [((φ5 0), .cells #[.pointer none, .slice none 0 0] 100)] [] 3 [] 0 (fun φ6 => [(9, .int .i64 0), (8, .int .i64 ((l.length : Nat) : Int)), (7, .string ⟨(l).toArray⟩)]) (fun φ6 => [((φ5 0), .cells #[.pointer none, .slice none 0 0] 100)]) (fun φ6 => []) s trivial (fun φ6 => by kernel_rfl) ?_
    intro φ6 w6 s
    refine ops_done (by kernel_rfl) ?_
    refine wp_block ?_
    have hle7 := IM.Le.refl I
    refine loop_rule (fun (x : Nat × Value × Value × List OB) => [(0, .string ⟨(l).toArray⟩), (2, .string ⟨#[]⟩), (3, .pointer (some ⟨(φ5 0), 0, none⟩)), (8, .int .i64 ((l.length : Nat) : Int)), (9, .int .i64 ((x.1 : Nat) : Int))]) (fun (x : Nat × Value × Value × List OB) => [((φ5 0), .cells #[x.2.1, x.2.2.1] 100)] ++ x.2.2.2) (fun m (x : Nat × Value × Value × List OB) J => IM.Le I J ∧ x.1 + m = l.length ∧ (x.2.1 = .pointer none ∨ x.2.1 = .pointer (some ⟨(φ5 0), 0, none⟩)) ∧ RowH 5 1 x.2.2.1 (quoL (l.take x.1)).length ((quoL (l.take x.1)).map bV) x.2.2.2) (l.length) (0, .pointer none, .slice none 0 0, []) s (by kernel_rfl) (List.Sublist.refl _) ⟨IM.Le.refl _, Nat.zero_add _, Or.inl rfl, row_nilB⟩ ?_
    rintro m8 ⟨i8, p8, v8, F8⟩ I8 w8 ev8 s ⟨le8, hi8_0, hi8_1, hi8_2⟩
    try dsimp only at s hi8_0 hi8_1 hi8_2 ⊢
    replace hle7 := leMono le8 hle7
    refine wp_seq ?_
    refine region_rule ?_
    refine ops_rule (C := []) [((φ5 0), .cells #[p8, v8] 100)] F8 1 [] 0 (fun φ9 => [(10, .bool (decide (((i8 : Nat) : Int) < ((l.length : Nat) : Int))))]) (fun φ9 => [((φ5 0), .cells #[p8, v8] 100)]) (fun φ9 => []) s trivial (fun φ9 => by kernel_rfl) ?_
    intro φ9 w9 s
    rw [nat_lss (a := i8) (b := l.length)]
    refine ops_done (by kernel_rfl) ?_
    refine wp_seq ?_
    rcases Bool.eq_false_or_eq_true (decide (i8 < l.length)) with hc10 | hc10
    ·
      rw [hc10]
      refine cond_true_rule (b := true) (by kernel_rfl) rfl ?_
      refine wp_skip ?_
      refine wp_seq ?_
      refine wp_block ?_
      refine wp_seq ?_
      refine region_rule ?_
      refine ops_rule (C := []) [((φ5 0), .cells #[p8, v8] 100)] F8 2 [] 0 (fun φ11 => [(4, .int .i64 ((i8 : Nat) : Int)), (11, .int .i64 ((i8 : Nat) : Int))]) (fun φ11 => [((φ5 0), .cells #[p8, v8] 100)]) (fun φ11 => []) s trivial (fun φ11 => by kernel_rfl) ?_
      intro φ11 w11 s
      refine ops_done (by kernel_rfl) ?_
      refine region_rule ?_
      refine ops_rule (C := []) [((φ5 0), .cells #[p8, v8] 100)] F8 2 [] 0 (fun φ12 => [(13, .int .i64 ((i8 : Nat) : Int)), (12, .string ⟨(l).toArray⟩)]) (fun φ12 => [((φ5 0), .cells #[p8, v8] 100)]) (fun φ12 => []) s trivial (fun φ12 => by kernel_rfl) ?_
      intro φ12 w12 s
      refine sem_rule (Instr.index 9 (.string ⟨(l).toArray⟩) (.int .i64 ((i8 : Nat) : Int))) (some 14) (.int .u8 (((l.getD i8 0).toNat : Nat) : Int)) (by kernel_rfl) (run_idxK (s := l) (i := i8) (by  have hq0 := of_decide_eq_false hc3; have hq1 := of_decide_eq_true hc10; (try simp only [List.length_drop, List.length_take, List.length_append, List.length_cons, List.length_nil]); omega)) ?_
      refine call_rule (some 15) s (quoted_c (c := (l.getD i8 0).toNat) (byte_lt _)) (by kernel_rfl) ?_
      intro v13 I13 w13 le13 h13 s
      replace hle7 := leMono le13 hle7
      obtain rfl := h13
      refine callW_rule (b := (φ5 0)) (L := ((quoL (l.take i8)) ++ (quo ((l.getD i8 0).toNat)))) (some 16) s hs0 (wr_str (H := [((φ5 0), .cells #[p8, v8] 100)]) (F := F8) (b := (φ5 0)) (p := p8) (v0 := v8) (l := (quoL (l.take i8))) (x := (quo ((l.getD i8 0).toNat))) s (by simp) hi8_1 hi8_2 (by have h7 := quoL_le (l.take i8); have h8 := quo_le (l.getD i8 0).toNat; rw [List.length_take] at h7; omega)) (by kernel_rfl) ?_
      intro v14 w14 F14 hr14 s
      have hle7 := IM.Le.refl I
      refine ops_done (by kernel_rfl) ?_
      refine region_rule ?_
      refine ops_rule (C := []) [((φ5 0), .cells #[.pointer (some ⟨(φ5 0), 0, none⟩), v14] 100)] F14 2 [] 0 (fun φ15 => [(9, .int .i64 (IntKind.wrap .i64 (((i8 : Nat) : Int) + ((1 : Nat) : Int)))), (17, .int .i64 (IntKind.wrap .i64 (((i8 : Nat) : Int) + ((1 : Nat) : Int))))]) (fun φ15 => [((φ5 0), .cells #[.pointer (some ⟨(φ5 0), 0, none⟩), v14] 100)]) (fun φ15 => []) s trivial (fun φ15 => by kernel_rfl) ?_
      intro φ15 w15 s
      rw [nat_addI (a := i8) (b := 1) (by  have hq0 := of_decide_eq_false hc3; have hq1 := of_decide_eq_true hc10; omega)]
      refine ops_done (by kernel_rfl) ?_
      have hq9 := of_decide_eq_true hc10
      have hrw9 := rowL_cast hr14 (quoL_snoc hq9)
      exact ⟨⟨m8 - 1, (i8 + 1, .pointer (some ⟨(φ5 0), 0, none⟩), v14, F14), _, _, _, by omega, rfl, s, (List.Sublist.append (List.Sublist.cons₂ _ List.Sublist.slnil) (List.Sublist.refl _)), by kernel_rfl, hle7, by show i8 + 1 + (m8 - 1) = l.length; omega, Or.inr rfl, hrw9⟩⟩
    ·
      rw [hc10]
      refine cond_false_rule (b := false) (by kernel_rfl) rfl ?_
      refine wp_exit ?_
      refine wp_seq ?_
      refine region_rule ?_
      refine callE_rule (v := .string ⟨((quoL (l.take i8))).toArray⟩) (some 18) s hs0 (b_str (H := [((φ5 0), .cells #[p8, v8] 100)]) (F := F8) (b := (φ5 0)) (p := p8) (v0 := v8) (l := (quoL (l.take i8))) s (by simp) hi8_1 hi8_2) (by kernel_rfl) ?_
      intro w16 s
      have hle7 := IM.Le.refl I
      refine ops_rule (C := []) [] [] 1 [] 0 (fun φ17 => [(2, .string ⟨((quoL (l.take i8))).toArray⟩)]) (fun φ17 => []) (fun φ17 => []) s trivial (fun φ17 => by kernel_rfl) ?_
      intro φ17 w17 s
      refine ops_done (by kernel_rfl) ?_
      refine wp_ret ?_
      refine ret_rule (C := []) [] [] (.string ⟨((quoL (l.take i8))).toArray⟩) [] [] s trivial (by kernel_rfl) ?_
      exact ⟨_, _, _, rfl, s, (by have hq9 := of_decide_eq_false hc10; have e9 := quoteS_n (of_decide_eq_false hc3); rw [← e9, List.take_of_length_le (by omega)])⟩

end Go.Proofs.YtgmigcmhnmmdkaaDoor
