/- The document reads. -/
import Derived.Test.YtcpmjogeafhpnaaDoorPtDxW23
import Derived.Test.YtcpmjogeafhpnaaDoorPtM12
set_option linter.all false
set_option maxRecDepth 100000
namespace Go.Proofs.YtcpmjogeafhpnaaDoor
open Go.RowKit Go.Sep
attribute [local irreducible] Go.wpList Go.Code.wp

theorem dlen {P : List UInt8} {at0 : Nat} : (P.drop at0).length = P.length - at0 := List.length_drop
theorem drop0 {P : List UInt8} {at0 : Nat} : (P.drop at0).getD 0 0 = P.getD at0 0 := by rw [getD_drop8, Nat.add_zero]

set_option maxHeartbeats 2000000 in
theorem refByte_c {I : IM} {P : List UInt8} {a : Option Addr} {k c x at0 e : Nat} (hl : BSl I P (.slice a k c)) (hn9 : P.length ≤ 1000000) (hat : at0 ≤ P.length) : FunM Tryd.prog 92 #[.pointer (some ⟨x, 0, none⟩)] I [(x, .cells #[.slice a k c, .int .i64 ((at0 : Nat) : Int), .int .i64 ((e : Nat) : Int)] 106)] (fun v J H' => ∃ b' : OB, H' = [b'] ∧ b'.1 = x ∧ v = .int .u8 ((byV (P.drop at0) e : Nat) : Int) ∧ b' = (x, .cells #[.slice a k c, .int .i64 ((at0 + byD (P.drop at0) e : Nat) : Int), .int .i64 ((byE (P.drop at0) e : Nat) : Int)] 106)) := by
  obtain ⟨rfl, -⟩ := hl.cap
  refine enterM_rule 39 [(0, .pointer (some ⟨x, 0, none⟩))] Tryd.func92 rfl (by kernel_rfl) ?_
  intro w s
  refine wp_seq ?_
  refine region_rule ?_
  refine ops_rule (C := []) [(x, .cells #[.slice a P.length c, .int .i64 ((at0 : Nat) : Int), .int .i64 ((e : Nat) : Int)] 106)] [] 1 [] 0 (fun φ1 => [(2, .int .u8 0)]) (fun φ1 => [(x, .cells #[.slice a P.length c, .int .i64 ((at0 : Nat) : Int), .int .i64 ((e : Nat) : Int)] 106)]) (fun φ1 => []) s trivial (fun φ1 => by kernel_rfl) ?_
  intro φ1 w1 s
  refine ops_done (by kernel_rfl) ?_
  refine wp_seq ?_
  refine wp_seq ?_
  refine region_rule ?_
  refine ops_rule (C := []) [(x, .cells #[.slice a P.length c, .int .i64 ((at0 : Nat) : Int), .int .i64 ((e : Nat) : Int)] 106)] [] 5 [.o 0] 0 (fun φ2 => [(7, .bool (((e : Nat) : Int) != ((0 : Nat) : Int))), (6, .int .i64 ((e : Nat) : Int)), (5, .pointer (some ⟨x, 2, none⟩)), (4, .pointer (some ⟨x, 0, none⟩)), (3, .pointer (some ⟨x, 0, none⟩))]) (fun φ2 => [(x, .cells #[.slice a P.length c, .int .i64 ((at0 : Nat) : Int), .int .i64 ((e : Nat) : Int)] 106)]) (fun φ2 => [x]) s trivial (fun φ2 => by kernel_rfl) ?_
  intro φ2 w2 s
  rw [nat_neq (a := e) (b := 0)]
  refine ops_done (by kernel_rfl) ?_
  rcases Bool.eq_false_or_eq_true (decide (e ≠ 0)) with hc3 | hc3
  ·
    rw [hc3]
    refine cond_true_rule (b := true) (by kernel_rfl) rfl ?_
    refine wp_seq ?_
    refine region_rule ?_
    refine ops_rule (C := []) [(x, .cells #[.slice a P.length c, .int .i64 ((at0 : Nat) : Int), .int .i64 ((e : Nat) : Int)] 106)] [] 1 [] 0 (fun φ4 => [(2, .int .u8 0)]) (fun φ4 => [(x, .cells #[.slice a P.length c, .int .i64 ((at0 : Nat) : Int), .int .i64 ((e : Nat) : Int)] 106)]) (fun φ4 => []) s trivial (fun φ4 => by kernel_rfl) ?_
    intro φ4 w4 s
    refine ops_done (by kernel_rfl) ?_
    refine wp_ret ?_
    refine ret_rule (C := []) [(x, .cells #[.slice a P.length c, .int .i64 ((at0 : Nat) : Int), .int .i64 ((e : Nat) : Int)] 106)] [] (.int .u8 0) [] [] s trivial (by kernel_rfl) ?_
    exact ⟨_, _, _, rfl, s, (by have hq0 := of_decide_eq_true hc3; have hL := @dlen P at0; have hk9 := numK_le (P.drop at0); have hn8 := numN_lt (P.drop at0); exact ⟨_, rfl, rfl, (by unfold byV; first | (rw [if_neg (by omega)]; rfl) | (rw [if_pos (by omega), drop0]; rfl) | (rw [if_pos (by omega), drop0, show at0 + 1 - 1 = at0 by omega])), (by (unfold byD; first | rw [if_pos (by omega)] | rw [if_neg (by omega)]); (unfold byE; first | rw [if_pos (by omega)] | rw [if_neg (by omega)]); try rfl)⟩)⟩
  ·
    rw [hc3]
    refine cond_false_rule (b := false) (by kernel_rfl) rfl ?_
    refine wp_skip ?_
    refine wp_seq ?_
    refine wp_seq ?_
    refine draw_rule (C := []) ⟨(fun φ5 xs5 => [.look 0 [] [], .look 0 [] [], .look 0 [] [], .look 0 [.o 0] [x], .look 0 [] [], .look 0 [] [], .look 0 [] [], .look 0 [.o 0] [x], .look 0 [] [], .sub 0 [] [] (.bool (decide (((at0 : Nat) : Int) ≥ ((P.length : Nat) : Int))))]), (fun φ5 xs5 => [.pointer (some ⟨x, 0, none⟩), .pointer (some ⟨x, 0, none⟩), .pointer (some ⟨x, 1, none⟩), .int .i64 ((at0 : Nat) : Int), .pointer (some ⟨x, 0, none⟩), .pointer (some ⟨x, 0, none⟩), .pointer (some ⟨x, 0, none⟩), .slice a P.length c, .int .i64 ((P.length : Nat) : Int), .bool (decide (P.length ≤ at0))]), (fun φ5 xs5 => [[(x, .cells #[.slice a P.length c, .int .i64 ((at0 : Nat) : Int), .int .i64 ((e : Nat) : Int)] 106)]]), (fun φ5 xs5 => [[default, default, default, default, default, default, default, default, default, default]]), [], [1, 1, 1, 1, 1, 1, 1, 1, 1, 5]⟩ (fun j => ([MP.any, MP.any, MP.any, MP.any, MP.any, MP.any, MP.any, MP.any, MP.any, MP.any] : List MP).getD j MP.any) [] [9] [] (fun φ5 xs5 => []) (fun φ5 xs5 => [(8, .pointer (some ⟨x, 0, none⟩)), (9, .pointer (some ⟨x, 0, none⟩)), (10, .pointer (some ⟨x, 1, none⟩)), (11, .int .i64 ((at0 : Nat) : Int)), (12, .pointer (some ⟨x, 0, none⟩)), (13, .pointer (some ⟨x, 0, none⟩)), (14, .pointer (some ⟨x, 0, none⟩)), (15, .slice a P.length c), (16, .int .i64 ((P.length : Nat) : Int)), (17, .bool (decide (P.length ≤ at0)))]) (fun φ5 xs5 => [(x, .cells #[.slice a P.length c, .int .i64 ((at0 : Nat) : Int), .int .i64 ((e : Nat) : Int)] 106)]) s trivial (by kernel_rfl) (by kernel_rfl) (fun _ _ => by kernel_rfl) (fun _ _ => by kernel_rfl) ⟨fun _ _ => by kernel_rfl, fun _ _ => by kernel_rfl, fun _ _ => by kernel_rfl, fun _ _ => by kernel_rfl⟩ (fun _ _ _ => by kernel_rfl) (fun _ _ => by kernel_rfl) (fun _ _ => by kernel_rfl) (fun _ _ => by kernel_rfl) (fun _ _ => by kernel_rfl) (fun _ _ => by kernel_rfl) ⟨kcast (A := ∀ (φ5 : Nat → Nat) (xs5 : Xs), (.bool (decide (((at0 : Nat) : Int) ≥ ((P.length : Nat) : Int))) : Value) = .bool (decide (P.length ≤ at0))) (by kernel_rfl) (fun φ5 xs5 => congrArg Value.bool ((nat_geq (a := at0) (b := P.length)))), trivial⟩ trivial (by kernel_rfl) trivial ?k5
    case k5 =>
      rintro φ5 xs5 I5 w5 le5 s 
      replace hl := BSl.mono le5 hl
      rcases Bool.eq_false_or_eq_true (decide (P.length ≤ at0)) with hc6 | hc6
      ·
        rw [hc6]
        refine cond_true_rule (b := true) (by kernel_rfl) rfl ?_
        refine wp_seq ?_
        refine region_rule ?_
        refine ops_rule (C := []) [(x, .cells #[.slice a P.length c, .int .i64 ((at0 : Nat) : Int), .int .i64 ((e : Nat) : Int)] 106)] [] 4 [.o 0] 0 (fun φ7 => [(20, .pointer (some ⟨x, 2, none⟩)), (19, .pointer (some ⟨x, 0, none⟩)), (18, .pointer (some ⟨x, 0, none⟩))]) (fun φ7 => [(x, .cells #[.slice a P.length c, .int .i64 ((at0 : Nat) : Int), .int .i64 6] 106)]) (fun φ7 => [x]) s trivial (fun φ7 => by kernel_rfl) ?_
        intro φ7 w7 s
        refine ops_done (by kernel_rfl) ?_
        refine wp_seq ?_
        refine region_rule ?_
        refine ops_rule (C := []) [(x, .cells #[.slice a P.length c, .int .i64 ((at0 : Nat) : Int), .int .i64 6] 106)] [] 1 [] 0 (fun φ8 => [(2, .int .u8 0)]) (fun φ8 => [(x, .cells #[.slice a P.length c, .int .i64 ((at0 : Nat) : Int), .int .i64 6] 106)]) (fun φ8 => []) s trivial (fun φ8 => by kernel_rfl) ?_
        intro φ8 w8 s
        refine ops_done (by kernel_rfl) ?_
        refine wp_ret ?_
        refine ret_rule (C := []) [(x, .cells #[.slice a P.length c, .int .i64 ((at0 : Nat) : Int), .int .i64 6] 106)] [] (.int .u8 0) [] [] s trivial (by kernel_rfl) ?_
        exact ⟨_, _, _, rfl, s, (by have hq0 := of_decide_eq_false hc3; have hq1 := of_decide_eq_true hc6; have hL := @dlen P at0; have hk9 := numK_le (P.drop at0); have hn8 := numN_lt (P.drop at0); exact ⟨_, rfl, rfl, (by unfold byV; first | (rw [if_neg (by omega)]; rfl) | (rw [if_pos (by omega), drop0]; rfl) | (rw [if_pos (by omega), drop0, show at0 + 1 - 1 = at0 by omega])), (by (unfold byD; first | rw [if_pos (by omega)] | rw [if_neg (by omega)]); (unfold byE; first | rw [if_pos (by omega)] | rw [if_neg (by omega)]); try rfl)⟩)⟩
      ·
        rw [hc6]
        refine cond_false_rule (b := false) (by kernel_rfl) rfl ?_
        refine wp_skip ?_
        refine wp_seq ?_
        refine region_rule ?_
        refine ops_rule (C := []) [(x, .cells #[.slice a P.length c, .int .i64 ((at0 : Nat) : Int), .int .i64 ((e : Nat) : Int)] 106)] [] 8 [.o 0, .o 0] 0 (fun φ9 => [(27, .pointer (some ⟨x, 1, none⟩)), (26, .pointer (some ⟨x, 0, none⟩)), (25, .int .i64 (IntKind.wrap .i64 (((at0 : Nat) : Int) + ((1 : Nat) : Int)))), (24, .int .i64 ((at0 : Nat) : Int)), (23, .pointer (some ⟨x, 1, none⟩)), (22, .pointer (some ⟨x, 0, none⟩)), (21, .pointer (some ⟨x, 0, none⟩))]) (fun φ9 => [(x, .cells #[.slice a P.length c, .int .i64 (IntKind.wrap .i64 (((at0 : Nat) : Int) + ((1 : Nat) : Int))), .int .i64 ((e : Nat) : Int)] 106)]) (fun φ9 => [x, x]) s trivial (fun φ9 => by kernel_rfl) ?_
        intro φ9 w9 s
        rw [nat_addI (a := at0) (b := 1) (by have hL := @dlen P at0; have hk9 := numK_le (P.drop at0); have hn8 := numN_lt (P.drop at0); have hq0 := of_decide_eq_false hc3; have hq1 := of_decide_eq_false hc6; omega)] at s ⊢
        refine ops_done (by kernel_rfl) ?_
        refine wp_seq ?_
        refine draw_rule (C := []) ⟨(fun φ10 xs10 => [.look 0 [] [], .look 0 [] [], .look 0 [] [], .look 0 [.o 0] [x], .look 0 [] [], .look 0 [] [], .look 0 [] [], .look 0 [.o 0] [x], .sub 0 [] [] (.int .i64 (IntKind.wrap .i64 (((at0 + 1 : Nat) : Int) - ((1 : Nat) : Int)))), .ran (Instr.indexAt 61 (.slice a P.length c) (.int .i64 (((at0 + 1) - 1 : Nat) : Int))), .ran (Instr.loadAt 5 (.pointer (pAt a ((at0 + 1) - 1)))), .look 0 [] []]), (fun φ10 xs10 => [.pointer (some ⟨x, 0, none⟩), .pointer (some ⟨x, 0, none⟩), .pointer (some ⟨x, 0, none⟩), .slice a P.length c, .pointer (some ⟨x, 0, none⟩), .pointer (some ⟨x, 0, none⟩), .pointer (some ⟨x, 1, none⟩), .int .i64 ((at0 + 1 : Nat) : Int), .int .i64 (((at0 + 1) - 1 : Nat) : Int), .pointer (pAt a ((at0 + 1) - 1)), .int .u8 (((P.getD ((at0 + 1) - 1) 0).toNat : Nat) : Int), .int .u8 (((P.getD ((at0 + 1) - 1) 0).toNat : Nat) : Int)]), (fun φ10 xs10 => [[(x, .cells #[.slice a P.length c, .int .i64 ((at0 + 1 : Nat) : Int), .int .i64 ((e : Nat) : Int)] 106)]]), (fun φ10 xs10 => [[default, default, default, default, default, default, default, default, default, default, default, default]]), [], [1, 1, 1, 1, 1, 1, 1, 1, 5, 6, 6, 1]⟩ (fun j => ([MP.any, MP.any, MP.any, MP.any, MP.any, MP.any, MP.any, MP.any, MP.any, MP.any, MP.any, MP.any] : List MP).getD j MP.any) [] [8] [9, 10] (fun φ10 xs10 => []) (fun φ10 xs10 => [(28, .pointer (some ⟨x, 0, none⟩)), (29, .pointer (some ⟨x, 0, none⟩)), (30, .pointer (some ⟨x, 0, none⟩)), (31, .slice a P.length c), (32, .pointer (some ⟨x, 0, none⟩)), (33, .pointer (some ⟨x, 0, none⟩)), (34, .pointer (some ⟨x, 1, none⟩)), (35, .int .i64 ((at0 + 1 : Nat) : Int)), (36, .int .i64 (((at0 + 1) - 1 : Nat) : Int)), (37, .pointer (pAt a ((at0 + 1) - 1))), (38, .int .u8 (((P.getD ((at0 + 1) - 1) 0).toNat : Nat) : Int)), (2, .int .u8 (((P.getD ((at0 + 1) - 1) 0).toNat : Nat) : Int))]) (fun φ10 xs10 => [(x, .cells #[.slice a P.length c, .int .i64 ((at0 + 1 : Nat) : Int), .int .i64 ((e : Nat) : Int)] 106)]) s trivial (by kernel_rfl) (by kernel_rfl) (fun _ _ => by kernel_rfl) (fun _ _ => by kernel_rfl) ⟨fun _ _ => by kernel_rfl, fun _ _ => by kernel_rfl, fun _ _ => by kernel_rfl, fun _ _ => by kernel_rfl⟩ (fun _ _ _ => by kernel_rfl) (fun _ _ => by kernel_rfl) (fun _ _ => by kernel_rfl) (fun _ _ => by kernel_rfl) (fun _ _ => by kernel_rfl) (fun _ _ => by kernel_rfl) ⟨kcast (A := ∀ (φ10 : Nat → Nat) (xs10 : Xs), (.int .i64 (IntKind.wrap .i64 (((at0 + 1 : Nat) : Int) - ((1 : Nat) : Int))) : Value) = .int .i64 (((at0 + 1) - 1 : Nat) : Int)) (by kernel_rfl) (fun φ10 xs10 => congrArg (Value.int .i64) ((nat_subI (a := (at0 + 1)) (b := 1) (by have hL := @dlen P at0; have hk9 := numK_le (P.drop at0); have hn8 := numN_lt (P.drop at0); have hq0 := of_decide_eq_false hc3; have hq1 := of_decide_eq_false hc6; omega) (by have hL := @dlen P at0; have hk9 := numK_le (P.drop at0); have hn8 := numN_lt (P.drop at0); have hq0 := of_decide_eq_false hc3; have hq1 := of_decide_eq_false hc6; omega)))), trivial⟩ ⟨kcast (A := ∀ (φ10 : Nat → Nat) (xs10 : Xs) (J : IM) (w : World), I5.Le J → J.Sub w → ((Instr.indexAt 61 (.slice a P.length c) (.int .i64 (((at0 + 1) - 1 : Nat) : Int))) : Sem Value).run Tryd.prog w = .ok (.pointer (pAt a ((at0 + 1) - 1))) w) (by kernel_rfl) (fun φ10 xs10 J w hJ hS => bsl_idx (BSl.mono hJ hl) (by have hL := @dlen P at0; have hk9 := numK_le (P.drop at0); have hn8 := numN_lt (P.drop at0); have hq0 := of_decide_eq_false hc3; have hq1 := of_decide_eq_false hc6; omega)), ⟨kcast (A := ∀ (φ10 : Nat → Nat) (xs10 : Xs) (J : IM) (w : World), I5.Le J → J.Sub w → ((Instr.loadAt 5 (.pointer (pAt a ((at0 + 1) - 1)))) : Sem Value).run Tryd.prog w = .ok (.int .u8 (((P.getD ((at0 + 1) - 1) 0).toNat : Nat) : Int)) w) (by kernel_rfl) (fun φ10 xs10 J w hJ hS => bsl_ld hS (BSl.mono hJ hl) (by have hL := @dlen P at0; have hk9 := numK_le (P.drop at0); have hn8 := numN_lt (P.drop at0); have hq0 := of_decide_eq_false hc3; have hq1 := of_decide_eq_false hc6; omega)), trivial⟩⟩ (by kernel_rfl) trivial ?k10
        case k10 =>
          rintro φ10 xs10 I10 w10 le10 s 
          replace hl := BSl.mono le10 hl
          refine wp_ret ?_
          refine ret_rule (C := []) [(x, .cells #[.slice a P.length c, .int .i64 ((at0 + 1 : Nat) : Int), .int .i64 ((e : Nat) : Int)] 106)] [] (.int .u8 (((P.getD ((at0 + 1) - 1) 0).toNat : Nat) : Int)) [] [] s trivial (by kernel_rfl) ?_
          exact ⟨_, _, _, rfl, s, (by have hq0 := of_decide_eq_false hc3; have hq1 := of_decide_eq_false hc6; have hL := @dlen P at0; have hk9 := numK_le (P.drop at0); have hn8 := numN_lt (P.drop at0); exact ⟨_, rfl, rfl, (by unfold byV; first | (rw [if_neg (by omega)]; rfl) | (rw [if_pos (by omega), drop0]; rfl) | (rw [if_pos (by omega), drop0, show at0 + 1 - 1 = at0 by omega])), (by (unfold byD; first | rw [if_pos (by omega)] | rw [if_neg (by omega)]); (unfold byE; first | rw [if_pos (by omega)] | rw [if_neg (by omega)]); try rfl)⟩)⟩

set_option maxHeartbeats 2000000 in
theorem refNum_c {I : IM} {P : List UInt8} {a : Option Addr} {k c x at0 e : Nat} (hl : BSl I P (.slice a k c)) (hn9 : P.length ≤ 1000000) (hat : at0 ≤ P.length) : FunM Tryd.prog 90 #[.pointer (some ⟨x, 0, none⟩)] I [(x, .cells #[.slice a k c, .int .i64 ((at0 : Nat) : Int), .int .i64 ((e : Nat) : Int)] 106)] (fun v J H' => ∃ b' : OB, H' = [b'] ∧ b'.1 = x ∧ v = .int .u64 ((nuV (P.drop at0) e : Nat) : Int) ∧ b' = (x, .cells #[.slice a k c, .int .i64 ((at0 + nuD (P.drop at0) e : Nat) : Int), .int .i64 ((nuE (P.drop at0) e : Nat) : Int)] 106)) := by
  obtain ⟨rfl, -⟩ := hl.cap
  refine enterM_rule 36 [(0, .pointer (some ⟨x, 0, none⟩))] Tryd.func90 rfl (by kernel_rfl) ?_
  intro w s
  refine wp_seq ?_
  refine region_rule ?_
  refine ops_rule (C := []) [(x, .cells #[.slice a P.length c, .int .i64 ((at0 : Nat) : Int), .int .i64 ((e : Nat) : Int)] 106)] [] 1 [] 0 (fun φ1 => [(2, .int .u64 0)]) (fun φ1 => [(x, .cells #[.slice a P.length c, .int .i64 ((at0 : Nat) : Int), .int .i64 ((e : Nat) : Int)] 106)]) (fun φ1 => []) s trivial (fun φ1 => by kernel_rfl) ?_
  intro φ1 w1 s
  refine ops_done (by kernel_rfl) ?_
  refine wp_seq ?_
  refine wp_seq ?_
  refine region_rule ?_
  refine ops_rule (C := []) [(x, .cells #[.slice a P.length c, .int .i64 ((at0 : Nat) : Int), .int .i64 ((e : Nat) : Int)] 106)] [] 5 [.o 0] 0 (fun φ2 => [(9, .bool (((e : Nat) : Int) != ((0 : Nat) : Int))), (8, .int .i64 ((e : Nat) : Int)), (7, .pointer (some ⟨x, 2, none⟩)), (6, .pointer (some ⟨x, 0, none⟩)), (5, .pointer (some ⟨x, 0, none⟩))]) (fun φ2 => [(x, .cells #[.slice a P.length c, .int .i64 ((at0 : Nat) : Int), .int .i64 ((e : Nat) : Int)] 106)]) (fun φ2 => [x]) s trivial (fun φ2 => by kernel_rfl) ?_
  intro φ2 w2 s
  rw [nat_neq (a := e) (b := 0)]
  refine ops_done (by kernel_rfl) ?_
  rcases Bool.eq_false_or_eq_true (decide (e ≠ 0)) with hc3 | hc3
  ·
    rw [hc3]
    refine cond_true_rule (b := true) (by kernel_rfl) rfl ?_
    refine wp_seq ?_
    refine region_rule ?_
    refine ops_rule (C := []) [(x, .cells #[.slice a P.length c, .int .i64 ((at0 : Nat) : Int), .int .i64 ((e : Nat) : Int)] 106)] [] 1 [] 0 (fun φ4 => [(2, .int .u64 0)]) (fun φ4 => [(x, .cells #[.slice a P.length c, .int .i64 ((at0 : Nat) : Int), .int .i64 ((e : Nat) : Int)] 106)]) (fun φ4 => []) s trivial (fun φ4 => by kernel_rfl) ?_
    intro φ4 w4 s
    refine ops_done (by kernel_rfl) ?_
    refine wp_ret ?_
    refine ret_rule (C := []) [(x, .cells #[.slice a P.length c, .int .i64 ((at0 : Nat) : Int), .int .i64 ((e : Nat) : Int)] 106)] [] (.int .u64 0) [] [] s trivial (by kernel_rfl) ?_
    exact ⟨_, _, _, rfl, s, (by have hq0 := of_decide_eq_true hc3; have hL := @dlen P at0; have hk9 := numK_le (P.drop at0); have hn8 := numN_lt (P.drop at0); exact ⟨_, rfl, rfl, (by have hz9 := @numK_zero (P.drop at0); unfold nuV; first | (rw [if_neg (by omega)]; rfl) | (rw [if_pos (by omega)]; done)), (by (unfold nuD; first | rw [if_pos (by omega)] | rw [if_neg (by omega)]); (unfold nuE; first | rw [if_pos (by omega)] | rw [if_neg (by omega)]); try rfl)⟩)⟩
  ·
    rw [hc3]
    refine cond_false_rule (b := false) (by kernel_rfl) rfl ?_
    refine wp_skip ?_
    refine wp_seq ?_
    refine draw_rule (C := []) ⟨(fun φ5 xs5 => [.look 0 [] [], .look 0 [] [], .look 0 [] [], .look 0 [.o 0] [x], .look 0 [] [], .look 0 [] [], .look 0 [] [], .look 0 [.o 0] [x], .call 113 #[.slice a P.length c, .int .i64 ((at0 : Nat) : Int)], .look 0 [] [], .look 0 [] [], .look 0 [] [], .look 0 [] [], .look 0 [] []]), (fun φ5 xs5 => [.pointer (some ⟨x, 0, none⟩), .pointer (some ⟨x, 0, none⟩), .pointer (some ⟨x, 0, none⟩), .slice a P.length c, .pointer (some ⟨x, 0, none⟩), .pointer (some ⟨x, 0, none⟩), .pointer (some ⟨x, 1, none⟩), .int .i64 ((at0 : Nat) : Int), .tuple #[.int .u64 ((numN (P.drop at0) : Nat) : Int), .int .i64 ((numK (P.drop at0) : Nat) : Int)], .tuple #[.int .u64 ((numN (P.drop at0) : Nat) : Int), .int .i64 ((numK (P.drop at0) : Nat) : Int)], .int .u64 ((numN (P.drop at0) : Nat) : Int), .int .i64 ((numK (P.drop at0) : Nat) : Int), .int .u64 ((numN (P.drop at0) : Nat) : Int), .int .i64 ((numK (P.drop at0) : Nat) : Int)]), (fun φ5 xs5 => [[(x, .cells #[.slice a P.length c, .int .i64 ((at0 : Nat) : Int), .int .i64 ((e : Nat) : Int)] 106)]]), (fun φ5 xs5 => [[default, default, default, default, default, default, default, default, default, default, default, default, default, default]]), [], [1, 1, 1, 1, 1, 1, 1, 1, 3, 1, 1, 1, 1, 1]⟩ (fun j => ([MP.any, MP.any, MP.any, MP.any, MP.any, MP.any, MP.any, MP.any, MP.any, MP.any, MP.any, MP.any, MP.any, MP.any] : List MP).getD j MP.any) [8] [] [] (fun φ5 xs5 => []) (fun φ5 xs5 => [(11, .pointer (some ⟨x, 0, none⟩)), (12, .pointer (some ⟨x, 0, none⟩)), (13, .pointer (some ⟨x, 0, none⟩)), (14, .slice a P.length c), (15, .pointer (some ⟨x, 0, none⟩)), (16, .pointer (some ⟨x, 0, none⟩)), (17, .pointer (some ⟨x, 1, none⟩)), (18, .int .i64 ((at0 : Nat) : Int)), (19, .tuple #[.int .u64 ((numN (P.drop at0) : Nat) : Int), .int .i64 ((numK (P.drop at0) : Nat) : Int)]), (10, .tuple #[.int .u64 ((numN (P.drop at0) : Nat) : Int), .int .i64 ((numK (P.drop at0) : Nat) : Int)]), (20, .int .u64 ((numN (P.drop at0) : Nat) : Int)), (21, .int .i64 ((numK (P.drop at0) : Nat) : Int)), (3, .int .u64 ((numN (P.drop at0) : Nat) : Int)), (4, .int .i64 ((numK (P.drop at0) : Nat) : Int))]) (fun φ5 xs5 => [(x, .cells #[.slice a P.length c, .int .i64 ((at0 : Nat) : Int), .int .i64 ((e : Nat) : Int)] 106)]) s trivial (by kernel_rfl) (by kernel_rfl) (fun _ _ => by kernel_rfl) (fun _ _ => by kernel_rfl) ⟨fun _ _ => by kernel_rfl, fun _ _ => by kernel_rfl, fun _ _ => by kernel_rfl, fun _ _ => by kernel_rfl⟩ (fun _ _ _ => by kernel_rfl) (fun _ _ => by kernel_rfl) (fun _ _ => by kernel_rfl) (fun _ _ => by kernel_rfl) (fun _ _ => by kernel_rfl) (fun _ _ => by kernel_rfl) trivial trivial (by kernel_rfl) ⟨?c5_8, trivial⟩ ?k5
    case c5_8 =>
      refine kcast (A := ∀ (φ5 : Nat → Nat) (xs5 : Xs) (J8_5 : IM), I.Le J8_5 → Fun Tryd.prog 113 #[.slice a P.length c, .int .i64 ((at0 : Nat) : Int)] J8_5 (fun v J' => ∃ x : UX, v = .tuple #[.int .u64 ((numN (P.drop at0) : Nat) : Int), .int .i64 ((numK (P.drop at0) : Nat) : Int)] ∧ (True))) (by kernel_rfl) ?_
      intro φ5 xs5 J8_5 leJ
      have hl := BSl.mono leJ hl
      exact Fun.mono (refnumAt_c hl (by omega) (by omega)) (fun v J' _ h => ⟨UX.d, h, trivial⟩)
    case k5 =>
      rintro φ5 xs5 I5 w5 le5 s _
      replace hl := BSl.mono le5 hl
      refine wp_seq ?_
      refine wp_seq ?_
      refine region_rule ?_
      refine ops_rule (C := []) [(x, .cells #[.slice a P.length c, .int .i64 ((at0 : Nat) : Int), .int .i64 ((e : Nat) : Int)] 106)] [] 2 [] 0 (fun φ6 => [(23, .bool (((numK (P.drop at0) : Nat) : Int) == ((0 : Nat) : Int))), (22, .int .i64 ((numK (P.drop at0) : Nat) : Int))]) (fun φ6 => [(x, .cells #[.slice a P.length c, .int .i64 ((at0 : Nat) : Int), .int .i64 ((e : Nat) : Int)] 106)]) (fun φ6 => []) s trivial (fun φ6 => by kernel_rfl) ?_
      intro φ6 w6 s
      rw [nat_eql (a := (numK (P.drop at0))) (b := 0)]
      refine ops_done (by kernel_rfl) ?_
      rcases Bool.eq_false_or_eq_true (decide ((numK (P.drop at0)) = 0)) with hc7 | hc7
      ·
        rw [hc7]
        refine cond_true_rule (b := true) (by kernel_rfl) rfl ?_
        refine region_rule ?_
        refine ops_rule (C := []) [(x, .cells #[.slice a P.length c, .int .i64 ((at0 : Nat) : Int), .int .i64 ((e : Nat) : Int)] 106)] [] 4 [.o 0] 0 (fun φ8 => [(26, .pointer (some ⟨x, 2, none⟩)), (25, .pointer (some ⟨x, 0, none⟩)), (24, .pointer (some ⟨x, 0, none⟩))]) (fun φ8 => [(x, .cells #[.slice a P.length c, .int .i64 ((at0 : Nat) : Int), .int .i64 6] 106)]) (fun φ8 => [x]) s trivial (fun φ8 => by kernel_rfl) ?_
        intro φ8 w8 s
        refine ops_done (by kernel_rfl) ?_
        refine wp_seq ?_
        refine region_rule ?_
        refine ops_rule (C := []) [(x, .cells #[.slice a P.length c, .int .i64 ((at0 : Nat) : Int), .int .i64 6] 106)] [] 9 [.o 0, .o 0] 0 (fun φ9 => [(34, .pointer (some ⟨x, 1, none⟩)), (33, .pointer (some ⟨x, 0, none⟩)), (32, .int .i64 (IntKind.wrap .i64 (((at0 : Nat) : Int) + ((numK (P.drop at0) : Nat) : Int)))), (31, .int .i64 ((numK (P.drop at0) : Nat) : Int)), (30, .int .i64 ((at0 : Nat) : Int)), (29, .pointer (some ⟨x, 1, none⟩)), (28, .pointer (some ⟨x, 0, none⟩)), (27, .pointer (some ⟨x, 0, none⟩))]) (fun φ9 => [(x, .cells #[.slice a P.length c, .int .i64 (IntKind.wrap .i64 (((at0 : Nat) : Int) + ((numK (P.drop at0) : Nat) : Int))), .int .i64 6] 106)]) (fun φ9 => [x, x]) s trivial (fun φ9 => by kernel_rfl) ?_
        intro φ9 w9 s
        rw [nat_addI (a := at0) (b := (numK (P.drop at0))) (by have hL := @dlen P at0; have hk9 := numK_le (P.drop at0); have hn8 := numN_lt (P.drop at0); have hq0 := of_decide_eq_false hc3; have hq1 := of_decide_eq_true hc7; omega)] at s ⊢
        refine ops_done (by kernel_rfl) ?_
        refine wp_seq ?_
        refine region_rule ?_
        refine ops_rule (C := []) [(x, .cells #[.slice a P.length c, .int .i64 ((at0 + (numK (P.drop at0)) : Nat) : Int), .int .i64 6] 106)] [] 2 [] 0 (fun φ10 => [(2, .int .u64 ((numN (P.drop at0) : Nat) : Int)), (35, .int .u64 ((numN (P.drop at0) : Nat) : Int))]) (fun φ10 => [(x, .cells #[.slice a P.length c, .int .i64 ((at0 + (numK (P.drop at0)) : Nat) : Int), .int .i64 6] 106)]) (fun φ10 => []) s trivial (fun φ10 => by kernel_rfl) ?_
        intro φ10 w10 s
        refine ops_done (by kernel_rfl) ?_
        refine wp_ret ?_
        refine ret_rule (C := []) [(x, .cells #[.slice a P.length c, .int .i64 ((at0 + (numK (P.drop at0)) : Nat) : Int), .int .i64 6] 106)] [] (.int .u64 ((numN (P.drop at0) : Nat) : Int)) [] [] s trivial (by kernel_rfl) ?_
        exact ⟨_, _, _, rfl, s, (by have hq0 := of_decide_eq_false hc3; have hq1 := of_decide_eq_true hc7; have hL := @dlen P at0; have hk9 := numK_le (P.drop at0); have hn8 := numN_lt (P.drop at0); exact ⟨_, rfl, rfl, (by have hz9 := @numK_zero (P.drop at0); unfold nuV; first | (rw [if_neg (by omega)]; rfl) | (rw [if_pos (by omega)]; done)), (by (unfold nuD; first | rw [if_pos (by omega)] | rw [if_neg (by omega)]); (unfold nuE; first | rw [if_pos (by omega)] | rw [if_neg (by omega)]); try rfl)⟩)⟩
      ·
        rw [hc7]
        refine cond_false_rule (b := false) (by kernel_rfl) rfl ?_
        refine wp_skip ?_
        refine wp_seq ?_
        refine region_rule ?_
        refine ops_rule (C := []) [(x, .cells #[.slice a P.length c, .int .i64 ((at0 : Nat) : Int), .int .i64 ((e : Nat) : Int)] 106)] [] 9 [.o 0, .o 0] 0 (fun φ11 => [(34, .pointer (some ⟨x, 1, none⟩)), (33, .pointer (some ⟨x, 0, none⟩)), (32, .int .i64 (IntKind.wrap .i64 (((at0 : Nat) : Int) + ((numK (P.drop at0) : Nat) : Int)))), (31, .int .i64 ((numK (P.drop at0) : Nat) : Int)), (30, .int .i64 ((at0 : Nat) : Int)), (29, .pointer (some ⟨x, 1, none⟩)), (28, .pointer (some ⟨x, 0, none⟩)), (27, .pointer (some ⟨x, 0, none⟩))]) (fun φ11 => [(x, .cells #[.slice a P.length c, .int .i64 (IntKind.wrap .i64 (((at0 : Nat) : Int) + ((numK (P.drop at0) : Nat) : Int))), .int .i64 ((e : Nat) : Int)] 106)]) (fun φ11 => [x, x]) s trivial (fun φ11 => by kernel_rfl) ?_
        intro φ11 w11 s
        rw [nat_addI (a := at0) (b := (numK (P.drop at0))) (by have hL := @dlen P at0; have hk9 := numK_le (P.drop at0); have hn8 := numN_lt (P.drop at0); have hq0 := of_decide_eq_false hc3; have hq1 := of_decide_eq_false hc7; omega)] at s ⊢
        refine ops_done (by kernel_rfl) ?_
        refine wp_seq ?_
        refine region_rule ?_
        refine ops_rule (C := []) [(x, .cells #[.slice a P.length c, .int .i64 ((at0 + (numK (P.drop at0)) : Nat) : Int), .int .i64 ((e : Nat) : Int)] 106)] [] 2 [] 0 (fun φ12 => [(2, .int .u64 ((numN (P.drop at0) : Nat) : Int)), (35, .int .u64 ((numN (P.drop at0) : Nat) : Int))]) (fun φ12 => [(x, .cells #[.slice a P.length c, .int .i64 ((at0 + (numK (P.drop at0)) : Nat) : Int), .int .i64 ((e : Nat) : Int)] 106)]) (fun φ12 => []) s trivial (fun φ12 => by kernel_rfl) ?_
        intro φ12 w12 s
        refine ops_done (by kernel_rfl) ?_
        refine wp_ret ?_
        refine ret_rule (C := []) [(x, .cells #[.slice a P.length c, .int .i64 ((at0 + (numK (P.drop at0)) : Nat) : Int), .int .i64 ((e : Nat) : Int)] 106)] [] (.int .u64 ((numN (P.drop at0) : Nat) : Int)) [] [] s trivial (by kernel_rfl) ?_
        exact ⟨_, _, _, rfl, s, (by have hq0 := of_decide_eq_false hc3; have hq1 := of_decide_eq_false hc7; have hL := @dlen P at0; have hk9 := numK_le (P.drop at0); have hn8 := numN_lt (P.drop at0); exact ⟨_, rfl, rfl, (by have hz9 := @numK_zero (P.drop at0); unfold nuV; first | (rw [if_neg (by omega)]; rfl) | (rw [if_pos (by omega)]; done)), (by (unfold nuD; first | rw [if_pos (by omega)] | rw [if_neg (by omega)]); (unfold nuE; first | rw [if_pos (by omega)] | rw [if_neg (by omega)]); try rfl)⟩)⟩

set_option maxHeartbeats 2000000 in
theorem refFail_c {I : IM} {P : List UInt8} {a : Option Addr} {k c x at0 e q : Nat} (hl : BSl I P (.slice a k c)) (hn9 : P.length ≤ 1000000) (hat : at0 ≤ P.length) : FunM Tryd.prog 91 #[.pointer (some ⟨x, 0, none⟩), .int .i64 ((q : Nat) : Int)] I [(x, .cells #[.slice a k c, .int .i64 ((at0 : Nat) : Int), .int .i64 ((e : Nat) : Int)] 106)] (fun v J H' => ∃ b' : OB, H' = [b'] ∧ b'.1 = x ∧ v = .tuple #[] ∧ b' = (x, .cells #[.slice a k c, .int .i64 ((at0 + 0 : Nat) : Int), .int .i64 ((faE q e : Nat) : Int)] 106)) := by
  obtain ⟨rfl, -⟩ := hl.cap
  refine enterM_rule 13 [(0, .pointer (some ⟨x, 0, none⟩)), (1, .int .i64 ((q : Nat) : Int))] Tryd.func91 rfl (by kernel_rfl) ?_
  intro w s
  refine wp_seq ?_
  refine region_rule ?_
  refine ops_rule (C := []) [(x, .cells #[.slice a P.length c, .int .i64 ((at0 : Nat) : Int), .int .i64 ((e : Nat) : Int)] 106)] [] 5 [.o 0] 0 (fun φ1 => [(8, .bool (((e : Nat) : Int) == ((0 : Nat) : Int))), (7, .int .i64 ((e : Nat) : Int)), (6, .pointer (some ⟨x, 2, none⟩)), (5, .pointer (some ⟨x, 0, none⟩)), (4, .pointer (some ⟨x, 0, none⟩))]) (fun φ1 => [(x, .cells #[.slice a P.length c, .int .i64 ((at0 : Nat) : Int), .int .i64 ((e : Nat) : Int)] 106)]) (fun φ1 => [x]) s trivial (fun φ1 => by kernel_rfl) ?_
  intro φ1 w1 s
  rw [nat_eql (a := e) (b := 0)]
  refine ops_done (by kernel_rfl) ?_
  rcases Bool.eq_false_or_eq_true (decide (e = 0)) with hc2 | hc2
  ·
    rw [hc2]
    refine cond_true_rule (b := true) (by kernel_rfl) rfl ?_
    refine region_rule ?_
    refine ops_rule (C := []) [(x, .cells #[.slice a P.length c, .int .i64 ((at0 : Nat) : Int), .int .i64 ((e : Nat) : Int)] 106)] [] 5 [.o 0] 0 (fun φ3 => [(12, .pointer (some ⟨x, 2, none⟩)), (11, .pointer (some ⟨x, 0, none⟩)), (10, .int .i64 ((q : Nat) : Int)), (9, .pointer (some ⟨x, 0, none⟩))]) (fun φ3 => [(x, .cells #[.slice a P.length c, .int .i64 ((at0 : Nat) : Int), .int .i64 ((q : Nat) : Int)] 106)]) (fun φ3 => [x]) s trivial (fun φ3 => by kernel_rfl) ?_
    intro φ3 w3 s
    refine ops_done (by kernel_rfl) ?_
    refine end_rule (C := []) [(x, .cells #[.slice a P.length c, .int .i64 ((at0 : Nat) : Int), .int .i64 ((q : Nat) : Int)] 106)] [] (.tuple #[]) [] [] s trivial (by kernel_rfl) ?_
    exact ⟨_, _, _, rfl, s, (by have hq0 := of_decide_eq_true hc2; have hL := @dlen P at0; have hk9 := numK_le (P.drop at0); have hn8 := numN_lt (P.drop at0); exact ⟨_, rfl, rfl, (by rfl), (by (unfold faE; first | rw [if_pos (by omega)] | rw [if_neg (by omega)]); try rfl)⟩)⟩
  ·
    rw [hc2]
    refine cond_false_rule (b := false) (by kernel_rfl) rfl ?_
    refine wp_skip ?_
    refine end_rule (C := []) [(x, .cells #[.slice a P.length c, .int .i64 ((at0 : Nat) : Int), .int .i64 ((e : Nat) : Int)] 106)] [] (.tuple #[]) [] [] s trivial (by kernel_rfl) ?_
    exact ⟨_, _, _, rfl, s, (by have hq0 := of_decide_eq_false hc2; have hL := @dlen P at0; have hk9 := numK_le (P.drop at0); have hn8 := numN_lt (P.drop at0); exact ⟨_, rfl, rfl, (by rfl), (by (unfold faE; first | rw [if_pos (by omega)] | rw [if_neg (by omega)]); try rfl)⟩)⟩

set_option maxHeartbeats 2000000 in
theorem refEnd_c {I : IM} {P : List UInt8} {a : Option Addr} {k c x at0 e : Nat} (hl : BSl I P (.slice a k c)) (hn9 : P.length ≤ 1000000) (hat : at0 ≤ P.length) : FunM Tryd.prog 76 #[.pointer (some ⟨x, 0, none⟩)] I [(x, .cells #[.slice a k c, .int .i64 ((at0 : Nat) : Int), .int .i64 ((e : Nat) : Int)] 106)] (fun v J H' => ∃ b' : OB, H' = [b'] ∧ b'.1 = x ∧ v = .int .i64 ((enE (P.drop at0) e : Nat) : Int) ∧ b' = (x, .cells #[.slice a k c, .int .i64 ((at0 + 0 : Nat) : Int), .int .i64 ((enE (P.drop at0) e : Nat) : Int)] 106)) := by
  obtain ⟨rfl, -⟩ := hl.cap
  refine enterM_rule 19 [(0, .pointer (some ⟨x, 0, none⟩))] Tryd.func76 rfl (by kernel_rfl) ?_
  intro w s
  refine wp_seq ?_
  refine region_rule ?_
  refine ops_rule (C := []) [(x, .cells #[.slice a P.length c, .int .i64 ((at0 : Nat) : Int), .int .i64 ((e : Nat) : Int)] 106)] [] 1 [] 0 (fun φ1 => [(2, .int .i64 0)]) (fun φ1 => [(x, .cells #[.slice a P.length c, .int .i64 ((at0 : Nat) : Int), .int .i64 ((e : Nat) : Int)] 106)]) (fun φ1 => []) s trivial (fun φ1 => by kernel_rfl) ?_
  intro φ1 w1 s
  refine ops_done (by kernel_rfl) ?_
  refine wp_seq ?_
  refine wp_seq ?_
  refine draw_rule (C := []) ⟨(fun φ2 xs2 => [.look 0 [] [], .look 0 [] [], .look 0 [] [], .look 0 [.o 0] [x], .look 0 [] [], .look 0 [] [], .look 0 [] [], .look 0 [.o 0] [x], .look 0 [] [], .sub 0 [] [] (.bool (decide (((at0 : Nat) : Int) < ((P.length : Nat) : Int))))]), (fun φ2 xs2 => [.pointer (some ⟨x, 0, none⟩), .pointer (some ⟨x, 0, none⟩), .pointer (some ⟨x, 1, none⟩), .int .i64 ((at0 : Nat) : Int), .pointer (some ⟨x, 0, none⟩), .pointer (some ⟨x, 0, none⟩), .pointer (some ⟨x, 0, none⟩), .slice a P.length c, .int .i64 ((P.length : Nat) : Int), .bool (decide (at0 < P.length))]), (fun φ2 xs2 => [[(x, .cells #[.slice a P.length c, .int .i64 ((at0 : Nat) : Int), .int .i64 ((e : Nat) : Int)] 106)]]), (fun φ2 xs2 => [[default, default, default, default, default, default, default, default, default, default]]), [], [1, 1, 1, 1, 1, 1, 1, 1, 1, 5]⟩ (fun j => ([MP.any, MP.any, MP.any, MP.any, MP.any, MP.any, MP.any, MP.any, MP.any, MP.any] : List MP).getD j MP.any) [] [9] [] (fun φ2 xs2 => []) (fun φ2 xs2 => [(3, .pointer (some ⟨x, 0, none⟩)), (4, .pointer (some ⟨x, 0, none⟩)), (5, .pointer (some ⟨x, 1, none⟩)), (6, .int .i64 ((at0 : Nat) : Int)), (7, .pointer (some ⟨x, 0, none⟩)), (8, .pointer (some ⟨x, 0, none⟩)), (9, .pointer (some ⟨x, 0, none⟩)), (10, .slice a P.length c), (11, .int .i64 ((P.length : Nat) : Int)), (12, .bool (decide (at0 < P.length)))]) (fun φ2 xs2 => [(x, .cells #[.slice a P.length c, .int .i64 ((at0 : Nat) : Int), .int .i64 ((e : Nat) : Int)] 106)]) s trivial (by kernel_rfl) (by kernel_rfl) (fun _ _ => by kernel_rfl) (fun _ _ => by kernel_rfl) ⟨fun _ _ => by kernel_rfl, fun _ _ => by kernel_rfl, fun _ _ => by kernel_rfl, fun _ _ => by kernel_rfl⟩ (fun _ _ _ => by kernel_rfl) (fun _ _ => by kernel_rfl) (fun _ _ => by kernel_rfl) (fun _ _ => by kernel_rfl) (fun _ _ => by kernel_rfl) (fun _ _ => by kernel_rfl) ⟨kcast (A := ∀ (φ2 : Nat → Nat) (xs2 : Xs), (.bool (decide (((at0 : Nat) : Int) < ((P.length : Nat) : Int))) : Value) = .bool (decide (at0 < P.length))) (by kernel_rfl) (fun φ2 xs2 => congrArg Value.bool ((nat_lss (a := at0) (b := P.length)))), trivial⟩ trivial (by kernel_rfl) trivial ?k2
  case k2 =>
    rintro φ2 xs2 I2 w2 le2 s 
    replace hl := BSl.mono le2 hl
    rcases Bool.eq_false_or_eq_true (decide (at0 < P.length)) with hc3 | hc3
    ·
      rw [hc3]
      refine cond_true_rule (b := true) (by kernel_rfl) rfl ?_
      refine region_rule ?_
      refine ops_rule (C := []) [(x, .cells #[.slice a P.length c, .int .i64 ((at0 : Nat) : Int), .int .i64 ((e : Nat) : Int)] 106)] [] 1 [] 0 (fun φ4 => [(13, .pointer (some ⟨x, 0, none⟩))]) (fun φ4 => [(x, .cells #[.slice a P.length c, .int .i64 ((at0 : Nat) : Int), .int .i64 ((e : Nat) : Int)] 106)]) (fun φ4 => []) s trivial (fun φ4 => by kernel_rfl) ?_
      intro φ4 w4 s
      refine callB_rule (b := (x, .cells #[.slice a P.length c, .int .i64 ((at0 : Nat) : Int), .int .i64 ((e : Nat) : Int)] 106)) (H := [(x, .cells #[.slice a P.length c, .int .i64 ((at0 : Nat) : Int), .int .i64 ((e : Nat) : Int)] 106)]) (F := []) (Hr := []) (some 14) 0 s (by kernel_rfl) (by kernel_rfl) (refFail_c (x := x) (at0 := at0) (e := e) (q := 6) hl (by omega) (by omega)) (by kernel_rfl) ?_
      rintro v5 I5 w5 b5 le5 - h5 s
      replace hl := BSl.mono le5 hl
      obtain ⟨rfl, rfl⟩ := h5
      refine ops_done (by kernel_rfl) ?_
      refine wp_seq ?_
      refine region_rule ?_
      refine ops_rule (C := []) [(x, .cells #[.slice a P.length c, .int .i64 ((at0 + 0 : Nat) : Int), .int .i64 ((faE 6 e : Nat) : Int)] 106)] [] 5 [.o 0] 0 (fun φ6 => [(2, .int .i64 ((faE 6 e : Nat) : Int)), (18, .int .i64 ((faE 6 e : Nat) : Int)), (17, .pointer (some ⟨x, 2, none⟩)), (16, .pointer (some ⟨x, 0, none⟩)), (15, .pointer (some ⟨x, 0, none⟩))]) (fun φ6 => [(x, .cells #[.slice a P.length c, .int .i64 ((at0 + 0 : Nat) : Int), .int .i64 ((faE 6 e : Nat) : Int)] 106)]) (fun φ6 => [x]) s trivial (fun φ6 => by kernel_rfl) ?_
      intro φ6 w6 s
      refine ops_done (by kernel_rfl) ?_
      refine wp_ret ?_
      refine ret_rule (C := []) [(x, .cells #[.slice a P.length c, .int .i64 ((at0 + 0 : Nat) : Int), .int .i64 ((faE 6 e : Nat) : Int)] 106)] [] (.int .i64 ((faE 6 e : Nat) : Int)) [] [] s trivial (by kernel_rfl) ?_
      exact ⟨_, _, _, rfl, s, (by have hq0 := of_decide_eq_true hc3; have hL := @dlen P at0; have hk9 := numK_le (P.drop at0); have hn8 := numN_lt (P.drop at0); exact ⟨_, rfl, rfl, (by first | rw [enE_pos (by omega)] | rw [enE_none (by omega)]), (by first | rw [enE_pos (by omega)] | rw [enE_none (by omega)]; try rfl)⟩)⟩
    ·
      rw [hc3]
      refine cond_false_rule (b := false) (by kernel_rfl) rfl ?_
      refine wp_skip ?_
      refine wp_seq ?_
      refine region_rule ?_
      refine ops_rule (C := []) [(x, .cells #[.slice a P.length c, .int .i64 ((at0 : Nat) : Int), .int .i64 ((e : Nat) : Int)] 106)] [] 5 [.o 0] 0 (fun φ7 => [(2, .int .i64 ((e : Nat) : Int)), (18, .int .i64 ((e : Nat) : Int)), (17, .pointer (some ⟨x, 2, none⟩)), (16, .pointer (some ⟨x, 0, none⟩)), (15, .pointer (some ⟨x, 0, none⟩))]) (fun φ7 => [(x, .cells #[.slice a P.length c, .int .i64 ((at0 : Nat) : Int), .int .i64 ((e : Nat) : Int)] 106)]) (fun φ7 => [x]) s trivial (fun φ7 => by kernel_rfl) ?_
      intro φ7 w7 s
      refine ops_done (by kernel_rfl) ?_
      refine wp_ret ?_
      refine ret_rule (C := []) [(x, .cells #[.slice a P.length c, .int .i64 ((at0 : Nat) : Int), .int .i64 ((e : Nat) : Int)] 106)] [] (.int .i64 ((e : Nat) : Int)) [] [] s trivial (by kernel_rfl) ?_
      exact ⟨_, _, _, rfl, s, (by have hq0 := of_decide_eq_false hc3; have hL := @dlen P at0; have hk9 := numK_le (P.drop at0); have hn8 := numN_lt (P.drop at0); exact ⟨_, rfl, rfl, (by first | rw [enE_pos (by omega)] | rw [enE_none (by omega)]), (by first | rw [enE_pos (by omega)] | rw [enE_none (by omega)]; try rfl)⟩)⟩

theorem mid_drop {P : List UInt8} {at0 k n : Nat} (h : at0 + (k + n) ≤ P.length) : (P.take (at0 + (k + n))).drop (at0 + (k + n) - n) = ((P.drop at0).drop k).take n := by
  rw [show at0 + (k + n) - n = at0 + k by omega, List.drop_take, List.drop_drop, show at0 + (k + n) - (at0 + k) = n by omega]

set_option maxHeartbeats 2000000 in
theorem refText_c {I : IM} {P : List UInt8} {a : Option Addr} {k c x at0 e z : Nat} (hl : BSl I P (.slice a k c)) (hn9 : P.length ≤ 1000000) (hat : at0 ≤ P.length) (hz : z < 9223372036854775808) : FunM Tryd.prog 107 #[.pointer (some ⟨x, 0, none⟩), .int .i64 ((z : Nat) : Int)] I [(x, .cells #[.slice a k c, .int .i64 ((at0 : Nat) : Int), .int .i64 ((e : Nat) : Int)] 106)] (fun v J H' => ∃ b' : OB, H' = [b'] ∧ b'.1 = x ∧ v = .string ⟨(teV (P.drop at0) e ((z : Nat) : Int)).toArray⟩ ∧ b' = (x, .cells #[.slice a k c, .int .i64 ((at0 + teD (P.drop at0) e ((z : Nat) : Int) : Nat) : Int), .int .i64 ((teE (P.drop at0) e ((z : Nat) : Int) : Nat) : Int)] 106)) := by
  obtain ⟨rfl, -⟩ := hl.cap
  refine enterM_rule 86 [(0, .pointer (some ⟨x, 0, none⟩)), (1, .int .i64 ((z : Nat) : Int))] Tryd.func107 rfl (by kernel_rfl) ?_
  intro w s
  refine wp_seq ?_
  refine region_rule ?_
  refine ops_rule (C := []) [(x, .cells #[.slice a P.length c, .int .i64 ((at0 : Nat) : Int), .int .i64 ((e : Nat) : Int)] 106)] [] 1 [] 0 (fun φ1 => [(4, .string ⟨#[]⟩)]) (fun φ1 => [(x, .cells #[.slice a P.length c, .int .i64 ((at0 : Nat) : Int), .int .i64 ((e : Nat) : Int)] 106)]) (fun φ1 => []) s trivial (fun φ1 => by kernel_rfl) ?_
  intro φ1 w1 s
  refine ops_done (by kernel_rfl) ?_
  refine wp_seq ?_
  refine wp_seq ?_
  refine region_rule ?_
  refine ops_rule (C := []) [(x, .cells #[.slice a P.length c, .int .i64 ((at0 : Nat) : Int), .int .i64 ((e : Nat) : Int)] 106)] [] 5 [.o 0] 0 (fun φ2 => [(11, .bool (((e : Nat) : Int) != ((0 : Nat) : Int))), (10, .int .i64 ((e : Nat) : Int)), (9, .pointer (some ⟨x, 2, none⟩)), (8, .pointer (some ⟨x, 0, none⟩)), (7, .pointer (some ⟨x, 0, none⟩))]) (fun φ2 => [(x, .cells #[.slice a P.length c, .int .i64 ((at0 : Nat) : Int), .int .i64 ((e : Nat) : Int)] 106)]) (fun φ2 => [x]) s trivial (fun φ2 => by kernel_rfl) ?_
  intro φ2 w2 s
  rw [nat_neq (a := e) (b := 0)]
  refine ops_done (by kernel_rfl) ?_
  rcases Bool.eq_false_or_eq_true (decide (e ≠ 0)) with hc3 | hc3
  ·
    rw [hc3]
    refine cond_true_rule (b := true) (by kernel_rfl) rfl ?_
    refine wp_seq ?_
    refine region_rule ?_
    refine ops_rule (C := []) [(x, .cells #[.slice a P.length c, .int .i64 ((at0 : Nat) : Int), .int .i64 ((e : Nat) : Int)] 106)] [] 1 [] 0 (fun φ4 => [(4, .string ⟨#[]⟩)]) (fun φ4 => [(x, .cells #[.slice a P.length c, .int .i64 ((at0 : Nat) : Int), .int .i64 ((e : Nat) : Int)] 106)]) (fun φ4 => []) s trivial (fun φ4 => by kernel_rfl) ?_
    intro φ4 w4 s
    refine ops_done (by kernel_rfl) ?_
    refine wp_ret ?_
    refine ret_rule (C := []) [(x, .cells #[.slice a P.length c, .int .i64 ((at0 : Nat) : Int), .int .i64 ((e : Nat) : Int)] 106)] [] (.string ⟨#[]⟩) [] [] s trivial (by kernel_rfl) ?_
    exact ⟨_, _, _, rfl, s, (by have hq0 := of_decide_eq_true hc3; have hL := @dlen P at0; have hk9 := numK_le (P.drop at0); have hn8 := numN_lt (P.drop at0); exact ⟨_, rfl, rfl, (by unfold teV; first | (rw [if_neg (by unfold okT; omega)]; done) | (rw [if_neg (by unfold okT; omega)]; rfl) | (rw [if_pos (by unfold okT; omega)]; exact congrArg (fun q : List UInt8 => Value.string ⟨q.toArray⟩) (mid_drop (by omega)))), (by unfold teD teE; (first | (rw [if_neg (by unfold okT; omega)]) | (rw [if_pos (by unfold okT; omega)])); first | (rw [if_neg (by omega)]; done) | (rw [if_neg (by omega)]; rfl) | (rw [if_pos (by omega), if_pos (by omega)]; rfl) | (rw [if_pos (by omega), if_neg (by omega), if_pos (by omega)]; rfl) | (rw [if_pos (by omega), if_neg (by omega), if_neg (by omega), if_pos (by omega)]; rfl) | (rw [if_pos (by omega), if_neg (by omega), if_neg (by omega), if_neg (by omega), show e = 0 by omega]; done) | (rw [if_pos (by omega), if_neg (by omega), if_neg (by omega), if_neg (by omega), show e = 0 by omega]; rfl))⟩)⟩
  ·
    rw [hc3]
    refine cond_false_rule (b := false) (by kernel_rfl) rfl ?_
    refine wp_skip ?_
    refine wp_seq ?_
    refine draw_rule (C := []) ⟨(fun φ5 xs5 => [.look 0 [] [], .look 0 [] [], .look 0 [] [], .look 0 [.o 0] [x], .look 0 [] [], .look 0 [] [], .look 0 [] [], .look 0 [.o 0] [x], .call 113 #[.slice a P.length c, .int .i64 ((at0 : Nat) : Int)], .look 0 [] [], .look 0 [] [], .look 0 [] [], .look 0 [] [], .look 0 [] []]), (fun φ5 xs5 => [.pointer (some ⟨x, 0, none⟩), .pointer (some ⟨x, 0, none⟩), .pointer (some ⟨x, 0, none⟩), .slice a P.length c, .pointer (some ⟨x, 0, none⟩), .pointer (some ⟨x, 0, none⟩), .pointer (some ⟨x, 1, none⟩), .int .i64 ((at0 : Nat) : Int), .tuple #[.int .u64 ((numN (P.drop at0) : Nat) : Int), .int .i64 ((numK (P.drop at0) : Nat) : Int)], .tuple #[.int .u64 ((numN (P.drop at0) : Nat) : Int), .int .i64 ((numK (P.drop at0) : Nat) : Int)], .int .u64 ((numN (P.drop at0) : Nat) : Int), .int .i64 ((numK (P.drop at0) : Nat) : Int), .int .u64 ((numN (P.drop at0) : Nat) : Int), .int .i64 ((numK (P.drop at0) : Nat) : Int)]), (fun φ5 xs5 => [[(x, .cells #[.slice a P.length c, .int .i64 ((at0 : Nat) : Int), .int .i64 ((e : Nat) : Int)] 106)]]), (fun φ5 xs5 => [[default, default, default, default, default, default, default, default, default, default, default, default, default, default]]), [], [1, 1, 1, 1, 1, 1, 1, 1, 3, 1, 1, 1, 1, 1]⟩ (fun j => ([MP.any, MP.any, MP.any, MP.any, MP.any, MP.any, MP.any, MP.any, MP.any, MP.any, MP.any, MP.any, MP.any, MP.any] : List MP).getD j MP.any) [8] [] [] (fun φ5 xs5 => []) (fun φ5 xs5 => [(13, .pointer (some ⟨x, 0, none⟩)), (14, .pointer (some ⟨x, 0, none⟩)), (15, .pointer (some ⟨x, 0, none⟩)), (16, .slice a P.length c), (17, .pointer (some ⟨x, 0, none⟩)), (18, .pointer (some ⟨x, 0, none⟩)), (19, .pointer (some ⟨x, 1, none⟩)), (20, .int .i64 ((at0 : Nat) : Int)), (21, .tuple #[.int .u64 ((numN (P.drop at0) : Nat) : Int), .int .i64 ((numK (P.drop at0) : Nat) : Int)]), (12, .tuple #[.int .u64 ((numN (P.drop at0) : Nat) : Int), .int .i64 ((numK (P.drop at0) : Nat) : Int)]), (22, .int .u64 ((numN (P.drop at0) : Nat) : Int)), (23, .int .i64 ((numK (P.drop at0) : Nat) : Int)), (5, .int .u64 ((numN (P.drop at0) : Nat) : Int)), (6, .int .i64 ((numK (P.drop at0) : Nat) : Int))]) (fun φ5 xs5 => [(x, .cells #[.slice a P.length c, .int .i64 ((at0 : Nat) : Int), .int .i64 ((e : Nat) : Int)] 106)]) s trivial (by kernel_rfl) (by kernel_rfl) (fun _ _ => by kernel_rfl) (fun _ _ => by kernel_rfl) ⟨fun _ _ => by kernel_rfl, fun _ _ => by kernel_rfl, fun _ _ => by kernel_rfl, fun _ _ => by kernel_rfl⟩ (fun _ _ _ => by kernel_rfl) (fun _ _ => by kernel_rfl) (fun _ _ => by kernel_rfl) (fun _ _ => by kernel_rfl) (fun _ _ => by kernel_rfl) (fun _ _ => by kernel_rfl) trivial trivial (by kernel_rfl) ⟨?c5_8, trivial⟩ ?k5
    case c5_8 =>
      refine kcast (A := ∀ (φ5 : Nat → Nat) (xs5 : Xs) (J8_5 : IM), I.Le J8_5 → Fun Tryd.prog 113 #[.slice a P.length c, .int .i64 ((at0 : Nat) : Int)] J8_5 (fun v J' => ∃ x : UX, v = .tuple #[.int .u64 ((numN (P.drop at0) : Nat) : Int), .int .i64 ((numK (P.drop at0) : Nat) : Int)] ∧ (True))) (by kernel_rfl) ?_
      intro φ5 xs5 J8_5 leJ
      have hl := BSl.mono leJ hl
      exact Fun.mono (refnumAt_c hl (by omega) (by omega)) (fun v J' _ h => ⟨UX.d, h, trivial⟩)
    case k5 =>
      rintro φ5 xs5 I5 w5 le5 s _
      replace hl := BSl.mono le5 hl
      refine wp_seq ?_
      refine wp_seq ?_
      refine region_rule ?_
      refine ops_rule (C := []) [(x, .cells #[.slice a P.length c, .int .i64 ((at0 : Nat) : Int), .int .i64 ((e : Nat) : Int)] 106)] [] 2 [] 0 (fun φ6 => [(25, .bool (((numK (P.drop at0) : Nat) : Int) == ((0 : Nat) : Int))), (24, .int .i64 ((numK (P.drop at0) : Nat) : Int))]) (fun φ6 => [(x, .cells #[.slice a P.length c, .int .i64 ((at0 : Nat) : Int), .int .i64 ((e : Nat) : Int)] 106)]) (fun φ6 => []) s trivial (fun φ6 => by kernel_rfl) ?_
      intro φ6 w6 s
      rw [nat_eql (a := (numK (P.drop at0))) (b := 0)]
      refine ops_done (by kernel_rfl) ?_
      rcases Bool.eq_false_or_eq_true (decide ((numK (P.drop at0)) = 0)) with hc7 | hc7
      ·
        rw [hc7]
        refine cond_true_rule (b := true) (by kernel_rfl) rfl ?_
        refine wp_seq ?_
        refine region_rule ?_
        refine ops_rule (C := []) [(x, .cells #[.slice a P.length c, .int .i64 ((at0 : Nat) : Int), .int .i64 ((e : Nat) : Int)] 106)] [] 4 [.o 0] 0 (fun φ8 => [(28, .pointer (some ⟨x, 2, none⟩)), (27, .pointer (some ⟨x, 0, none⟩)), (26, .pointer (some ⟨x, 0, none⟩))]) (fun φ8 => [(x, .cells #[.slice a P.length c, .int .i64 ((at0 : Nat) : Int), .int .i64 6] 106)]) (fun φ8 => [x]) s trivial (fun φ8 => by kernel_rfl) ?_
        intro φ8 w8 s
        refine ops_done (by kernel_rfl) ?_
        refine wp_seq ?_
        refine region_rule ?_
        refine ops_rule (C := []) [(x, .cells #[.slice a P.length c, .int .i64 ((at0 : Nat) : Int), .int .i64 6] 106)] [] 1 [] 0 (fun φ9 => [(4, .string ⟨#[]⟩)]) (fun φ9 => [(x, .cells #[.slice a P.length c, .int .i64 ((at0 : Nat) : Int), .int .i64 6] 106)]) (fun φ9 => []) s trivial (fun φ9 => by kernel_rfl) ?_
        intro φ9 w9 s
        refine ops_done (by kernel_rfl) ?_
        refine wp_ret ?_
        refine ret_rule (C := []) [(x, .cells #[.slice a P.length c, .int .i64 ((at0 : Nat) : Int), .int .i64 6] 106)] [] (.string ⟨#[]⟩) [] [] s trivial (by kernel_rfl) ?_
        exact ⟨_, _, _, rfl, s, (by have hq0 := of_decide_eq_false hc3; have hq1 := of_decide_eq_true hc7; have hL := @dlen P at0; have hk9 := numK_le (P.drop at0); have hn8 := numN_lt (P.drop at0); exact ⟨_, rfl, rfl, (by unfold teV; first | (rw [if_neg (by unfold okT; omega)]; done) | (rw [if_neg (by unfold okT; omega)]; rfl) | (rw [if_pos (by unfold okT; omega)]; exact congrArg (fun q : List UInt8 => Value.string ⟨q.toArray⟩) (mid_drop (by omega)))), (by unfold teD teE; (first | (rw [if_neg (by unfold okT; omega)]) | (rw [if_pos (by unfold okT; omega)])); first | (rw [if_neg (by omega)]; done) | (rw [if_neg (by omega)]; rfl) | (rw [if_pos (by omega), if_pos (by omega)]; rfl) | (rw [if_pos (by omega), if_neg (by omega), if_pos (by omega)]; rfl) | (rw [if_pos (by omega), if_neg (by omega), if_neg (by omega), if_pos (by omega)]; rfl) | (rw [if_pos (by omega), if_neg (by omega), if_neg (by omega), if_neg (by omega), show e = 0 by omega]; done) | (rw [if_pos (by omega), if_neg (by omega), if_neg (by omega), if_neg (by omega), show e = 0 by omega]; rfl))⟩)⟩
      ·
        rw [hc7]
        refine cond_false_rule (b := false) (by kernel_rfl) rfl ?_
        refine wp_skip ?_
        refine wp_seq ?_
        refine wp_seq ?_
        refine region_rule ?_
        refine ops_rule (C := []) [(x, .cells #[.slice a P.length c, .int .i64 ((at0 : Nat) : Int), .int .i64 ((e : Nat) : Int)] 106)] [] 3 [] 0 (fun φ10 => [(31, .bool (decide (((z : Nat) : Int) < ((0 : Nat) : Int)))), (30, .bool (decide (((z : Nat) : Int) < ((0 : Nat) : Int)))), (29, .int .i64 ((z : Nat) : Int))]) (fun φ10 => [(x, .cells #[.slice a P.length c, .int .i64 ((at0 : Nat) : Int), .int .i64 ((e : Nat) : Int)] 106)]) (fun φ10 => []) s trivial (fun φ10 => by kernel_rfl) ?_
        intro φ10 w10 s
        rw [nat_lss (a := z) (b := 0)]
        rcases Bool.eq_false_or_eq_true (decide (z < 0)) with hc11 | hc11
        ·
          rw [hc11]
          refine ops_rule (C := []) [(x, .cells #[.slice a P.length c, .int .i64 ((at0 : Nat) : Int), .int .i64 ((e : Nat) : Int)] 106)] [] 5 [] 0 (fun φ12 => [(36, .bool true), (35, undef), (34, undef), (33, undef), (32, undef)]) (fun φ12 => [(x, .cells #[.slice a P.length c, .int .i64 ((at0 : Nat) : Int), .int .i64 ((e : Nat) : Int)] 106)]) (fun φ12 => []) s trivial (fun φ12 => by kernel_rfl) ?_
          intro φ12 w12 s
          refine ops_done (by kernel_rfl) ?_
          refine cond_true_rule (b := true) (by kernel_rfl) rfl ?_
          refine wp_seq ?_
          refine region_rule ?_
          refine ops_rule (C := []) [(x, .cells #[.slice a P.length c, .int .i64 ((at0 : Nat) : Int), .int .i64 ((e : Nat) : Int)] 106)] [] 4 [.o 0] 0 (fun φ13 => [(39, .pointer (some ⟨x, 2, none⟩)), (38, .pointer (some ⟨x, 0, none⟩)), (37, .pointer (some ⟨x, 0, none⟩))]) (fun φ13 => [(x, .cells #[.slice a P.length c, .int .i64 ((at0 : Nat) : Int), .int .i64 9] 106)]) (fun φ13 => [x]) s trivial (fun φ13 => by kernel_rfl) ?_
          intro φ13 w13 s
          refine ops_done (by kernel_rfl) ?_
          refine wp_seq ?_
          refine region_rule ?_
          refine ops_rule (C := []) [(x, .cells #[.slice a P.length c, .int .i64 ((at0 : Nat) : Int), .int .i64 9] 106)] [] 1 [] 0 (fun φ14 => [(4, .string ⟨#[]⟩)]) (fun φ14 => [(x, .cells #[.slice a P.length c, .int .i64 ((at0 : Nat) : Int), .int .i64 9] 106)]) (fun φ14 => []) s trivial (fun φ14 => by kernel_rfl) ?_
          intro φ14 w14 s
          refine ops_done (by kernel_rfl) ?_
          refine wp_ret ?_
          refine ret_rule (C := []) [(x, .cells #[.slice a P.length c, .int .i64 ((at0 : Nat) : Int), .int .i64 9] 106)] [] (.string ⟨#[]⟩) [] [] s trivial (by kernel_rfl) ?_
          exact ⟨_, _, _, rfl, s, (by have hq0 := of_decide_eq_false hc3; have hq1 := of_decide_eq_false hc7; have hq2 := of_decide_eq_true hc11; have hL := @dlen P at0; have hk9 := numK_le (P.drop at0); have hn8 := numN_lt (P.drop at0); exact ⟨_, rfl, rfl, (by unfold teV; first | (rw [if_neg (by unfold okT; omega)]; done) | (rw [if_neg (by unfold okT; omega)]; rfl) | (rw [if_pos (by unfold okT; omega)]; exact congrArg (fun q : List UInt8 => Value.string ⟨q.toArray⟩) (mid_drop (by omega)))), (by unfold teD teE; (first | (rw [if_neg (by unfold okT; omega)]) | (rw [if_pos (by unfold okT; omega)])); first | (rw [if_neg (by omega)]; done) | (rw [if_neg (by omega)]; rfl) | (rw [if_pos (by omega), if_pos (by omega)]; rfl) | (rw [if_pos (by omega), if_neg (by omega), if_pos (by omega)]; rfl) | (rw [if_pos (by omega), if_neg (by omega), if_neg (by omega), if_pos (by omega)]; rfl) | (rw [if_pos (by omega), if_neg (by omega), if_neg (by omega), if_neg (by omega), show e = 0 by omega]; done) | (rw [if_pos (by omega), if_neg (by omega), if_neg (by omega), if_neg (by omega), show e = 0 by omega]; rfl))⟩)⟩
        ·
          rw [hc11]
          refine ops_rule (C := []) [(x, .cells #[.slice a P.length c, .int .i64 ((at0 : Nat) : Int), .int .i64 ((e : Nat) : Int)] 106)] [] 5 [] 0 (fun φ15 => [(36, .bool (decide (((numN (P.drop at0) : Nat) : Int) > (IntKind.wrap .u64 ((z : Nat) : Int))))), (35, .bool (decide (((numN (P.drop at0) : Nat) : Int) > (IntKind.wrap .u64 ((z : Nat) : Int))))), (34, .int .u64 (IntKind.wrap .u64 ((z : Nat) : Int))), (33, .int .i64 ((z : Nat) : Int)), (32, .int .u64 ((numN (P.drop at0) : Nat) : Int))]) (fun φ15 => [(x, .cells #[.slice a P.length c, .int .i64 ((at0 : Nat) : Int), .int .i64 ((e : Nat) : Int)] 106)]) (fun φ15 => []) s trivial (fun φ15 => by kernel_rfl) ?_
          intro φ15 w15 s
          rw [nat_wrapU (a := z) (by have hL := @dlen P at0; have hk9 := numK_le (P.drop at0); have hn8 := numN_lt (P.drop at0); have hq0 := of_decide_eq_false hc3; have hq1 := of_decide_eq_false hc7; have hq2 := of_decide_eq_false hc11; omega)]
          rw [nat_gtr (a := (numN (P.drop at0))) (b := z)]
          refine ops_done (by kernel_rfl) ?_
          rcases Bool.eq_false_or_eq_true (decide (z < (numN (P.drop at0)))) with hc16 | hc16
          ·
            rw [hc16]
            refine cond_true_rule (b := true) (by kernel_rfl) rfl ?_
            refine wp_seq ?_
            refine region_rule ?_
            refine ops_rule (C := []) [(x, .cells #[.slice a P.length c, .int .i64 ((at0 : Nat) : Int), .int .i64 ((e : Nat) : Int)] 106)] [] 4 [.o 0] 0 (fun φ17 => [(39, .pointer (some ⟨x, 2, none⟩)), (38, .pointer (some ⟨x, 0, none⟩)), (37, .pointer (some ⟨x, 0, none⟩))]) (fun φ17 => [(x, .cells #[.slice a P.length c, .int .i64 ((at0 : Nat) : Int), .int .i64 9] 106)]) (fun φ17 => [x]) s trivial (fun φ17 => by kernel_rfl) ?_
            intro φ17 w17 s
            refine ops_done (by kernel_rfl) ?_
            refine wp_seq ?_
            refine region_rule ?_
            refine ops_rule (C := []) [(x, .cells #[.slice a P.length c, .int .i64 ((at0 : Nat) : Int), .int .i64 9] 106)] [] 1 [] 0 (fun φ18 => [(4, .string ⟨#[]⟩)]) (fun φ18 => [(x, .cells #[.slice a P.length c, .int .i64 ((at0 : Nat) : Int), .int .i64 9] 106)]) (fun φ18 => []) s trivial (fun φ18 => by kernel_rfl) ?_
            intro φ18 w18 s
            refine ops_done (by kernel_rfl) ?_
            refine wp_ret ?_
            refine ret_rule (C := []) [(x, .cells #[.slice a P.length c, .int .i64 ((at0 : Nat) : Int), .int .i64 9] 106)] [] (.string ⟨#[]⟩) [] [] s trivial (by kernel_rfl) ?_
            exact ⟨_, _, _, rfl, s, (by have hq0 := of_decide_eq_false hc3; have hq1 := of_decide_eq_false hc7; have hq2 := of_decide_eq_false hc11; have hq3 := of_decide_eq_true hc16; have hL := @dlen P at0; have hk9 := numK_le (P.drop at0); have hn8 := numN_lt (P.drop at0); exact ⟨_, rfl, rfl, (by unfold teV; first | (rw [if_neg (by unfold okT; omega)]; done) | (rw [if_neg (by unfold okT; omega)]; rfl) | (rw [if_pos (by unfold okT; omega)]; exact congrArg (fun q : List UInt8 => Value.string ⟨q.toArray⟩) (mid_drop (by omega)))), (by unfold teD teE; (first | (rw [if_neg (by unfold okT; omega)]) | (rw [if_pos (by unfold okT; omega)])); first | (rw [if_neg (by omega)]; done) | (rw [if_neg (by omega)]; rfl) | (rw [if_pos (by omega), if_pos (by omega)]; rfl) | (rw [if_pos (by omega), if_neg (by omega), if_pos (by omega)]; rfl) | (rw [if_pos (by omega), if_neg (by omega), if_neg (by omega), if_pos (by omega)]; rfl) | (rw [if_pos (by omega), if_neg (by omega), if_neg (by omega), if_neg (by omega), show e = 0 by omega]; done) | (rw [if_pos (by omega), if_neg (by omega), if_neg (by omega), if_neg (by omega), show e = 0 by omega]; rfl))⟩)⟩
          ·
            rw [hc16]
            refine cond_false_rule (b := false) (by kernel_rfl) rfl ?_
            refine wp_skip ?_
            refine wp_seq ?_
            refine wp_seq ?_
            refine draw_rule (C := []) ⟨(fun φ19 xs19 => [.look 0 [] [], .look 0 [] [], .look 0 [] [], .look 0 [] [], .look 0 [.o 0] [x], .look 0 [] [], .look 0 [] [], .look 0 [] [], .look 0 [] [], .look 0 [.o 0] [x], .sub 0 [] [] (.int .i64 (IntKind.wrap .i64 (((P.length : Nat) : Int) - ((at0 : Nat) : Int)))), .look 0 [] [], .sub 0 [] [] (.int .i64 (IntKind.wrap .i64 (((P.length - at0 : Nat) : Int) - ((numK (P.drop at0) : Nat) : Int)))), .sub 0 [] [] (.int .u64 (IntKind.wrap .u64 (((P.length - at0) - (numK (P.drop at0)) : Nat) : Int))), .sub 0 [] [] (.bool (decide (((numN (P.drop at0) : Nat) : Int) > (((P.length - at0) - (numK (P.drop at0)) : Nat) : Int))))]), (fun φ19 xs19 => [.int .u64 ((numN (P.drop at0) : Nat) : Int), .pointer (some ⟨x, 0, none⟩), .pointer (some ⟨x, 0, none⟩), .pointer (some ⟨x, 0, none⟩), .slice a P.length c, .int .i64 ((P.length : Nat) : Int), .pointer (some ⟨x, 0, none⟩), .pointer (some ⟨x, 0, none⟩), .pointer (some ⟨x, 1, none⟩), .int .i64 ((at0 : Nat) : Int), .int .i64 ((P.length - at0 : Nat) : Int), .int .i64 ((numK (P.drop at0) : Nat) : Int), .int .i64 (((P.length - at0) - (numK (P.drop at0)) : Nat) : Int), .int .u64 (((P.length - at0) - (numK (P.drop at0)) : Nat) : Int), .bool (decide (((P.length - at0) - (numK (P.drop at0))) < (numN (P.drop at0))))]), (fun φ19 xs19 => [[(x, .cells #[.slice a P.length c, .int .i64 ((at0 : Nat) : Int), .int .i64 ((e : Nat) : Int)] 106)]]), (fun φ19 xs19 => [[default, default, default, default, default, default, default, default, default, default, default, default, default, default, default]]), [], [1, 1, 1, 1, 1, 1, 1, 1, 1, 1, 5, 1, 5, 5, 5]⟩ (fun j => ([MP.any, MP.any, MP.any, MP.any, MP.any, MP.any, MP.any, MP.any, MP.any, MP.any, MP.any, MP.any, MP.any, MP.any, MP.any] : List MP).getD j MP.any) [] [10, 12, 13, 14] [] (fun φ19 xs19 => []) (fun φ19 xs19 => [(40, .int .u64 ((numN (P.drop at0) : Nat) : Int)), (41, .pointer (some ⟨x, 0, none⟩)), (42, .pointer (some ⟨x, 0, none⟩)), (43, .pointer (some ⟨x, 0, none⟩)), (44, .slice a P.length c), (45, .int .i64 ((P.length : Nat) : Int)), (46, .pointer (some ⟨x, 0, none⟩)), (47, .pointer (some ⟨x, 0, none⟩)), (48, .pointer (some ⟨x, 1, none⟩)), (49, .int .i64 ((at0 : Nat) : Int)), (50, .int .i64 ((P.length - at0 : Nat) : Int)), (51, .int .i64 ((numK (P.drop at0) : Nat) : Int)), (52, .int .i64 (((P.length - at0) - (numK (P.drop at0)) : Nat) : Int)), (53, .int .u64 (((P.length - at0) - (numK (P.drop at0)) : Nat) : Int)), (54, .bool (decide (((P.length - at0) - (numK (P.drop at0))) < (numN (P.drop at0)))))]) (fun φ19 xs19 => [(x, .cells #[.slice a P.length c, .int .i64 ((at0 : Nat) : Int), .int .i64 ((e : Nat) : Int)] 106)]) s trivial (by kernel_rfl) (by kernel_rfl) (fun _ _ => by kernel_rfl) (fun _ _ => by kernel_rfl) ⟨fun _ _ => by kernel_rfl, fun _ _ => by kernel_rfl, fun _ _ => by kernel_rfl, fun _ _ => by kernel_rfl⟩ (fun _ _ _ => by kernel_rfl) (fun _ _ => by kernel_rfl) (fun _ _ => by kernel_rfl) (fun _ _ => by kernel_rfl) (fun _ _ => by kernel_rfl) (fun _ _ => by kernel_rfl) ⟨kcast (A := ∀ (φ19 : Nat → Nat) (xs19 : Xs), (.int .i64 (IntKind.wrap .i64 (((P.length : Nat) : Int) - ((at0 : Nat) : Int))) : Value) = .int .i64 ((P.length - at0 : Nat) : Int)) (by kernel_rfl) (fun φ19 xs19 => congrArg (Value.int .i64) ((nat_subI (a := P.length) (b := at0) (by have hL := @dlen P at0; have hk9 := numK_le (P.drop at0); have hn8 := numN_lt (P.drop at0); have hq0 := of_decide_eq_false hc3; have hq1 := of_decide_eq_false hc7; have hq2 := of_decide_eq_false hc11; have hq3 := of_decide_eq_false hc16; (try simp only [List.length_drop, List.length_take, List.length_append, List.length_cons, List.length_nil]); omega) (by have hL := @dlen P at0; have hk9 := numK_le (P.drop at0); have hn8 := numN_lt (P.drop at0); have hq0 := of_decide_eq_false hc3; have hq1 := of_decide_eq_false hc7; have hq2 := of_decide_eq_false hc11; have hq3 := of_decide_eq_false hc16; (try simp only [List.length_drop, List.length_take, List.length_append, List.length_cons, List.length_nil]); omega)))), ⟨kcast (A := ∀ (φ19 : Nat → Nat) (xs19 : Xs), (.int .i64 (IntKind.wrap .i64 (((P.length - at0 : Nat) : Int) - ((numK (P.drop at0) : Nat) : Int))) : Value) = .int .i64 (((P.length - at0) - (numK (P.drop at0)) : Nat) : Int)) (by kernel_rfl) (fun φ19 xs19 => congrArg (Value.int .i64) ((nat_subI (a := (P.length - at0)) (b := (numK (P.drop at0))) (by have hL := @dlen P at0; have hk9 := numK_le (P.drop at0); have hn8 := numN_lt (P.drop at0); have hq0 := of_decide_eq_false hc3; have hq1 := of_decide_eq_false hc7; have hq2 := of_decide_eq_false hc11; have hq3 := of_decide_eq_false hc16; (try simp only [List.length_drop, List.length_take, List.length_append, List.length_cons, List.length_nil]); omega) (by have hL := @dlen P at0; have hk9 := numK_le (P.drop at0); have hn8 := numN_lt (P.drop at0); have hq0 := of_decide_eq_false hc3; have hq1 := of_decide_eq_false hc7; have hq2 := of_decide_eq_false hc11; have hq3 := of_decide_eq_false hc16; (try simp only [List.length_drop, List.length_take, List.length_append, List.length_cons, List.length_nil]); omega)))), ⟨kcast (A := ∀ (φ19 : Nat → Nat) (xs19 : Xs), (.int .u64 (IntKind.wrap .u64 (((P.length - at0) - (numK (P.drop at0)) : Nat) : Int)) : Value) = .int .u64 (((P.length - at0) - (numK (P.drop at0)) : Nat) : Int)) (by kernel_rfl) (fun φ19 xs19 => congrArg (Value.int .u64) ((nat_wrapU (a := ((P.length - at0) - (numK (P.drop at0)))) (by have hL := @dlen P at0; have hk9 := numK_le (P.drop at0); have hn8 := numN_lt (P.drop at0); have hq0 := of_decide_eq_false hc3; have hq1 := of_decide_eq_false hc7; have hq2 := of_decide_eq_false hc11; have hq3 := of_decide_eq_false hc16; (try simp only [List.length_drop, List.length_take, List.length_append, List.length_cons, List.length_nil]); omega)))), ⟨kcast (A := ∀ (φ19 : Nat → Nat) (xs19 : Xs), (.bool (decide (((numN (P.drop at0) : Nat) : Int) > (((P.length - at0) - (numK (P.drop at0)) : Nat) : Int))) : Value) = .bool (decide (((P.length - at0) - (numK (P.drop at0))) < (numN (P.drop at0))))) (by kernel_rfl) (fun φ19 xs19 => congrArg Value.bool ((nat_gtr (a := (numN (P.drop at0))) (b := ((P.length - at0) - (numK (P.drop at0))))))), trivial⟩⟩⟩⟩ trivial (by kernel_rfl) trivial ?k19
            case k19 =>
              rintro φ19 xs19 I19 w19 le19 s 
              replace hl := BSl.mono le19 hl
              rcases Bool.eq_false_or_eq_true (decide (((P.length - at0) - (numK (P.drop at0))) < (numN (P.drop at0)))) with hc20 | hc20
              ·
                rw [hc20]
                refine cond_true_rule (b := true) (by kernel_rfl) rfl ?_
                refine wp_seq ?_
                refine region_rule ?_
                refine ops_rule (C := []) [(x, .cells #[.slice a P.length c, .int .i64 ((at0 : Nat) : Int), .int .i64 ((e : Nat) : Int)] 106)] [] 4 [.o 0] 0 (fun φ21 => [(57, .pointer (some ⟨x, 2, none⟩)), (56, .pointer (some ⟨x, 0, none⟩)), (55, .pointer (some ⟨x, 0, none⟩))]) (fun φ21 => [(x, .cells #[.slice a P.length c, .int .i64 ((at0 : Nat) : Int), .int .i64 6] 106)]) (fun φ21 => [x]) s trivial (fun φ21 => by kernel_rfl) ?_
                intro φ21 w21 s
                refine ops_done (by kernel_rfl) ?_
                refine wp_seq ?_
                refine region_rule ?_
                refine ops_rule (C := []) [(x, .cells #[.slice a P.length c, .int .i64 ((at0 : Nat) : Int), .int .i64 6] 106)] [] 1 [] 0 (fun φ22 => [(4, .string ⟨#[]⟩)]) (fun φ22 => [(x, .cells #[.slice a P.length c, .int .i64 ((at0 : Nat) : Int), .int .i64 6] 106)]) (fun φ22 => []) s trivial (fun φ22 => by kernel_rfl) ?_
                intro φ22 w22 s
                refine ops_done (by kernel_rfl) ?_
                refine wp_ret ?_
                refine ret_rule (C := []) [(x, .cells #[.slice a P.length c, .int .i64 ((at0 : Nat) : Int), .int .i64 6] 106)] [] (.string ⟨#[]⟩) [] [] s trivial (by kernel_rfl) ?_
                exact ⟨_, _, _, rfl, s, (by have hq0 := of_decide_eq_false hc3; have hq1 := of_decide_eq_false hc7; have hq2 := of_decide_eq_false hc11; have hq3 := of_decide_eq_false hc16; have hq4 := of_decide_eq_true hc20; have hL := @dlen P at0; have hk9 := numK_le (P.drop at0); have hn8 := numN_lt (P.drop at0); exact ⟨_, rfl, rfl, (by unfold teV; first | (rw [if_neg (by unfold okT; omega)]; done) | (rw [if_neg (by unfold okT; omega)]; rfl) | (rw [if_pos (by unfold okT; omega)]; exact congrArg (fun q : List UInt8 => Value.string ⟨q.toArray⟩) (mid_drop (by omega)))), (by unfold teD teE; (first | (rw [if_neg (by unfold okT; omega)]) | (rw [if_pos (by unfold okT; omega)])); first | (rw [if_neg (by omega)]; done) | (rw [if_neg (by omega)]; rfl) | (rw [if_pos (by omega), if_pos (by omega)]; rfl) | (rw [if_pos (by omega), if_neg (by omega), if_pos (by omega)]; rfl) | (rw [if_pos (by omega), if_neg (by omega), if_neg (by omega), if_pos (by omega)]; rfl) | (rw [if_pos (by omega), if_neg (by omega), if_neg (by omega), if_neg (by omega), show e = 0 by omega]; done) | (rw [if_pos (by omega), if_neg (by omega), if_neg (by omega), if_neg (by omega), show e = 0 by omega]; rfl))⟩)⟩
              ·
                rw [hc20]
                refine cond_false_rule (b := false) (by kernel_rfl) rfl ?_
                refine wp_skip ?_
                refine wp_seq ?_
                refine region_rule ?_
                refine ops_rule (C := []) [(x, .cells #[.slice a P.length c, .int .i64 ((at0 : Nat) : Int), .int .i64 ((e : Nat) : Int)] 106)] [] 12 [.o 0, .o 0] 0 (fun φ23 => [(68, .pointer (some ⟨x, 1, none⟩)), (67, .pointer (some ⟨x, 0, none⟩)), (66, .int .i64 (IntKind.wrap .i64 (((at0 : Nat) : Int) + (IntKind.wrap .i64 (((numK (P.drop at0) : Nat) : Int) + (IntKind.wrap .i64 ((numN (P.drop at0) : Nat) : Int))))))), (65, .int .i64 (IntKind.wrap .i64 (((numK (P.drop at0) : Nat) : Int) + (IntKind.wrap .i64 ((numN (P.drop at0) : Nat) : Int))))), (64, .int .i64 (IntKind.wrap .i64 ((numN (P.drop at0) : Nat) : Int))), (63, .int .u64 ((numN (P.drop at0) : Nat) : Int)), (62, .int .i64 ((numK (P.drop at0) : Nat) : Int)), (61, .int .i64 ((at0 : Nat) : Int)), (60, .pointer (some ⟨x, 1, none⟩)), (59, .pointer (some ⟨x, 0, none⟩)), (58, .pointer (some ⟨x, 0, none⟩))]) (fun φ23 => [(x, .cells #[.slice a P.length c, .int .i64 (IntKind.wrap .i64 (((at0 : Nat) : Int) + (IntKind.wrap .i64 (((numK (P.drop at0) : Nat) : Int) + (IntKind.wrap .i64 ((numN (P.drop at0) : Nat) : Int)))))), .int .i64 ((e : Nat) : Int)] 106)]) (fun φ23 => [x, x]) s trivial (fun φ23 => by kernel_rfl) ?_
                intro φ23 w23 s
                rw [nat_wrapI (a := (numN (P.drop at0))) (by have hL := @dlen P at0; have hk9 := numK_le (P.drop at0); have hn8 := numN_lt (P.drop at0); have hq0 := of_decide_eq_false hc3; have hq1 := of_decide_eq_false hc7; have hq2 := of_decide_eq_false hc11; have hq3 := of_decide_eq_false hc16; have hq4 := of_decide_eq_false hc20; omega)] at s ⊢
                rw [nat_addI (a := (numK (P.drop at0))) (b := (numN (P.drop at0))) (by have hL := @dlen P at0; have hk9 := numK_le (P.drop at0); have hn8 := numN_lt (P.drop at0); have hq0 := of_decide_eq_false hc3; have hq1 := of_decide_eq_false hc7; have hq2 := of_decide_eq_false hc11; have hq3 := of_decide_eq_false hc16; have hq4 := of_decide_eq_false hc20; omega)] at s ⊢
                rw [nat_addI (a := at0) (b := ((numK (P.drop at0)) + (numN (P.drop at0)))) (by have hL := @dlen P at0; have hk9 := numK_le (P.drop at0); have hn8 := numN_lt (P.drop at0); have hq0 := of_decide_eq_false hc3; have hq1 := of_decide_eq_false hc7; have hq2 := of_decide_eq_false hc11; have hq3 := of_decide_eq_false hc16; have hq4 := of_decide_eq_false hc20; omega)] at s ⊢
                refine ops_done (by kernel_rfl) ?_
                refine wp_seq ?_
                refine draw_rule (C := []) ⟨(fun φ24 xs24 => [.look 0 [] [], .look 0 [] [], .look 0 [] [], .look 0 [.o 0] [x], .look 0 [] [], .look 0 [] [], .look 0 [] [], .look 0 [.o 0] [x], .look 0 [] [], .sub 0 [] [] (.int .i64 (IntKind.wrap .i64 ((numN (P.drop at0) : Nat) : Int))), .sub 0 [] [] (.int .i64 (IntKind.wrap .i64 (((at0 + ((numK (P.drop at0)) + (numN (P.drop at0))) : Nat) : Int) - ((numN (P.drop at0) : Nat) : Int)))), .look 0 [] [], .look 0 [] [], .look 0 [] [], .look 0 [.o 0] [x], .ran (Instr.sliceAt 61 (.slice a P.length c) (some (.int .i64 (((at0 + ((numK (P.drop at0)) + (numN (P.drop at0)))) - (numN (P.drop at0)) : Nat) : Int))) (some (.int .i64 ((at0 + ((numK (P.drop at0)) + (numN (P.drop at0))) : Nat) : Int))) none), .ran (convert 61 9 (.slice (subA a ((at0 + ((numK (P.drop at0)) + (numN (P.drop at0)))) - (numN (P.drop at0))) c) (at0 + ((numK (P.drop at0)) + (numN (P.drop at0))) - ((at0 + ((numK (P.drop at0)) + (numN (P.drop at0)))) - (numN (P.drop at0)))) (c - ((at0 + ((numK (P.drop at0)) + (numN (P.drop at0)))) - (numN (P.drop at0)))))), .look 0 [] []]), (fun φ24 xs24 => [.pointer (some ⟨x, 0, none⟩), .pointer (some ⟨x, 0, none⟩), .pointer (some ⟨x, 0, none⟩), .slice a P.length c, .pointer (some ⟨x, 0, none⟩), .pointer (some ⟨x, 0, none⟩), .pointer (some ⟨x, 1, none⟩), .int .i64 ((at0 + ((numK (P.drop at0)) + (numN (P.drop at0))) : Nat) : Int), .int .u64 ((numN (P.drop at0) : Nat) : Int), .int .i64 ((numN (P.drop at0) : Nat) : Int), .int .i64 (((at0 + ((numK (P.drop at0)) + (numN (P.drop at0)))) - (numN (P.drop at0)) : Nat) : Int), .pointer (some ⟨x, 0, none⟩), .pointer (some ⟨x, 0, none⟩), .pointer (some ⟨x, 1, none⟩), .int .i64 ((at0 + ((numK (P.drop at0)) + (numN (P.drop at0))) : Nat) : Int), .slice (subA a ((at0 + ((numK (P.drop at0)) + (numN (P.drop at0)))) - (numN (P.drop at0))) c) (at0 + ((numK (P.drop at0)) + (numN (P.drop at0))) - ((at0 + ((numK (P.drop at0)) + (numN (P.drop at0)))) - (numN (P.drop at0)))) (c - ((at0 + ((numK (P.drop at0)) + (numN (P.drop at0)))) - (numN (P.drop at0)))), .string ⟨(((P.take (at0 + ((numK (P.drop at0)) + (numN (P.drop at0))))).drop ((at0 + ((numK (P.drop at0)) + (numN (P.drop at0)))) - (numN (P.drop at0))))).toArray⟩, .string ⟨(((P.take (at0 + ((numK (P.drop at0)) + (numN (P.drop at0))))).drop ((at0 + ((numK (P.drop at0)) + (numN (P.drop at0)))) - (numN (P.drop at0))))).toArray⟩]), (fun φ24 xs24 => [[(x, .cells #[.slice a P.length c, .int .i64 ((at0 + ((numK (P.drop at0)) + (numN (P.drop at0))) : Nat) : Int), .int .i64 ((e : Nat) : Int)] 106)]]), (fun φ24 xs24 => [[default, default, default, default, default, default, default, default, default, default, default, default, default, default, default, default, default, default]]), [], [1, 1, 1, 1, 1, 1, 1, 1, 1, 5, 5, 1, 1, 1, 1, 6, 6, 1]⟩ (fun j => ([MP.any, MP.any, MP.any, MP.any, MP.any, MP.any, MP.any, MP.any, MP.any, MP.any, MP.any, MP.any, MP.any, MP.any, MP.any, MP.any, MP.any, MP.any] : List MP).getD j MP.any) [] [9, 10] [15, 16] (fun φ24 xs24 => []) (fun φ24 xs24 => [(69, .pointer (some ⟨x, 0, none⟩)), (70, .pointer (some ⟨x, 0, none⟩)), (71, .pointer (some ⟨x, 0, none⟩)), (72, .slice a P.length c), (73, .pointer (some ⟨x, 0, none⟩)), (74, .pointer (some ⟨x, 0, none⟩)), (75, .pointer (some ⟨x, 1, none⟩)), (76, .int .i64 ((at0 + ((numK (P.drop at0)) + (numN (P.drop at0))) : Nat) : Int)), (77, .int .u64 ((numN (P.drop at0) : Nat) : Int)), (78, .int .i64 ((numN (P.drop at0) : Nat) : Int)), (79, .int .i64 (((at0 + ((numK (P.drop at0)) + (numN (P.drop at0)))) - (numN (P.drop at0)) : Nat) : Int)), (80, .pointer (some ⟨x, 0, none⟩)), (81, .pointer (some ⟨x, 0, none⟩)), (82, .pointer (some ⟨x, 1, none⟩)), (83, .int .i64 ((at0 + ((numK (P.drop at0)) + (numN (P.drop at0))) : Nat) : Int)), (84, .slice (subA a ((at0 + ((numK (P.drop at0)) + (numN (P.drop at0)))) - (numN (P.drop at0))) c) (at0 + ((numK (P.drop at0)) + (numN (P.drop at0))) - ((at0 + ((numK (P.drop at0)) + (numN (P.drop at0)))) - (numN (P.drop at0)))) (c - ((at0 + ((numK (P.drop at0)) + (numN (P.drop at0)))) - (numN (P.drop at0))))), (85, .string ⟨(((P.take (at0 + ((numK (P.drop at0)) + (numN (P.drop at0))))).drop ((at0 + ((numK (P.drop at0)) + (numN (P.drop at0)))) - (numN (P.drop at0))))).toArray⟩), (4, .string ⟨(((P.take (at0 + ((numK (P.drop at0)) + (numN (P.drop at0))))).drop ((at0 + ((numK (P.drop at0)) + (numN (P.drop at0)))) - (numN (P.drop at0))))).toArray⟩)]) (fun φ24 xs24 => [(x, .cells #[.slice a P.length c, .int .i64 ((at0 + ((numK (P.drop at0)) + (numN (P.drop at0))) : Nat) : Int), .int .i64 ((e : Nat) : Int)] 106)]) s trivial (by kernel_rfl) (by kernel_rfl) (fun _ _ => by kernel_rfl) (fun _ _ => by kernel_rfl) ⟨fun _ _ => by kernel_rfl, fun _ _ => by kernel_rfl, fun _ _ => by kernel_rfl, fun _ _ => by kernel_rfl⟩ (fun _ _ _ => by kernel_rfl) (fun _ _ => by kernel_rfl) (fun _ _ => by kernel_rfl) (fun _ _ => by kernel_rfl) (fun _ _ => by kernel_rfl) (fun _ _ => by kernel_rfl) ⟨kcast (A := ∀ (φ24 : Nat → Nat) (xs24 : Xs), (.int .i64 (IntKind.wrap .i64 ((numN (P.drop at0) : Nat) : Int)) : Value) = .int .i64 ((numN (P.drop at0) : Nat) : Int)) (by kernel_rfl) (fun φ24 xs24 => congrArg (Value.int .i64) ((nat_wrapI (a := (numN (P.drop at0))) (by have hL := @dlen P at0; have hk9 := numK_le (P.drop at0); have hn8 := numN_lt (P.drop at0); have hq0 := of_decide_eq_false hc3; have hq1 := of_decide_eq_false hc7; have hq2 := of_decide_eq_false hc11; have hq3 := of_decide_eq_false hc16; have hq4 := of_decide_eq_false hc20; omega)))), ⟨kcast (A := ∀ (φ24 : Nat → Nat) (xs24 : Xs), (.int .i64 (IntKind.wrap .i64 (((at0 + ((numK (P.drop at0)) + (numN (P.drop at0))) : Nat) : Int) - ((numN (P.drop at0) : Nat) : Int))) : Value) = .int .i64 (((at0 + ((numK (P.drop at0)) + (numN (P.drop at0)))) - (numN (P.drop at0)) : Nat) : Int)) (by kernel_rfl) (fun φ24 xs24 => congrArg (Value.int .i64) ((nat_subI (a := (at0 + ((numK (P.drop at0)) + (numN (P.drop at0))))) (b := (numN (P.drop at0))) (by have hL := @dlen P at0; have hk9 := numK_le (P.drop at0); have hn8 := numN_lt (P.drop at0); have hq0 := of_decide_eq_false hc3; have hq1 := of_decide_eq_false hc7; have hq2 := of_decide_eq_false hc11; have hq3 := of_decide_eq_false hc16; have hq4 := of_decide_eq_false hc20; omega) (by have hL := @dlen P at0; have hk9 := numK_le (P.drop at0); have hn8 := numN_lt (P.drop at0); have hq0 := of_decide_eq_false hc3; have hq1 := of_decide_eq_false hc7; have hq2 := of_decide_eq_false hc11; have hq3 := of_decide_eq_false hc16; have hq4 := of_decide_eq_false hc20; omega)))), trivial⟩⟩ ⟨kcast (A := ∀ (φ24 : Nat → Nat) (xs24 : Xs) (J : IM) (w : World), I19.Le J → J.Sub w → ((Instr.sliceAt 61 (.slice a P.length c) (some (.int .i64 (((at0 + ((numK (P.drop at0)) + (numN (P.drop at0)))) - (numN (P.drop at0)) : Nat) : Int))) (some (.int .i64 ((at0 + ((numK (P.drop at0)) + (numN (P.drop at0))) : Nat) : Int))) none) : Sem Value).run Tryd.prog w = .ok (.slice (subA a ((at0 + ((numK (P.drop at0)) + (numN (P.drop at0)))) - (numN (P.drop at0))) c) (at0 + ((numK (P.drop at0)) + (numN (P.drop at0))) - ((at0 + ((numK (P.drop at0)) + (numN (P.drop at0)))) - (numN (P.drop at0)))) (c - ((at0 + ((numK (P.drop at0)) + (numN (P.drop at0)))) - (numN (P.drop at0))))) w) (by kernel_rfl) (fun φ24 xs24 J w hJ hS => run_mid (by have hcp := (BSl.cap hl).2; (try simp only [List.length_drop, List.length_take, List.length_append, List.length_cons, List.length_nil] at hcp ⊢); have hL := @dlen P at0; have hk9 := numK_le (P.drop at0); have hn8 := numN_lt (P.drop at0); have hq0 := of_decide_eq_false hc3; have hq1 := of_decide_eq_false hc7; have hq2 := of_decide_eq_false hc11; have hq3 := of_decide_eq_false hc16; have hq4 := of_decide_eq_false hc20; omega) (by have hcp := (BSl.cap hl).2; (try simp only [List.length_drop, List.length_take, List.length_append, List.length_cons, List.length_nil] at hcp ⊢); have hL := @dlen P at0; have hk9 := numK_le (P.drop at0); have hn8 := numN_lt (P.drop at0); have hq0 := of_decide_eq_false hc3; have hq1 := of_decide_eq_false hc7; have hq2 := of_decide_eq_false hc11; have hq3 := of_decide_eq_false hc16; have hq4 := of_decide_eq_false hc20; omega)), ⟨kcast (A := ∀ (φ24 : Nat → Nat) (xs24 : Xs) (J : IM) (w : World), I19.Le J → J.Sub w → ((convert 61 9 (.slice (subA a ((at0 + ((numK (P.drop at0)) + (numN (P.drop at0)))) - (numN (P.drop at0))) c) (at0 + ((numK (P.drop at0)) + (numN (P.drop at0))) - ((at0 + ((numK (P.drop at0)) + (numN (P.drop at0)))) - (numN (P.drop at0)))) (c - ((at0 + ((numK (P.drop at0)) + (numN (P.drop at0)))) - (numN (P.drop at0)))))) : Sem Value).run Tryd.prog w = .ok (.string ⟨(((P.take (at0 + ((numK (P.drop at0)) + (numN (P.drop at0))))).drop ((at0 + ((numK (P.drop at0)) + (numN (P.drop at0)))) - (numN (P.drop at0))))).toArray⟩) w) (by kernel_rfl) (fun φ24 xs24 J w hJ hS => run_b2s hS (BSl.mono hJ (bsl_mid (lo := (at0 + ((numK (P.drop at0)) + (numN (P.drop at0)))) - (numN (P.drop at0))) (hi := at0 + ((numK (P.drop at0)) + (numN (P.drop at0)))) hl (by have hcp := (BSl.cap hl).2; (try simp only [List.length_drop, List.length_take, List.length_append, List.length_cons, List.length_nil] at hcp ⊢); have hL := @dlen P at0; have hk9 := numK_le (P.drop at0); have hn8 := numN_lt (P.drop at0); have hq0 := of_decide_eq_false hc3; have hq1 := of_decide_eq_false hc7; have hq2 := of_decide_eq_false hc11; have hq3 := of_decide_eq_false hc16; have hq4 := of_decide_eq_false hc20; omega) (by have hcp := (BSl.cap hl).2; (try simp only [List.length_drop, List.length_take, List.length_append, List.length_cons, List.length_nil] at hcp ⊢); have hL := @dlen P at0; have hk9 := numK_le (P.drop at0); have hn8 := numN_lt (P.drop at0); have hq0 := of_decide_eq_false hc3; have hq1 := of_decide_eq_false hc7; have hq2 := of_decide_eq_false hc11; have hq3 := of_decide_eq_false hc16; have hq4 := of_decide_eq_false hc20; omega)))), trivial⟩⟩ (by kernel_rfl) trivial ?k24
                case k24 =>
                  rintro φ24 xs24 I24 w24 le24 s 
                  replace hl := BSl.mono le24 hl
                  refine wp_ret ?_
                  refine ret_rule (C := []) [(x, .cells #[.slice a P.length c, .int .i64 ((at0 + ((numK (P.drop at0)) + (numN (P.drop at0))) : Nat) : Int), .int .i64 ((e : Nat) : Int)] 106)] [] (.string ⟨(((P.take (at0 + ((numK (P.drop at0)) + (numN (P.drop at0))))).drop ((at0 + ((numK (P.drop at0)) + (numN (P.drop at0)))) - (numN (P.drop at0))))).toArray⟩) [] [] s trivial (by kernel_rfl) ?_
                  exact ⟨_, _, _, rfl, s, (by have hq0 := of_decide_eq_false hc3; have hq1 := of_decide_eq_false hc7; have hq2 := of_decide_eq_false hc11; have hq3 := of_decide_eq_false hc16; have hq4 := of_decide_eq_false hc20; have hL := @dlen P at0; have hk9 := numK_le (P.drop at0); have hn8 := numN_lt (P.drop at0); exact ⟨_, rfl, rfl, (by unfold teV; first | (rw [if_neg (by unfold okT; omega)]; done) | (rw [if_neg (by unfold okT; omega)]; rfl) | (rw [if_pos (by unfold okT; omega)]; exact congrArg (fun q : List UInt8 => Value.string ⟨q.toArray⟩) (mid_drop (by omega)))), (by unfold teD teE; (first | (rw [if_neg (by unfold okT; omega)]) | (rw [if_pos (by unfold okT; omega)])); first | (rw [if_neg (by omega)]; done) | (rw [if_neg (by omega)]; rfl) | (rw [if_pos (by omega), if_pos (by omega)]; rfl) | (rw [if_pos (by omega), if_neg (by omega), if_pos (by omega)]; rfl) | (rw [if_pos (by omega), if_neg (by omega), if_neg (by omega), if_pos (by omega)]; rfl) | (rw [if_pos (by omega), if_neg (by omega), if_neg (by omega), if_neg (by omega), show e = 0 by omega]; done) | (rw [if_pos (by omega), if_neg (by omega), if_neg (by omega), if_neg (by omega), show e = 0 by omega]; rfl))⟩)⟩

end Go.Proofs.YtcpmjogeafhpnaaDoor

/- What an In tells, in variables. -/
set_option linter.all false
set_option maxRecDepth 100000
namespace Go.Proofs.YtcpmjogeafhpnaaDoor
open Go.RowKit Go.Sep
attribute [local irreducible] Go.wpList Go.Code.wp

theorem funM_mono {P : Program} {f : FuncId} {args : Array Value} {I : IM} {H : List OB} {R R' : Value → IM → List OB → Prop} (h : FunM P f args I H R) (k : ∀ v J H', R v J H' → R' v J H') : FunM P f args I H R' :=
  fun w hw ho => (h w hw ho).mono fun e w' ⟨v, J, H', he, p, r⟩ => ⟨v, J, H', he, p, k v J H' r⟩
theorem byteV_c {I : IM} {l : List UInt8} {a : Option Addr} {k c r e : Nat} (hl : BSl I l (.slice a k c)) (hn9 : l.length ≤ 1000000) : FunM Tryd.prog 55 #[.pointer (some ⟨r, 0, none⟩)] I [(r, .cells #[.slice a k c, .int .i64 ((e : Nat) : Int)] 126)] (fun v J H' => ∃ b' : OB, H' = [b'] ∧ b'.1 = r ∧ ∃ (V : Nat) (E D : Nat) (L : List UInt8) (a' : Option Addr) (k' c' : Nat), v = .int .u8 ((V : Nat) : Int) ∧ b' = (r, .cells #[.slice a' k' c', .int .i64 ((E : Nat) : Int)] 126) ∧ BSl J L (.slice a' k' c') ∧ byV l e = V ∧ byE l e = E ∧ byD l e = D ∧ l.drop D = L) := by
  refine funM_mono (byteG_c (r := r) (e := e) hl hn9) (fun v J H' q => ?_)
  obtain ⟨b', h1, h2, a', k', c', h3, h4, h5⟩ := q
  exact ⟨b', h1, h2, _, _, _, _, a', k', c', h3, h4, h5, rfl, rfl, rfl, rfl⟩
theorem numV_c {I : IM} {l : List UInt8} {a : Option Addr} {k c r e : Nat} (hl : BSl I l (.slice a k c)) (hn9 : l.length ≤ 1000000) : FunM Tryd.prog 114 #[.pointer (some ⟨r, 0, none⟩)] I [(r, .cells #[.slice a k c, .int .i64 ((e : Nat) : Int)] 126)] (fun v J H' => ∃ b' : OB, H' = [b'] ∧ b'.1 = r ∧ ∃ (V : Nat) (E D : Nat) (L : List UInt8) (a' : Option Addr) (k' c' : Nat), v = .int .u64 ((V : Nat) : Int) ∧ b' = (r, .cells #[.slice a' k' c', .int .i64 ((E : Nat) : Int)] 126) ∧ BSl J L (.slice a' k' c') ∧ nuV l e = V ∧ nuE l e = E ∧ nuD l e = D ∧ l.drop D = L) := by
  refine funM_mono (numG_c (r := r) (e := e) hl hn9) (fun v J H' q => ?_)
  obtain ⟨b', h1, h2, a', k', c', h3, h4, h5⟩ := q
  exact ⟨b', h1, h2, _, _, _, _, a', k', c', h3, h4, h5, rfl, rfl, rfl, rfl⟩
theorem textV_c {I : IM} {l : List UInt8} {a : Option Addr} {k c r e : Nat} (hl : BSl I l (.slice a k c)) (hn9 : l.length ≤ 1000000) {z : Nat} (hz : z < 9223372036854775808) : FunM Tryd.prog 115 #[.pointer (some ⟨r, 0, none⟩), .int .i64 ((z : Nat) : Int)] I [(r, .cells #[.slice a k c, .int .i64 ((e : Nat) : Int)] 126)] (fun v J H' => ∃ b' : OB, H' = [b'] ∧ b'.1 = r ∧ ∃ (V : List UInt8) (E D : Nat) (L : List UInt8) (a' : Option Addr) (k' c' : Nat), v = .string ⟨V.toArray⟩ ∧ b' = (r, .cells #[.slice a' k' c', .int .i64 ((E : Nat) : Int)] 126) ∧ BSl J L (.slice a' k' c') ∧ teV l e ((z : Nat) : Int) = V ∧ teE l e ((z : Nat) : Int) = E ∧ teD l e ((z : Nat) : Int) = D ∧ l.drop D = L) := by
  refine funM_mono (textG_c (r := r) (e := e) hl hn9 hz) (fun v J H' q => ?_)
  obtain ⟨b', h1, h2, a', k', c', h3, h4, h5⟩ := q
  exact ⟨b', h1, h2, _, _, _, _, a', k', c', h3, h4, h5, rfl, rfl, rfl, rfl⟩
theorem drop_len9 {l L : List UInt8} {d : Nat} (h : l.drop d = L) (hl : l.length ≤ 1000000) : L.length ≤ 1000000 := by rw [← h, List.length_drop]; omega

end Go.Proofs.YtcpmjogeafhpnaaDoor
/- A field is read; how many there are. -/
set_option linter.all false
set_option maxRecDepth 100000
namespace Go.Proofs.YtcpmjogeafhpnaaDoor
open Go.RowKit Go.Sep
attribute [local irreducible] Go.wpList Go.Code.wp

theorem failV_c {I : IM} {l : List UInt8} {a : Option Addr} {k c r e : Nat} (hl : BSl I l (.slice a k c)) (hn9 : l.length ≤ 1000000) {q : Nat} : FunM Tryd.prog 96 #[.pointer (some ⟨r, 0, none⟩), .int .i64 ((q : Nat) : Int)] I [(r, .cells #[.slice a k c, .int .i64 ((e : Nat) : Int)] 126)] (fun v J H' => ∃ b' : OB, H' = [b'] ∧ b'.1 = r ∧ ∃ (a' : Option Addr) (k' c' : Nat), v = .tuple #[] ∧ b' = (r, .cells #[.slice a' k' c', .int .i64 ((faE q e : Nat) : Int)] 126) ∧ BSl J l (.slice a' k' c')) := by
  have h := failG_c (r := r) (e := e) (q := q) hl hn9
  rw [List.drop_zero] at h; exact h
/-- a field that is read: its kind, label, value; how many bytes go, the error -/
structure Fd where
  k : Nat
  a : List UInt8
  v : List UInt8
  d : Nat
  e : Nat
noncomputable def fdG (l : List UInt8) (e z1 z2 : Nat) : Fd :=
  ⟨byV l e, teV (l.drop (byD l e)) (byE l e) ((z1 : Nat) : Int), teV ((l.drop (byD l e)).drop (teD (l.drop (byD l e)) (byE l e) ((z1 : Nat) : Int))) (teE (l.drop (byD l e)) (byE l e) ((z1 : Nat) : Int)) ((z2 : Nat) : Int),
   byD l e + teD (l.drop (byD l e)) (byE l e) ((z1 : Nat) : Int) + teD ((l.drop (byD l e)).drop (teD (l.drop (byD l e)) (byE l e) ((z1 : Nat) : Int))) (teE (l.drop (byD l e)) (byE l e) ((z1 : Nat) : Int)) ((z2 : Nat) : Int),
   teE ((l.drop (byD l e)).drop (teD (l.drop (byD l e)) (byE l e) ((z1 : Nat) : Int))) (teE (l.drop (byD l e)) (byE l e) ((z1 : Nat) : Int)) ((z2 : Nat) : Int)⟩
/-- how many there are -/
noncomputable def coG (l : List UInt8) (e most q : Nat) : Nat × Nat := if most < nuV l e then (0, faE q (nuE l e)) else (nuV l e, nuE l e)

theorem byV_lt (l : List UInt8) (e : Nat) : byV l e < 256 := by
  unfold byV; split
  · exact UInt8.toNat_lt _
  · decide

set_option maxHeartbeats 2000000 in
theorem getField_c {I : IM} {l : List UInt8} {a : Option Addr} {k c r e : Nat} (hl : BSl I l (.slice a k c)) (hn9 : l.length ≤ 1000000) {z1 z2 : Nat} (hz1 : z1 < 9223372036854775808) (hz2 : z2 < 9223372036854775808) : FunM Tryd.prog 95 #[.pointer (some ⟨r, 0, none⟩), .int .i64 ((z1 : Nat) : Int), .int .i64 ((z2 : Nat) : Int)] I [(r, .cells #[.slice a k c, .int .i64 ((e : Nat) : Int)] 126)] (fun v J H' => ∃ b' : OB, H' = [b'] ∧ b'.1 = r ∧ ∃ (K : Nat) (A V : List UInt8) (E D : Nat) (L : List UInt8) (a' : Option Addr) (k' c' : Nat), v = .agg #[.int .i64 ((K : Nat) : Int), .string ⟨A.toArray⟩, .string ⟨V.toArray⟩] ∧ b' = (r, .cells #[.slice a' k' c', .int .i64 ((E : Nat) : Int)] 126) ∧ BSl J L (.slice a' k' c') ∧ fdG l e z1 z2 = ⟨K, A, V, D, E⟩ ∧ K < 256 ∧ l.drop D = L) := by
  obtain ⟨rfl, -⟩ := hl.cap
  refine enterM_rule 23 [(0, .pointer (some ⟨r, 0, none⟩)), (1, .int .i64 ((z1 : Nat) : Int)), (2, .int .i64 ((z2 : Nat) : Int))] Tryd.func95 rfl (by kernel_rfl) ?_
  intro w s
  refine wp_seq ?_
  refine region_rule ?_
  refine ops_rule (C := []) [(r, .cells #[.slice a l.length c, .int .i64 ((e : Nat) : Int)] 126)] [] 1 [] 1 (fun φ1 => [(6, .pointer (some ⟨(φ1 0), 0, none⟩))]) (fun φ1 => [(r, .cells #[.slice a l.length c, .int .i64 ((e : Nat) : Int)] 126), ((φ1 0), .cells #[.int .i64 0, .string ⟨#[]⟩, .string ⟨#[]⟩] 39)]) (fun φ1 => []) s trivial (fun φ1 => by kernel_rfl) ?_
  intro φ1 w1 s
  refine ops_done (by kernel_rfl) ?_
  refine wp_seq ?_
  refine region_rule ?_
  refine ops_rule (C := []) [(r, .cells #[.slice a l.length c, .int .i64 ((e : Nat) : Int)] 126), ((φ1 0), .cells #[.int .i64 0, .string ⟨#[]⟩, .string ⟨#[]⟩] 39)] [] 1 [] 0 (fun φ2 => [(10, .pointer (some ⟨r, 0, none⟩))]) (fun φ2 => [(r, .cells #[.slice a l.length c, .int .i64 ((e : Nat) : Int)] 126), ((φ1 0), .cells #[.int .i64 0, .string ⟨#[]⟩, .string ⟨#[]⟩] 39)]) (fun φ2 => []) s trivial (fun φ2 => by kernel_rfl) ?_
  intro φ2 w2 s
  refine callB_rule (b := (r, .cells #[.slice a l.length c, .int .i64 ((e : Nat) : Int)] 126)) (H := [(r, .cells #[.slice a l.length c, .int .i64 ((e : Nat) : Int)] 126), ((φ1 0), .cells #[.int .i64 0, .string ⟨#[]⟩, .string ⟨#[]⟩] 39)]) (F := []) (Hr := [((φ1 0), .cells #[.int .i64 0, .string ⟨#[]⟩, .string ⟨#[]⟩] 39)]) (some 11) 0 s (by kernel_rfl) (by kernel_rfl) (byteV_c (r := r) (e := e) hl hn9) (by kernel_rfl) ?_
  rintro v3 I3 w3 b3 le3 - h3 s
  replace hl := BSl.mono le3 hl
  obtain ⟨V3, E3, D3, L3, a3, k3, c3, rfl, rfl, h3_0, h3_1, h3_2, h3_3, h3_4⟩ := h3
  refine ops_rule (C := []) [(r, .cells #[.slice a3 k3 c3, .int .i64 ((E3 : Nat) : Int)] 126), ((φ1 0), .cells #[.int .i64 0, .string ⟨#[]⟩, .string ⟨#[]⟩] 39)] [] 1 [] 0 (fun φ4 => [(7, .int .u8 ((V3 : Nat) : Int))]) (fun φ4 => [(r, .cells #[.slice a3 k3 c3, .int .i64 ((E3 : Nat) : Int)] 126), ((φ1 0), .cells #[.int .i64 0, .string ⟨#[]⟩, .string ⟨#[]⟩] 39)]) (fun φ4 => []) s trivial (fun φ4 => by kernel_rfl) ?_
  intro φ4 w4 s
  refine ops_done (by kernel_rfl) ?_
  refine wp_seq ?_
  refine region_rule ?_
  refine ops_rule (C := []) [(r, .cells #[.slice a3 k3 c3, .int .i64 ((E3 : Nat) : Int)] 126), ((φ1 0), .cells #[.int .i64 0, .string ⟨#[]⟩, .string ⟨#[]⟩] 39)] [] 2 [] 0 (fun φ5 => [(13, .int .i64 ((z1 : Nat) : Int)), (12, .pointer (some ⟨r, 0, none⟩))]) (fun φ5 => [(r, .cells #[.slice a3 k3 c3, .int .i64 ((E3 : Nat) : Int)] 126), ((φ1 0), .cells #[.int .i64 0, .string ⟨#[]⟩, .string ⟨#[]⟩] 39)]) (fun φ5 => []) s trivial (fun φ5 => by kernel_rfl) ?_
  intro φ5 w5 s
  refine callB_rule (b := (r, .cells #[.slice a3 k3 c3, .int .i64 ((E3 : Nat) : Int)] 126)) (H := [(r, .cells #[.slice a3 k3 c3, .int .i64 ((E3 : Nat) : Int)] 126), ((φ1 0), .cells #[.int .i64 0, .string ⟨#[]⟩, .string ⟨#[]⟩] 39)]) (F := []) (Hr := [((φ1 0), .cells #[.int .i64 0, .string ⟨#[]⟩, .string ⟨#[]⟩] 39)]) (some 14) 0 s (by kernel_rfl) (by kernel_rfl) (textV_c (r := r) (e := E3) h3_0 (drop_len9 h3_4 hn9) (z := z1) (by omega)) (by kernel_rfl) ?_
  rintro v6 I6 w6 b6 le6 - h6 s
  replace hl := BSl.mono le6 hl
  replace h3_0 := BSl.mono le6 h3_0
  obtain ⟨S6, E6, D6, L6, a6, k6, c6, rfl, rfl, h6_0, h6_1, h6_2, h6_3, h6_4⟩ := h6
  refine ops_rule (C := []) [(r, .cells #[.slice a6 k6 c6, .int .i64 ((E6 : Nat) : Int)] 126), ((φ1 0), .cells #[.int .i64 0, .string ⟨#[]⟩, .string ⟨#[]⟩] 39)] [] 1 [] 0 (fun φ7 => [(8, .string ⟨(S6).toArray⟩)]) (fun φ7 => [(r, .cells #[.slice a6 k6 c6, .int .i64 ((E6 : Nat) : Int)] 126), ((φ1 0), .cells #[.int .i64 0, .string ⟨#[]⟩, .string ⟨#[]⟩] 39)]) (fun φ7 => []) s trivial (fun φ7 => by kernel_rfl) ?_
  intro φ7 w7 s
  refine ops_done (by kernel_rfl) ?_
  refine wp_seq ?_
  refine region_rule ?_
  refine ops_rule (C := []) [(r, .cells #[.slice a6 k6 c6, .int .i64 ((E6 : Nat) : Int)] 126), ((φ1 0), .cells #[.int .i64 0, .string ⟨#[]⟩, .string ⟨#[]⟩] 39)] [] 2 [] 0 (fun φ8 => [(16, .int .i64 ((z2 : Nat) : Int)), (15, .pointer (some ⟨r, 0, none⟩))]) (fun φ8 => [(r, .cells #[.slice a6 k6 c6, .int .i64 ((E6 : Nat) : Int)] 126), ((φ1 0), .cells #[.int .i64 0, .string ⟨#[]⟩, .string ⟨#[]⟩] 39)]) (fun φ8 => []) s trivial (fun φ8 => by kernel_rfl) ?_
  intro φ8 w8 s
  refine callB_rule (b := (r, .cells #[.slice a6 k6 c6, .int .i64 ((E6 : Nat) : Int)] 126)) (H := [(r, .cells #[.slice a6 k6 c6, .int .i64 ((E6 : Nat) : Int)] 126), ((φ1 0), .cells #[.int .i64 0, .string ⟨#[]⟩, .string ⟨#[]⟩] 39)]) (F := []) (Hr := [((φ1 0), .cells #[.int .i64 0, .string ⟨#[]⟩, .string ⟨#[]⟩] 39)]) (some 17) 0 s (by kernel_rfl) (by kernel_rfl) (textV_c (r := r) (e := E6) h6_0 (drop_len9 h6_4 (drop_len9 h3_4 hn9)) (z := z2) (by omega)) (by kernel_rfl) ?_
  rintro v9 I9 w9 b9 le9 - h9 s
  replace hl := BSl.mono le9 hl
  replace h3_0 := BSl.mono le9 h3_0
  replace h6_0 := BSl.mono le9 h6_0
  obtain ⟨S9, E9, D9, L9, a9, k9, c9, rfl, rfl, h9_0, h9_1, h9_2, h9_3, h9_4⟩ := h9
  refine ops_rule (C := []) [(r, .cells #[.slice a9 k9 c9, .int .i64 ((E9 : Nat) : Int)] 126), ((φ1 0), .cells #[.int .i64 0, .string ⟨#[]⟩, .string ⟨#[]⟩] 39)] [] 1 [] 0 (fun φ10 => [(9, .string ⟨(S9).toArray⟩)]) (fun φ10 => [(r, .cells #[.slice a9 k9 c9, .int .i64 ((E9 : Nat) : Int)] 126), ((φ1 0), .cells #[.int .i64 0, .string ⟨#[]⟩, .string ⟨#[]⟩] 39)]) (fun φ10 => []) s trivial (fun φ10 => by kernel_rfl) ?_
  intro φ10 w10 s
  refine ops_done (by kernel_rfl) ?_
  refine wp_seq ?_
  refine region_rule ?_
  refine ops_rule (C := []) [(r, .cells #[.slice a9 k9 c9, .int .i64 ((E9 : Nat) : Int)] 126), ((φ1 0), .cells #[.int .i64 0, .string ⟨#[]⟩, .string ⟨#[]⟩] 39)] [] 6 [.o 1, .o 1, .o 1] 0 (fun φ11 => [(22, .agg #[.int .i64 (IntKind.wrap .i64 ((V3 : Nat) : Int)), .string ⟨(S6).toArray⟩, .string ⟨(S9).toArray⟩]), (21, .string ⟨(S9).toArray⟩), (20, .string ⟨(S6).toArray⟩), (19, .int .i64 (IntKind.wrap .i64 ((V3 : Nat) : Int))), (18, .int .u8 ((V3 : Nat) : Int))]) (fun φ11 => [(r, .cells #[.slice a9 k9 c9, .int .i64 ((E9 : Nat) : Int)] 126), ((φ1 0), .cells #[.int .i64 (IntKind.wrap .i64 ((V3 : Nat) : Int)), .string ⟨(S6).toArray⟩, .string ⟨(S9).toArray⟩] 39)]) (fun φ11 => [(φ1 0), (φ1 0), (φ1 0)]) s trivial (fun φ11 => by kernel_rfl) ?_
  intro φ11 w11 s
  rw [nat_wrapI (a := V3) (by have h9 := byV_lt l e; rw [h3_1] at h9; omega)] at s ⊢
  refine ops_done (by kernel_rfl) ?_
  refine wp_ret ?_
  refine ret_rule (C := []) [(r, .cells #[.slice a9 k9 c9, .int .i64 ((E9 : Nat) : Int)] 126), ((φ1 0), .cells #[.int .i64 ((V3 : Nat) : Int), .string ⟨(S6).toArray⟩, .string ⟨(S9).toArray⟩] 39)] [] (.agg #[.int .i64 ((V3 : Nat) : Int), .string ⟨(S6).toArray⟩, .string ⟨(S9).toArray⟩]) [.o 1, .o 1, .o 1] [(φ1 0), (φ1 0), (φ1 0)] s trivial (by kernel_rfl) ?_
  replace s := s.drop (List.Sublist.append (List.Sublist.cons₂ _ (List.Sublist.cons _ List.Sublist.slnil)) (List.Sublist.refl []))
  have e9 : fdG l e z1 z2 = ⟨V3, S6, S9, D3 + D6 + D9, E9⟩ := by unfold fdG; simp only [h3_1, h3_2, h3_3, h3_4, h6_1, h6_2, h6_3, h6_4, h9_1, h9_2, h9_3, h9_4]
  have hK : V3 < 256 := by have h9 := byV_lt l e; rw [h3_1] at h9; exact h9
  exact ⟨_, _, _, rfl, s, ⟨_, rfl, rfl, V3, S6, S9, _, _, _, _, _, _, rfl, rfl, h9_0, e9, hK, (by simp only [← List.drop_drop, h3_4, h6_4, h9_4])⟩⟩

set_option maxHeartbeats 2000000 in
theorem count_c {I : IM} {l : List UInt8} {a : Option Addr} {k c r e : Nat} (hl : BSl I l (.slice a k c)) (hn9 : l.length ≤ 1000000) {most q : Nat} (hm : most < 9223372036854775808) : FunM Tryd.prog 94 #[.pointer (some ⟨r, 0, none⟩), .int .u64 ((most : Nat) : Int), .int .i64 ((q : Nat) : Int)] I [(r, .cells #[.slice a k c, .int .i64 ((e : Nat) : Int)] 126)] (fun v J H' => ∃ b' : OB, H' = [b'] ∧ b'.1 = r ∧ ∃ (N E D : Nat) (L : List UInt8) (a' : Option Addr) (k' c' : Nat), v = .int .i64 ((N : Nat) : Int) ∧ b' = (r, .cells #[.slice a' k' c', .int .i64 ((E : Nat) : Int)] 126) ∧ BSl J L (.slice a' k' c') ∧ coG l e most q = (N, E) ∧ nuD l e = D ∧ l.drop D = L) := by
  obtain ⟨rfl, -⟩ := hl.cap
  refine enterM_rule 18 [(0, .pointer (some ⟨r, 0, none⟩)), (1, .int .u64 ((most : Nat) : Int)), (2, .int .i64 ((q : Nat) : Int))] Tryd.func94 rfl (by kernel_rfl) ?_
  intro w s
  refine wp_seq ?_
  refine region_rule ?_
  refine ops_rule (C := []) [(r, .cells #[.slice a l.length c, .int .i64 ((e : Nat) : Int)] 126)] [] 1 [] 0 (fun φ1 => [(6, .int .i64 0)]) (fun φ1 => [(r, .cells #[.slice a l.length c, .int .i64 ((e : Nat) : Int)] 126)]) (fun φ1 => []) s trivial (fun φ1 => by kernel_rfl) ?_
  intro φ1 w1 s
  refine ops_done (by kernel_rfl) ?_
  refine wp_seq ?_
  refine region_rule ?_
  refine ops_rule (C := []) [(r, .cells #[.slice a l.length c, .int .i64 ((e : Nat) : Int)] 126)] [] 1 [] 0 (fun φ2 => [(8, .pointer (some ⟨r, 0, none⟩))]) (fun φ2 => [(r, .cells #[.slice a l.length c, .int .i64 ((e : Nat) : Int)] 126)]) (fun φ2 => []) s trivial (fun φ2 => by kernel_rfl) ?_
  intro φ2 w2 s
  refine callB_rule (b := (r, .cells #[.slice a l.length c, .int .i64 ((e : Nat) : Int)] 126)) (H := [(r, .cells #[.slice a l.length c, .int .i64 ((e : Nat) : Int)] 126)]) (F := []) (Hr := []) (some 9) 0 s (by kernel_rfl) (by kernel_rfl) (numV_c (r := r) (e := e) hl hn9) (by kernel_rfl) ?_
  rintro v3 I3 w3 b3 le3 - h3 s
  replace hl := BSl.mono le3 hl
  obtain ⟨V3, E3, D3, L3, a3, k3, c3, rfl, rfl, h3_0, h3_1, h3_2, h3_3, h3_4⟩ := h3
  refine ops_rule (C := []) [(r, .cells #[.slice a3 k3 c3, .int .i64 ((E3 : Nat) : Int)] 126)] [] 1 [] 0 (fun φ4 => [(7, .int .u64 ((V3 : Nat) : Int))]) (fun φ4 => [(r, .cells #[.slice a3 k3 c3, .int .i64 ((E3 : Nat) : Int)] 126)]) (fun φ4 => []) s trivial (fun φ4 => by kernel_rfl) ?_
  intro φ4 w4 s
  refine ops_done (by kernel_rfl) ?_
  refine wp_seq ?_
  refine wp_seq ?_
  refine region_rule ?_
  refine ops_rule (C := []) [(r, .cells #[.slice a3 k3 c3, .int .i64 ((E3 : Nat) : Int)] 126)] [] 3 [] 0 (fun φ5 => [(12, .bool (decide (((V3 : Nat) : Int) > ((most : Nat) : Int)))), (11, .int .u64 ((most : Nat) : Int)), (10, .int .u64 ((V3 : Nat) : Int))]) (fun φ5 => [(r, .cells #[.slice a3 k3 c3, .int .i64 ((E3 : Nat) : Int)] 126)]) (fun φ5 => []) s trivial (fun φ5 => by kernel_rfl) ?_
  intro φ5 w5 s
  rw [nat_gtr (a := V3) (b := most)]
  refine ops_done (by kernel_rfl) ?_
  rcases Bool.eq_false_or_eq_true (decide (most < V3)) with hc6 | hc6
  ·
    rw [hc6]
    refine cond_true_rule (b := true) (by kernel_rfl) rfl ?_
    refine wp_seq ?_
    refine region_rule ?_
    refine ops_rule (C := []) [(r, .cells #[.slice a3 k3 c3, .int .i64 ((E3 : Nat) : Int)] 126)] [] 2 [] 0 (fun φ7 => [(14, .int .i64 ((q : Nat) : Int)), (13, .pointer (some ⟨r, 0, none⟩))]) (fun φ7 => [(r, .cells #[.slice a3 k3 c3, .int .i64 ((E3 : Nat) : Int)] 126)]) (fun φ7 => []) s trivial (fun φ7 => by kernel_rfl) ?_
    intro φ7 w7 s
    refine callB_rule (b := (r, .cells #[.slice a3 k3 c3, .int .i64 ((E3 : Nat) : Int)] 126)) (H := [(r, .cells #[.slice a3 k3 c3, .int .i64 ((E3 : Nat) : Int)] 126)]) (F := []) (Hr := []) (some 15) 0 s (by kernel_rfl) (by kernel_rfl) (failV_c (r := r) (e := E3) (q := q) h3_0 (drop_len9 h3_4 hn9)) (by kernel_rfl) ?_
    rintro v8 I8 w8 b8 le8 - h8 s
    replace hl := BSl.mono le8 hl
    replace h3_0 := BSl.mono le8 h3_0
    obtain ⟨a8, k8, c8, rfl, rfl, h8_0⟩ := h8
    refine ops_done (by kernel_rfl) ?_
    refine wp_seq ?_
    refine region_rule ?_
    refine ops_rule (C := []) [(r, .cells #[.slice a8 k8 c8, .int .i64 ((faE q E3 : Nat) : Int)] 126)] [] 1 [] 0 (fun φ9 => [(6, .int .i64 0)]) (fun φ9 => [(r, .cells #[.slice a8 k8 c8, .int .i64 ((faE q E3 : Nat) : Int)] 126)]) (fun φ9 => []) s trivial (fun φ9 => by kernel_rfl) ?_
    intro φ9 w9 s
    refine ops_done (by kernel_rfl) ?_
    refine wp_ret ?_
    refine ret_rule (C := []) [(r, .cells #[.slice a8 k8 c8, .int .i64 ((faE q E3 : Nat) : Int)] 126)] [] (.int .i64 0) [] [] s trivial (by kernel_rfl) ?_
    replace s := s.drop (List.Sublist.append (List.Sublist.cons₂ _ List.Sublist.slnil) (List.Sublist.refl []))
    have e9 : coG l e most q = (0, faE q E3) := by unfold coG; simp [h3_1, h3_2, h3_3, h3_4, of_decide_eq_true hc6]
    exact ⟨_, _, _, rfl, s, ⟨_, rfl, rfl, _, _, _, _, _, _, _, rfl, rfl, h8_0, e9, h3_3, (by simp only [← List.drop_drop, h3_4])⟩⟩
  ·
    rw [hc6]
    refine cond_false_rule (b := false) (by kernel_rfl) rfl ?_
    refine wp_skip ?_
    refine wp_seq ?_
    refine region_rule ?_
    refine ops_rule (C := []) [(r, .cells #[.slice a3 k3 c3, .int .i64 ((E3 : Nat) : Int)] 126)] [] 3 [] 0 (fun φ10 => [(6, .int .i64 (IntKind.wrap .i64 ((V3 : Nat) : Int))), (17, .int .i64 (IntKind.wrap .i64 ((V3 : Nat) : Int))), (16, .int .u64 ((V3 : Nat) : Int))]) (fun φ10 => [(r, .cells #[.slice a3 k3 c3, .int .i64 ((E3 : Nat) : Int)] 126)]) (fun φ10 => []) s trivial (fun φ10 => by kernel_rfl) ?_
    intro φ10 w10 s
    rw [nat_wrapI (a := V3) (by have hq0 := of_decide_eq_false hc6; omega)]
    refine ops_done (by kernel_rfl) ?_
    refine wp_ret ?_
    refine ret_rule (C := []) [(r, .cells #[.slice a3 k3 c3, .int .i64 ((E3 : Nat) : Int)] 126)] [] (.int .i64 ((V3 : Nat) : Int)) [] [] s trivial (by kernel_rfl) ?_
    replace s := s.drop (List.Sublist.append (List.Sublist.cons₂ _ List.Sublist.slnil) (List.Sublist.refl []))
    have e9 : coG l e most q = (V3, E3) := by unfold coG; simp [h3_1, h3_2, h3_3, h3_4, of_decide_eq_false hc6]
    exact ⟨_, _, _, rfl, s, ⟨_, rfl, rfl, _, _, _, _, _, _, _, rfl, rfl, h3_0, e9, h3_3, (by simp only [← List.drop_drop, h3_4])⟩⟩

end Go.Proofs.YtcpmjogeafhpnaaDoor
