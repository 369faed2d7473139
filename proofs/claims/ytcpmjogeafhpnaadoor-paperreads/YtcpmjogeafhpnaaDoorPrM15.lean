/- The document reads. -/
import Derived.Test.YtcpmjogeafhpnaaDoorPrM14
import Derived.Test.YtcpmjogeafhpnaaDoorPrM13
import Derived.Test.YtcpmjogeafhpnaaDoorProg
import Derived.Test.YtcpmjogeafhpnaaDoorPrS10
import Derived.LoopN
import Derived.Test.YtcpmjogeafhpnaaDoorPrS11
import Derived.Laws.MakeOwn
import Derived.Lib.TrimUEq
import Derived.Laws.IdiomStrings
import Derived.Lib.MapLaws
import Derived.Lib.ValidU
set_option linter.all false
set_option maxRecDepth 100000
namespace Go.Proofs.YtcpmjogeafhpnaaDoor
open Go.RowKit Go.Sep
attribute [local irreducible] Go.wpList Go.Code.wp

theorem dlen {P : List UInt8} {at0 : Nat} : (P.drop at0).length = P.length - at0 := List.length_drop
theorem drop0 {P : List UInt8} {at0 : Nat} : (P.drop at0).getD 0 0 = P.getD at0 0 := by rw [getD_drop8, Nat.add_zero]

set_option maxHeartbeats 2000000 in
theorem refByte_c {I : IM} {P : List UInt8} {a : Option Addr} {k c x at0 e : Nat} (hl : BSl I P (.slice a k c)) (hn9 : P.length ≤ 1000000) (hat : at0 ≤ P.length) : FunM Tryd.prog 92 #[.pointer (some ⟨x, 0, none⟩)] I [(x, .cells #[.slice a k c, .int .i64 ((at0 : Nat) : Int), .int .i64 ((e : Nat) : Int)] 106)] (fun v J H' => ∃ b' : OB, H' = [b'] ∧ b'.1 = x ∧ v = .int .u8 ((byV (P.drop at0) e : Nat) : Int) ∧ b' = (x, .cells #[.slice a k c, .int .i64 ((at0 + byD (P.drop at0) e : Nat) : Int), .int .i64 ((byE (P.drop at0) e : Nat) : Int)] 106)) := by
 obtain ⟨rfl, -⟩ := hl.cap
 refine enterM_rule 39 [(0, pB x)] Tryd.func92 rfl (by kernel_rfl) ?_
 intro w s
 refine seqR ?_
 refine oKD [(x, .cells #[.slice a P.length c, .int .i64 at0, .int .i64 e] 106)] [] 1 [] 0 (fun φ1 => [(2, .int .u8 0)]) (fun φ1 => []) s (fun φ1 => by kernel_rfl) (by kernel_rfl) ?_
 intro φ1 w1 s
 refine wp_seq ?_
 refine seqR ?_
 refine oK _ [] 5 [.o 0] 0 (fun φ2 => [(7, .bool (((e : Nat) : Int) != ((0 : Nat) : Int))), (6, .int .i64 e), (5, .pointer (some ⟨x, 2, none⟩)), (4, pB x), (3, pB x)]) (fun φ2 => [x]) s (fun φ2 => by kernel_rfl) ?_
 intro φ2 w2 s
 rw [nat_neq (a := e) (b := 0)]
 refine ops_done (by kernel_rfl) ?_
 rcases Bool.eq_false_or_eq_true (decide (e ≠ 0)) with hc3 | hc3
 ·
  rw [hc3]
  refine cond_true_rule (b := true) (by kernel_rfl) rfl ?_
  refine seqR ?_
  refine oKD _ [] 1 [] 0 (fun φ4 => [(2, .int .u8 0)]) (fun φ4 => []) s (fun φ4 => by kernel_rfl) (by kernel_rfl) ?_
  intro φ4 w4 s
  refine wp_ret ?_
  refine ret_rule (C := []) _ [] (.int .u8 0) [] [] s trivial (by kernel_rfl) ?_
  exact ⟨_, _, _, rfl, s, (by have hq0 := dT9 hc3; have hL := @dlen P at0; have hk9 := numK_le (P.drop at0); have hn8 := numN_lt (P.drop at0); exact ⟨_, rfl, rfl, (by unfold byV; first | (rw [if_neg (by omega)]; rfl) | (rw [if_pos (by omega), drop0]; rfl) | (rw [if_pos (by omega), drop0, show at0 + 1 - 1 = at0 by omega])), (by (unfold byD; first | rw [if_pos (by omega)] | rw [if_neg (by omega)]); (unfold byE; first | rw [if_pos (by omega)] | rw [if_neg (by omega)]); try rfl)⟩)⟩
 ·
  rw [hc3]
  refine cond_false_rule (b := false) (by kernel_rfl) rfl ?_
  refine wp_skip ?_
  refine wp_seq ?_
  refine wp_seq ?_
  refine draw_rule (C := []) ⟨(fun φ5 xs5 => [.look 0 [] [], .look 0 [] [], .look 0 [] [], .look 0 [.o 0] [x], .look 0 [] [], .look 0 [] [], .look 0 [] [], .look 0 [.o 0] [x], .look 0 [] [], .sub 0 [] [] (.bool (decide (((at0 : Nat) : Int) ≥ ((P.length : Nat) : Int))))]), (fun φ5 xs5 => [pB x, pB x, .pointer (some ⟨x, 1, none⟩), .int .i64 at0, pB x, pB x, pB x, .slice a P.length c, .int .i64 P.length, .bool (decide (P.length ≤ at0))]), (fun φ5 xs5 => [[(x, .cells #[.slice a P.length c, .int .i64 at0, .int .i64 e] 106)]]), (fun φ5 xs5 => [[default, default, default, default, default, default, default, default, default, default]]), [], [1, 1, 1, 1, 1, 1, 1, 1, 1, 5]⟩ (fun j => ([MP.any] : List MP).getD j MP.any) [] [9] [] (fun φ5 xs5 => []) (fun φ5 xs5 => [(8, pB x), (9, pB x), (10, .pointer (some ⟨x, 1, none⟩)), (11, .int .i64 at0), (12, pB x), (13, pB x), (14, pB x), (15, .slice a P.length c), (16, .int .i64 P.length), (17, .bool (decide (P.length ≤ at0)))]) (fun φ5 xs5 => [(x, .cells #[.slice a P.length c, .int .i64 at0, .int .i64 e] 106)]) s trivial (by kernel_rfl) (by kernel_rfl) (fun _ _ => by kernel_rfl) (fun _ _ => by kernel_rfl) ⟨fun _ _ => by kernel_rfl, fun _ _ => by kernel_rfl, fun _ _ => by kernel_rfl, fun _ _ => by kernel_rfl⟩ (fun _ _ _ => by kernel_rfl) (fun _ _ => by kernel_rfl) (fun _ _ => by kernel_rfl) (fun _ _ => by kernel_rfl) (fun _ _ => by kernel_rfl) (fun _ _ => by kernel_rfl) ⟨kcast (A := ∀ (φ5 : Nat → Nat) (xs5 : Xs), (.bool (decide (((at0 : Nat) : Int) ≥ ((P.length : Nat) : Int))) : Value) = .bool (decide (P.length ≤ at0))) (by kernel_rfl) (fun φ5 xs5 => congrArg Value.bool ((nat_geq (a := at0) (b := P.length)))), trivial⟩ trivial (by kernel_rfl) trivial ?k5
  case k5 =>
   rintro φ5 xs5 I5 w5 le5 s 
   replace hl := BSl.mono le5 hl
   rcases Bool.eq_false_or_eq_true (decide (P.length ≤ at0)) with hc6 | hc6
   ·
    rw [hc6]
    refine cond_true_rule (b := true) (by kernel_rfl) rfl ?_
    refine seqR ?_
    refine oAD [(x, .cells #[.slice a P.length c, .int .i64 at0, .int .i64 e] 106)] [] 4 [.o 0] 0 (fun φ7 => [(20, .pointer (some ⟨x, 2, none⟩)), (19, pB x), (18, pB x)]) (fun φ7 => [(x, .cells #[.slice a P.length c, .int .i64 at0, .int .i64 6] 106)]) (fun φ7 => [x]) s (fun φ7 => by kernel_rfl) (by kernel_rfl) ?_
    intro φ7 w7 s
    refine seqR ?_
    refine oKD _ [] 1 [] 0 (fun φ8 => [(2, .int .u8 0)]) (fun φ8 => []) s (fun φ8 => by kernel_rfl) (by kernel_rfl) ?_
    intro φ8 w8 s
    refine wp_ret ?_
    refine ret_rule (C := []) _ [] (.int .u8 0) [] [] s trivial (by kernel_rfl) ?_
    exact ⟨_, _, _, rfl, s, (by have hq0 := dF9 hc3; have hq1 := dT9 hc6; have hL := @dlen P at0; have hk9 := numK_le (P.drop at0); have hn8 := numN_lt (P.drop at0); exact ⟨_, rfl, rfl, (by unfold byV; first | (rw [if_neg (by omega)]; rfl) | (rw [if_pos (by omega), drop0]; rfl) | (rw [if_pos (by omega), drop0, show at0 + 1 - 1 = at0 by omega])), (by (unfold byD; first | rw [if_pos (by omega)] | rw [if_neg (by omega)]); (unfold byE; first | rw [if_pos (by omega)] | rw [if_neg (by omega)]); try rfl)⟩)⟩
   ·
    rw [hc6]
    refine cond_false_rule (b := false) (by kernel_rfl) rfl ?_
    refine wp_skip ?_
    refine seqR ?_
    refine oA [(x, .cells #[.slice a P.length c, .int .i64 at0, .int .i64 e] 106)] [] 8 [.o 0, .o 0] 0 (fun φ9 => [(27, .pointer (some ⟨x, 1, none⟩)), (26, pB x), (25, .int .i64 (IntKind.wrap .i64 (((at0 : Nat) : Int) + ((1 : Nat) : Int)))), (24, .int .i64 at0), (23, .pointer (some ⟨x, 1, none⟩)), (22, pB x), (21, pB x)]) (fun φ9 => [(x, .cells #[.slice a P.length c, .int .i64 (IntKind.wrap .i64 (((at0 : Nat) : Int) + ((1 : Nat) : Int))), .int .i64 e] 106)]) (fun φ9 => [x, x]) s (fun φ9 => by kernel_rfl) ?_
    intro φ9 w9 s
    rw [nat_addI (a := at0) (b := 1) (by have hL := @dlen P at0; have hk9 := numK_le (P.drop at0); have hn8 := numN_lt (P.drop at0); have hq0 := dF9 hc3; have hq1 := dF9 hc6; omega)] at s ⊢
    refine ops_done (by kernel_rfl) ?_
    refine wp_seq ?_
    refine draw_rule (C := []) ⟨(fun φ10 xs10 => [.look 0 [] [], .look 0 [] [], .look 0 [] [], .look 0 [.o 0] [x], .look 0 [] [], .look 0 [] [], .look 0 [] [], .look 0 [.o 0] [x], .sub 0 [] [] (.int .i64 (IntKind.wrap .i64 (((at0 + 1 : Nat) : Int) - ((1 : Nat) : Int)))), .ran (Instr.indexAt 61 (.slice a P.length c) (.int .i64 (((at0 + 1) - 1 : Nat) : Int))), .ran (Instr.loadAt 5 (.pointer (pAt a ((at0 + 1) - 1)))), .look 0 [] []]), (fun φ10 xs10 => [pB x, pB x, pB x, .slice a P.length c, pB x, pB x, .pointer (some ⟨x, 1, none⟩), .int .i64 ((at0 + 1 : Nat) : Int), .int .i64 (((at0 + 1) - 1 : Nat) : Int), .pointer (pAt a ((at0 + 1) - 1)), .int .u8 (((P.getD ((at0 + 1) - 1) 0).toNat : Nat) : Int), .int .u8 (((P.getD ((at0 + 1) - 1) 0).toNat : Nat) : Int)]), (fun φ10 xs10 => [[(x, .cells #[.slice a P.length c, .int .i64 ((at0 + 1 : Nat) : Int), .int .i64 e] 106)]]), (fun φ10 xs10 => [[default, default, default, default, default, default, default, default, default, default, default, default]]), [], [1, 1, 1, 1, 1, 1, 1, 1, 5, 6, 6, 1]⟩ (fun j => ([MP.any] : List MP).getD j MP.any) [] [8] [9, 10] (fun φ10 xs10 => []) (fun φ10 xs10 => [(28, pB x), (29, pB x), (30, pB x), (31, .slice a P.length c), (32, pB x), (33, pB x), (34, .pointer (some ⟨x, 1, none⟩)), (35, .int .i64 ((at0 + 1 : Nat) : Int)), (36, .int .i64 (((at0 + 1) - 1 : Nat) : Int)), (37, .pointer (pAt a ((at0 + 1) - 1))), (38, .int .u8 (((P.getD ((at0 + 1) - 1) 0).toNat : Nat) : Int)), (2, .int .u8 (((P.getD ((at0 + 1) - 1) 0).toNat : Nat) : Int))]) (fun φ10 xs10 => [(x, .cells #[.slice a P.length c, .int .i64 ((at0 + 1 : Nat) : Int), .int .i64 e] 106)]) s trivial (by kernel_rfl) (by kernel_rfl) (fun _ _ => by kernel_rfl) (fun _ _ => by kernel_rfl) ⟨fun _ _ => by kernel_rfl, fun _ _ => by kernel_rfl, fun _ _ => by kernel_rfl, fun _ _ => by kernel_rfl⟩ (fun _ _ _ => by kernel_rfl) (fun _ _ => by kernel_rfl) (fun _ _ => by kernel_rfl) (fun _ _ => by kernel_rfl) (fun _ _ => by kernel_rfl) (fun _ _ => by kernel_rfl) ⟨kcast (A := ∀ (φ10 : Nat → Nat) (xs10 : Xs), (.int .i64 (IntKind.wrap .i64 (((at0 + 1 : Nat) : Int) - ((1 : Nat) : Int))) : Value) = .int .i64 (((at0 + 1) - 1 : Nat) : Int)) (by kernel_rfl) (fun φ10 xs10 => congrArg (Value.int .i64) ((nat_subI (a := (at0 + 1)) (b := 1) (by have hL := @dlen P at0; have hk9 := numK_le (P.drop at0); have hn8 := numN_lt (P.drop at0); have hq0 := dF9 hc3; have hq1 := dF9 hc6; omega) (by have hL := @dlen P at0; have hk9 := numK_le (P.drop at0); have hn8 := numN_lt (P.drop at0); have hq0 := dF9 hc3; have hq1 := dF9 hc6; omega)))), trivial⟩ ⟨kcast (A := ∀ (φ10 : Nat → Nat) (xs10 : Xs) (J : IM) (w : World), I5.Le J → J.Sub w → ((Instr.indexAt 61 (.slice a P.length c) (.int .i64 (((at0 + 1) - 1 : Nat) : Int))) : Sem Value).run Tryd.prog w = .ok (.pointer (pAt a ((at0 + 1) - 1))) w) (by kernel_rfl) (fun φ10 xs10 J w hJ hS => bsl_idx (BSl.mono hJ hl) (by have hL := @dlen P at0; have hk9 := numK_le (P.drop at0); have hn8 := numN_lt (P.drop at0); have hq0 := dF9 hc3; have hq1 := dF9 hc6; omega)), ⟨kcast (A := ∀ (φ10 : Nat → Nat) (xs10 : Xs) (J : IM) (w : World), I5.Le J → J.Sub w → ((Instr.loadAt 5 (.pointer (pAt a ((at0 + 1) - 1)))) : Sem Value).run Tryd.prog w = .ok (.int .u8 (((P.getD ((at0 + 1) - 1) 0).toNat : Nat) : Int)) w) (by kernel_rfl) (fun φ10 xs10 J w hJ hS => bsl_ld hS (BSl.mono hJ hl) (by have hL := @dlen P at0; have hk9 := numK_le (P.drop at0); have hn8 := numN_lt (P.drop at0); have hq0 := dF9 hc3; have hq1 := dF9 hc6; omega)), trivial⟩⟩ (by kernel_rfl) trivial ?k10
    case k10 =>
     rintro φ10 xs10 I10 w10 le10 s 
     refine wp_ret ?_
     refine ret_rule (C := []) [(x, .cells #[.slice a P.length c, .int .i64 ((at0 + 1 : Nat) : Int), .int .i64 e] 106)] [] (.int .u8 (((P.getD ((at0 + 1) - 1) 0).toNat : Nat) : Int)) [] [] s trivial (by kernel_rfl) ?_
     exact ⟨_, _, _, rfl, s, (by have hq0 := dF9 hc3; have hq1 := dF9 hc6; have hL := @dlen P at0; have hk9 := numK_le (P.drop at0); have hn8 := numN_lt (P.drop at0); exact ⟨_, rfl, rfl, (by unfold byV; first | (rw [if_neg (by omega)]; rfl) | (rw [if_pos (by omega), drop0]; rfl) | (rw [if_pos (by omega), drop0, show at0 + 1 - 1 = at0 by omega])), (by (unfold byD; first | rw [if_pos (by omega)] | rw [if_neg (by omega)]); (unfold byE; first | rw [if_pos (by omega)] | rw [if_neg (by omega)]); try rfl)⟩)⟩

set_option maxHeartbeats 2000000 in
theorem refNum_c {I : IM} {P : List UInt8} {a : Option Addr} {k c x at0 e : Nat} (hl : BSl I P (.slice a k c)) (hn9 : P.length ≤ 1000000) (hat : at0 ≤ P.length) : FunM Tryd.prog 90 #[.pointer (some ⟨x, 0, none⟩)] I [(x, .cells #[.slice a k c, .int .i64 ((at0 : Nat) : Int), .int .i64 ((e : Nat) : Int)] 106)] (fun v J H' => ∃ b' : OB, H' = [b'] ∧ b'.1 = x ∧ v = .int .u64 ((nuV (P.drop at0) e : Nat) : Int) ∧ b' = (x, .cells #[.slice a k c, .int .i64 ((at0 + nuD (P.drop at0) e : Nat) : Int), .int .i64 ((nuE (P.drop at0) e : Nat) : Int)] 106)) := by
 obtain ⟨rfl, -⟩ := hl.cap
 refine enterM_rule 36 [(0, pB x)] Tryd.func90 rfl (by kernel_rfl) ?_
 intro w s
 refine seqR ?_
 refine oKD [(x, .cells #[.slice a P.length c, .int .i64 at0, .int .i64 e] 106)] [] 1 [] 0 (fun φ1 => [(2, .int .u64 0)]) (fun φ1 => []) s (fun φ1 => by kernel_rfl) (by kernel_rfl) ?_
 intro φ1 w1 s
 refine wp_seq ?_
 refine seqR ?_
 refine oK _ [] 5 [.o 0] 0 (fun φ2 => [(9, .bool (((e : Nat) : Int) != ((0 : Nat) : Int))), (8, .int .i64 e), (7, .pointer (some ⟨x, 2, none⟩)), (6, pB x), (5, pB x)]) (fun φ2 => [x]) s (fun φ2 => by kernel_rfl) ?_
 intro φ2 w2 s
 rw [nat_neq (a := e) (b := 0)]
 refine ops_done (by kernel_rfl) ?_
 rcases Bool.eq_false_or_eq_true (decide (e ≠ 0)) with hc3 | hc3
 ·
  rw [hc3]
  refine cond_true_rule (b := true) (by kernel_rfl) rfl ?_
  refine seqR ?_
  refine oKD _ [] 1 [] 0 (fun φ4 => [(2, .int .u64 0)]) (fun φ4 => []) s (fun φ4 => by kernel_rfl) (by kernel_rfl) ?_
  intro φ4 w4 s
  refine wp_ret ?_
  refine ret_rule (C := []) _ [] (.int .u64 0) [] [] s trivial (by kernel_rfl) ?_
  exact ⟨_, _, _, rfl, s, (by have hq0 := dT9 hc3; have hL := @dlen P at0; have hk9 := numK_le (P.drop at0); have hn8 := numN_lt (P.drop at0); exact ⟨_, rfl, rfl, (by have hz9 := @numK_zero (P.drop at0); unfold nuV; first | (rw [if_neg (by omega)]; rfl) | (rw [if_pos (by omega)]; done)), (by (unfold nuD; first | rw [if_pos (by omega)] | rw [if_neg (by omega)]); (unfold nuE; first | rw [if_pos (by omega)] | rw [if_neg (by omega)]); try rfl)⟩)⟩
 ·
  rw [hc3]
  refine cond_false_rule (b := false) (by kernel_rfl) rfl ?_
  refine wp_skip ?_
  refine wp_seq ?_
  refine draw_rule (C := []) ⟨(fun φ5 xs5 => [.look 0 [] [], .look 0 [] [], .look 0 [] [], .look 0 [.o 0] [x], .look 0 [] [], .look 0 [] [], .look 0 [] [], .look 0 [.o 0] [x], .call 113 #[.slice a P.length c, .int .i64 at0], .look 0 [] [], .look 0 [] [], .look 0 [] [], .look 0 [] [], .look 0 [] []]), (fun φ5 xs5 => [pB x, pB x, pB x, .slice a P.length c, pB x, pB x, .pointer (some ⟨x, 1, none⟩), .int .i64 at0, .tuple #[.int .u64 (numN (P.drop at0)), .int .i64 (numK (P.drop at0))], .tuple #[.int .u64 (numN (P.drop at0)), .int .i64 (numK (P.drop at0))], .int .u64 (numN (P.drop at0)), .int .i64 (numK (P.drop at0)), .int .u64 (numN (P.drop at0)), .int .i64 (numK (P.drop at0))]), (fun φ5 xs5 => [[(x, .cells #[.slice a P.length c, .int .i64 at0, .int .i64 e] 106)]]), (fun φ5 xs5 => [[default, default, default, default, default, default, default, default, default, default, default, default, default, default]]), [], [1, 1, 1, 1, 1, 1, 1, 1, 3, 1, 1, 1, 1, 1]⟩ (fun j => ([MP.any] : List MP).getD j MP.any) [8] [] [] (fun φ5 xs5 => []) (fun φ5 xs5 => [(11, pB x), (12, pB x), (13, pB x), (14, .slice a P.length c), (15, pB x), (16, pB x), (17, .pointer (some ⟨x, 1, none⟩)), (18, .int .i64 at0), (19, .tuple #[.int .u64 (numN (P.drop at0)), .int .i64 (numK (P.drop at0))]), (10, .tuple #[.int .u64 (numN (P.drop at0)), .int .i64 (numK (P.drop at0))]), (20, .int .u64 (numN (P.drop at0))), (21, .int .i64 (numK (P.drop at0))), (3, .int .u64 (numN (P.drop at0))), (4, .int .i64 (numK (P.drop at0)))]) (fun φ5 xs5 => [(x, .cells #[.slice a P.length c, .int .i64 at0, .int .i64 e] 106)]) s trivial (by kernel_rfl) (by kernel_rfl) (fun _ _ => by kernel_rfl) (fun _ _ => by kernel_rfl) ⟨fun _ _ => by kernel_rfl, fun _ _ => by kernel_rfl, fun _ _ => by kernel_rfl, fun _ _ => by kernel_rfl⟩ (fun _ _ _ => by kernel_rfl) (fun _ _ => by kernel_rfl) (fun _ _ => by kernel_rfl) (fun _ _ => by kernel_rfl) (fun _ _ => by kernel_rfl) (fun _ _ => by kernel_rfl) trivial trivial (by kernel_rfl) ⟨?c5_8, trivial⟩ ?k5
  case c5_8 =>
   refine kcast (A := ∀ (φ5 : Nat → Nat) (xs5 : Xs) (J8_5 : IM), I.Le J8_5 → Fun Tryd.prog 113 #[.slice a P.length c, .int .i64 at0] J8_5 (fun v J' => ∃ x : UX, v = .tuple #[.int .u64 (numN (P.drop at0)), .int .i64 (numK (P.drop at0))] ∧ (True))) (by kernel_rfl) ?_
   intro φ5 xs5 J8_5 leJ
   have hl := BSl.mono leJ hl
   exact Fun.mono (refnumAt_c hl (by omega) (by omega)) (fun v J' _ h => ⟨UX.d, h, trivial⟩)
  case k5 =>
   rintro φ5 xs5 I5 w5 le5 s _
   refine wp_seq ?_
   refine seqR ?_
   refine oK [(x, .cells #[.slice a P.length c, .int .i64 at0, .int .i64 e] 106)] [] 2 [] 0 (fun φ6 => [(23, .bool (((numK (P.drop at0) : Nat) : Int) == ((0 : Nat) : Int))), (22, .int .i64 (numK (P.drop at0)))]) (fun φ6 => []) s (fun φ6 => by kernel_rfl) ?_
   intro φ6 w6 s
   rw [nat_eql (a := (numK (P.drop at0))) (b := 0)]
   refine ops_done (by kernel_rfl) ?_
   rcases Bool.eq_false_or_eq_true (decide ((numK (P.drop at0)) = 0)) with hc7 | hc7
   ·
    rw [hc7]
    refine cond_true_rule (b := true) (by kernel_rfl) rfl ?_
    refine region_rule ?_
    refine oAD _ [] 4 [.o 0] 0 (fun φ8 => [(26, .pointer (some ⟨x, 2, none⟩)), (25, pB x), (24, pB x)]) (fun φ8 => [(x, .cells #[.slice a P.length c, .int .i64 at0, .int .i64 6] 106)]) (fun φ8 => [x]) s (fun φ8 => by kernel_rfl) (by kernel_rfl) ?_
    intro φ8 w8 s
    refine seqR ?_
    refine oA _ [] 9 [.o 0, .o 0] 0 (fun φ9 => [(34, .pointer (some ⟨x, 1, none⟩)), (33, pB x), (32, .int .i64 (IntKind.wrap .i64 (((at0 : Nat) : Int) + ((numK (P.drop at0) : Nat) : Int)))), (31, .int .i64 (numK (P.drop at0))), (30, .int .i64 at0), (29, .pointer (some ⟨x, 1, none⟩)), (28, pB x), (27, pB x)]) (fun φ9 => [(x, .cells #[.slice a P.length c, .int .i64 (IntKind.wrap .i64 (((at0 : Nat) : Int) + ((numK (P.drop at0) : Nat) : Int))), .int .i64 6] 106)]) (fun φ9 => [x, x]) s (fun φ9 => by kernel_rfl) ?_
    intro φ9 w9 s
    rw [nat_addI (a := at0) (b := (numK (P.drop at0))) (by have hL := @dlen P at0; have hk9 := numK_le (P.drop at0); have hn8 := numN_lt (P.drop at0); have hq0 := dF9 hc3; have hq1 := dT9 hc7; omega)] at s ⊢
    refine ops_done (by kernel_rfl) ?_
    refine seqR ?_
    refine oKD _ [] 2 [] 0 (fun φ10 => [(2, .int .u64 (numN (P.drop at0))), (35, .int .u64 (numN (P.drop at0)))]) (fun φ10 => []) s (fun φ10 => by kernel_rfl) (by kernel_rfl) ?_
    intro φ10 w10 s
    refine wp_ret ?_
    refine ret_rule (C := []) _ [] (.int .u64 (numN (P.drop at0))) [] [] s trivial (by kernel_rfl) ?_
    exact ⟨_, _, _, rfl, s, (by have hq0 := dF9 hc3; have hq1 := dT9 hc7; have hL := @dlen P at0; have hk9 := numK_le (P.drop at0); have hn8 := numN_lt (P.drop at0); exact ⟨_, rfl, rfl, (by have hz9 := @numK_zero (P.drop at0); unfold nuV; first | (rw [if_neg (by omega)]; rfl) | (rw [if_pos (by omega)]; done)), (by (unfold nuD; first | rw [if_pos (by omega)] | rw [if_neg (by omega)]); (unfold nuE; first | rw [if_pos (by omega)] | rw [if_neg (by omega)]); try rfl)⟩)⟩
   ·
    rw [hc7]
    refine cond_false_rule (b := false) (by kernel_rfl) rfl ?_
    refine wp_skip ?_
    refine seqR ?_
    refine oA _ [] 9 [.o 0, .o 0] 0 (fun φ11 => [(34, .pointer (some ⟨x, 1, none⟩)), (33, pB x), (32, .int .i64 (IntKind.wrap .i64 (((at0 : Nat) : Int) + ((numK (P.drop at0) : Nat) : Int)))), (31, .int .i64 (numK (P.drop at0))), (30, .int .i64 at0), (29, .pointer (some ⟨x, 1, none⟩)), (28, pB x), (27, pB x)]) (fun φ11 => [(x, .cells #[.slice a P.length c, .int .i64 (IntKind.wrap .i64 (((at0 : Nat) : Int) + ((numK (P.drop at0) : Nat) : Int))), .int .i64 e] 106)]) (fun φ11 => [x, x]) s (fun φ11 => by kernel_rfl) ?_
    intro φ11 w11 s
    rw [nat_addI (a := at0) (b := (numK (P.drop at0))) (by have hL := @dlen P at0; have hk9 := numK_le (P.drop at0); have hn8 := numN_lt (P.drop at0); have hq0 := dF9 hc3; have hq1 := dF9 hc7; omega)] at s ⊢
    refine ops_done (by kernel_rfl) ?_
    refine seqR ?_
    refine oKD _ [] 2 [] 0 (fun φ12 => [(2, .int .u64 (numN (P.drop at0))), (35, .int .u64 (numN (P.drop at0)))]) (fun φ12 => []) s (fun φ12 => by kernel_rfl) (by kernel_rfl) ?_
    intro φ12 w12 s
    refine wp_ret ?_
    refine ret_rule (C := []) _ [] (.int .u64 (numN (P.drop at0))) [] [] s trivial (by kernel_rfl) ?_
    exact ⟨_, _, _, rfl, s, (by have hq0 := dF9 hc3; have hq1 := dF9 hc7; have hL := @dlen P at0; have hk9 := numK_le (P.drop at0); have hn8 := numN_lt (P.drop at0); exact ⟨_, rfl, rfl, (by have hz9 := @numK_zero (P.drop at0); unfold nuV; first | (rw [if_neg (by omega)]; rfl) | (rw [if_pos (by omega)]; done)), (by (unfold nuD; first | rw [if_pos (by omega)] | rw [if_neg (by omega)]); (unfold nuE; first | rw [if_pos (by omega)] | rw [if_neg (by omega)]); try rfl)⟩)⟩

set_option maxHeartbeats 2000000 in
theorem refFail_c {I : IM} {P : List UInt8} {a : Option Addr} {k c x at0 e q : Nat} (hl : BSl I P (.slice a k c)) (hn9 : P.length ≤ 1000000) (hat : at0 ≤ P.length) : FunM Tryd.prog 91 #[.pointer (some ⟨x, 0, none⟩), .int .i64 ((q : Nat) : Int)] I [(x, .cells #[.slice a k c, .int .i64 ((at0 : Nat) : Int), .int .i64 ((e : Nat) : Int)] 106)] (fun v J H' => ∃ b' : OB, H' = [b'] ∧ b'.1 = x ∧ v = .tuple #[] ∧ b' = (x, .cells #[.slice a k c, .int .i64 ((at0 + 0 : Nat) : Int), .int .i64 ((faE q e : Nat) : Int)] 106)) := by
 obtain ⟨rfl, -⟩ := hl.cap
 refine enterM_rule 13 [(0, pB x), (1, .int .i64 q)] Tryd.func91 rfl (by kernel_rfl) ?_
 intro w s
 refine seqR ?_
 refine oK [(x, .cells #[.slice a P.length c, .int .i64 at0, .int .i64 e] 106)] [] 5 [.o 0] 0 (fun φ1 => [(8, .bool (((e : Nat) : Int) == ((0 : Nat) : Int))), (7, .int .i64 e), (6, .pointer (some ⟨x, 2, none⟩)), (5, pB x), (4, pB x)]) (fun φ1 => [x]) s (fun φ1 => by kernel_rfl) ?_
 intro φ1 w1 s
 rw [nat_eql (a := e) (b := 0)]
 refine ops_done (by kernel_rfl) ?_
 rcases Bool.eq_false_or_eq_true (decide (e = 0)) with hc2 | hc2
 ·
  rw [hc2]
  refine cond_true_rule (b := true) (by kernel_rfl) rfl ?_
  refine region_rule ?_
  refine oAD _ [] 5 [.o 0] 0 (fun φ3 => [(12, .pointer (some ⟨x, 2, none⟩)), (11, pB x), (10, .int .i64 q), (9, pB x)]) (fun φ3 => [(x, .cells #[.slice a P.length c, .int .i64 at0, .int .i64 q] 106)]) (fun φ3 => [x]) s (fun φ3 => by kernel_rfl) (by kernel_rfl) ?_
  intro φ3 w3 s
  refine end_rule (C := []) _ [] (.tuple #[]) [] [] s trivial (by kernel_rfl) ?_
  exact ⟨_, _, _, rfl, s, (by have hq0 := dT9 hc2; have hL := @dlen P at0; have hk9 := numK_le (P.drop at0); have hn8 := numN_lt (P.drop at0); exact ⟨_, rfl, rfl, (by rfl), (by (unfold faE; first | rw [if_pos (by omega)] | rw [if_neg (by omega)]); try rfl)⟩)⟩
 ·
  rw [hc2]
  refine cond_false_rule (b := false) (by kernel_rfl) rfl ?_
  refine wp_skip ?_
  refine end_rule (C := []) _ [] (.tuple #[]) [] [] s trivial (by kernel_rfl) ?_
  exact ⟨_, _, _, rfl, s, (by have hq0 := dF9 hc2; have hL := @dlen P at0; have hk9 := numK_le (P.drop at0); have hn8 := numN_lt (P.drop at0); exact ⟨_, rfl, rfl, (by rfl), (by (unfold faE; first | rw [if_pos (by omega)] | rw [if_neg (by omega)]); try rfl)⟩)⟩

set_option maxHeartbeats 2000000 in
theorem refEnd_c {I : IM} {P : List UInt8} {a : Option Addr} {k c x at0 e : Nat} (hl : BSl I P (.slice a k c)) (hn9 : P.length ≤ 1000000) (hat : at0 ≤ P.length) : FunM Tryd.prog 76 #[.pointer (some ⟨x, 0, none⟩)] I [(x, .cells #[.slice a k c, .int .i64 ((at0 : Nat) : Int), .int .i64 ((e : Nat) : Int)] 106)] (fun v J H' => ∃ b' : OB, H' = [b'] ∧ b'.1 = x ∧ v = .int .i64 ((enE (P.drop at0) e : Nat) : Int) ∧ b' = (x, .cells #[.slice a k c, .int .i64 ((at0 + 0 : Nat) : Int), .int .i64 ((enE (P.drop at0) e : Nat) : Int)] 106)) := by
 obtain ⟨rfl, -⟩ := hl.cap
 refine enterM_rule 19 [(0, pB x)] Tryd.func76 rfl (by kernel_rfl) ?_
 intro w s
 refine seqR ?_
 refine oKD [(x, .cells #[.slice a P.length c, .int .i64 at0, .int .i64 e] 106)] [] 1 [] 0 (fun φ1 => [(2, .int .i64 0)]) (fun φ1 => []) s (fun φ1 => by kernel_rfl) (by kernel_rfl) ?_
 intro φ1 w1 s
 refine wp_seq ?_
 refine wp_seq ?_
 refine draw_rule (C := []) ⟨(fun φ2 xs2 => [.look 0 [] [], .look 0 [] [], .look 0 [] [], .look 0 [.o 0] [x], .look 0 [] [], .look 0 [] [], .look 0 [] [], .look 0 [.o 0] [x], .look 0 [] [], .sub 0 [] [] (.bool (decide (((at0 : Nat) : Int) < ((P.length : Nat) : Int))))]), (fun φ2 xs2 => [pB x, pB x, .pointer (some ⟨x, 1, none⟩), .int .i64 at0, pB x, pB x, pB x, .slice a P.length c, .int .i64 P.length, .bool (decide (at0 < P.length))]), (fun φ2 xs2 => [[(x, .cells #[.slice a P.length c, .int .i64 at0, .int .i64 e] 106)]]), (fun φ2 xs2 => [[default, default, default, default, default, default, default, default, default, default]]), [], [1, 1, 1, 1, 1, 1, 1, 1, 1, 5]⟩ (fun j => ([MP.any] : List MP).getD j MP.any) [] [9] [] (fun φ2 xs2 => []) (fun φ2 xs2 => [(3, pB x), (4, pB x), (5, .pointer (some ⟨x, 1, none⟩)), (6, .int .i64 at0), (7, pB x), (8, pB x), (9, pB x), (10, .slice a P.length c), (11, .int .i64 P.length), (12, .bool (decide (at0 < P.length)))]) (fun φ2 xs2 => [(x, .cells #[.slice a P.length c, .int .i64 at0, .int .i64 e] 106)]) s trivial (by kernel_rfl) (by kernel_rfl) (fun _ _ => by kernel_rfl) (fun _ _ => by kernel_rfl) ⟨fun _ _ => by kernel_rfl, fun _ _ => by kernel_rfl, fun _ _ => by kernel_rfl, fun _ _ => by kernel_rfl⟩ (fun _ _ _ => by kernel_rfl) (fun _ _ => by kernel_rfl) (fun _ _ => by kernel_rfl) (fun _ _ => by kernel_rfl) (fun _ _ => by kernel_rfl) (fun _ _ => by kernel_rfl) ⟨kcast (A := ∀ (φ2 : Nat → Nat) (xs2 : Xs), (.bool (decide (((at0 : Nat) : Int) < ((P.length : Nat) : Int))) : Value) = .bool (decide (at0 < P.length))) (by kernel_rfl) (fun φ2 xs2 => congrArg Value.bool ((nat_lss (a := at0) (b := P.length)))), trivial⟩ trivial (by kernel_rfl) trivial ?k2
 case k2 =>
  rintro φ2 xs2 I2 w2 le2 s 
  replace hl := BSl.mono le2 hl
  rcases Bool.eq_false_or_eq_true (decide (at0 < P.length)) with hc3 | hc3
  ·
   rw [hc3]
   refine cond_true_rule (b := true) (by kernel_rfl) rfl ?_
   refine region_rule ?_
   refine oK [(x, .cells #[.slice a P.length c, .int .i64 at0, .int .i64 e] 106)] [] 1 [] 0 (fun φ4 => [(13, pB x)]) (fun φ4 => []) s (fun φ4 => by kernel_rfl) ?_
   intro φ4 w4 s
   refine callB_rule (b := (x, .cells #[.slice a P.length c, .int .i64 at0, .int .i64 e] 106)) (F := []) (Hr := []) (some 14) 0 s (by kernel_rfl) (by kernel_rfl) (refFail_c (x := x) (at0 := at0) (e := e) (q := 6) hl (by omega) (by omega)) (by kernel_rfl) ?_
   rintro v5 I5 w5 b5 le5 - h5 s
   obtain ⟨rfl, rfl⟩ := h5
   refine ops_done (by kernel_rfl) ?_
   refine seqR ?_
   refine oKD _ [] 5 [.o 0] 0 (fun φ6 => [(2, .int .i64 (faE 6 e)), (18, .int .i64 (faE 6 e)), (17, .pointer (some ⟨x, 2, none⟩)), (16, pB x), (15, pB x)]) (fun φ6 => [x]) s (fun φ6 => by kernel_rfl) (by kernel_rfl) ?_
   intro φ6 w6 s
   refine wp_ret ?_
   refine ret_rule (C := []) _ [] (.int .i64 (faE 6 e)) [] [] s trivial (by kernel_rfl) ?_
   exact ⟨_, _, _, rfl, s, (by have hq0 := dT9 hc3; have hL := @dlen P at0; have hk9 := numK_le (P.drop at0); have hn8 := numN_lt (P.drop at0); exact ⟨_, rfl, rfl, (by first | rw [enE_pos (by omega)] | rw [enE_none (by omega)]), (by first | rw [enE_pos (by omega)] | rw [enE_none (by omega)]; try rfl)⟩)⟩
  ·
   rw [hc3]
   refine cond_false_rule (b := false) (by kernel_rfl) rfl ?_
   refine wp_skip ?_
   refine seqR ?_
   refine oKD [(x, .cells #[.slice a P.length c, .int .i64 at0, .int .i64 e] 106)] [] 5 [.o 0] 0 (fun φ7 => [(2, .int .i64 e), (18, .int .i64 e), (17, .pointer (some ⟨x, 2, none⟩)), (16, pB x), (15, pB x)]) (fun φ7 => [x]) s (fun φ7 => by kernel_rfl) (by kernel_rfl) ?_
   intro φ7 w7 s
   refine wp_ret ?_
   refine ret_rule (C := []) _ [] (.int .i64 e) [] [] s trivial (by kernel_rfl) ?_
   exact ⟨_, _, _, rfl, s, (by have hq0 := dF9 hc3; have hL := @dlen P at0; have hk9 := numK_le (P.drop at0); have hn8 := numN_lt (P.drop at0); exact ⟨_, rfl, rfl, (by first | rw [enE_pos (by omega)] | rw [enE_none (by omega)]), (by first | rw [enE_pos (by omega)] | rw [enE_none (by omega)]; try rfl)⟩)⟩

theorem mid_drop {P : List UInt8} {at0 k n : Nat} (h : at0 + (k + n) ≤ P.length) : (P.take (at0 + (k + n))).drop (at0 + (k + n) - n) = ((P.drop at0).drop k).take n := by
  rw [show at0 + (k + n) - n = at0 + k by omega, List.drop_take, List.drop_drop, show at0 + (k + n) - (at0 + k) = n by omega]

set_option maxHeartbeats 2000000 in
theorem refText_c {I : IM} {P : List UInt8} {a : Option Addr} {k c x at0 e z : Nat} (hl : BSl I P (.slice a k c)) (hn9 : P.length ≤ 1000000) (hat : at0 ≤ P.length) (hz : z < 9223372036854775808) : FunM Tryd.prog 107 #[.pointer (some ⟨x, 0, none⟩), .int .i64 ((z : Nat) : Int)] I [(x, .cells #[.slice a k c, .int .i64 ((at0 : Nat) : Int), .int .i64 ((e : Nat) : Int)] 106)] (fun v J H' => ∃ b' : OB, H' = [b'] ∧ b'.1 = x ∧ v = .string ⟨(teV (P.drop at0) e ((z : Nat) : Int)).toArray⟩ ∧ b' = (x, .cells #[.slice a k c, .int .i64 ((at0 + teD (P.drop at0) e ((z : Nat) : Int) : Nat) : Int), .int .i64 ((teE (P.drop at0) e ((z : Nat) : Int) : Nat) : Int)] 106)) := by
 obtain ⟨rfl, -⟩ := hl.cap
 refine enterM_rule 86 [(0, pB x), (1, .int .i64 z)] Tryd.func107 rfl (by kernel_rfl) ?_
 intro w s
 refine seqR ?_
 refine oKD [(x, .cells #[.slice a P.length c, .int .i64 at0, .int .i64 e] 106)] [] 1 [] 0 (fun φ1 => [(4, .string ⟨#[]⟩)]) (fun φ1 => []) s (fun φ1 => by kernel_rfl) (by kernel_rfl) ?_
 intro φ1 w1 s
 refine wp_seq ?_
 refine seqR ?_
 refine oK _ [] 5 [.o 0] 0 (fun φ2 => [(11, .bool (((e : Nat) : Int) != ((0 : Nat) : Int))), (10, .int .i64 e), (9, .pointer (some ⟨x, 2, none⟩)), (8, pB x), (7, pB x)]) (fun φ2 => [x]) s (fun φ2 => by kernel_rfl) ?_
 intro φ2 w2 s
 rw [nat_neq (a := e) (b := 0)]
 refine ops_done (by kernel_rfl) ?_
 rcases Bool.eq_false_or_eq_true (decide (e ≠ 0)) with hc3 | hc3
 ·
  rw [hc3]
  refine cond_true_rule (b := true) (by kernel_rfl) rfl ?_
  refine seqR ?_
  refine oKD _ [] 1 [] 0 (fun φ4 => [(4, .string ⟨#[]⟩)]) (fun φ4 => []) s (fun φ4 => by kernel_rfl) (by kernel_rfl) ?_
  intro φ4 w4 s
  refine wp_ret ?_
  refine ret_rule (C := []) _ [] (.string ⟨#[]⟩) [] [] s trivial (by kernel_rfl) ?_
  exact ⟨_, _, _, rfl, s, (by have hq0 := dT9 hc3; have hL := @dlen P at0; have hk9 := numK_le (P.drop at0); have hn8 := numN_lt (P.drop at0); exact ⟨_, rfl, rfl, (by unfold teV; first | (rw [if_neg (by unfold okT; omega)]; done) | (rw [if_neg (by unfold okT; omega)]; rfl) | (rw [if_pos (by unfold okT; omega)]; exact congrArg (fun q : List UInt8 => Value.string ⟨q.toArray⟩) (mid_drop (by omega)))), (by unfold teD teE; (first | (rw [if_neg (by unfold okT; omega)]) | (rw [if_pos (by unfold okT; omega)])); first | (rw [if_neg (by omega)]; done) | (rw [if_neg (by omega)]; rfl) | (rw [if_pos (by omega), if_pos (by omega)]; rfl) | (rw [if_pos (by omega), if_neg (by omega), if_pos (by omega)]; rfl) | (rw [if_pos (by omega), if_neg (by omega), if_neg (by omega), if_pos (by omega)]; rfl) | (rw [if_pos (by omega), if_neg (by omega), if_neg (by omega), if_neg (by omega), show e = 0 by omega]; done) | (rw [if_pos (by omega), if_neg (by omega), if_neg (by omega), if_neg (by omega), show e = 0 by omega]; rfl))⟩)⟩
 ·
  rw [hc3]
  refine cond_false_rule (b := false) (by kernel_rfl) rfl ?_
  refine wp_skip ?_
  refine wp_seq ?_
  refine draw_rule (C := []) ⟨(fun φ5 xs5 => [.look 0 [] [], .look 0 [] [], .look 0 [] [], .look 0 [.o 0] [x], .look 0 [] [], .look 0 [] [], .look 0 [] [], .look 0 [.o 0] [x], .call 113 #[.slice a P.length c, .int .i64 at0], .look 0 [] [], .look 0 [] [], .look 0 [] [], .look 0 [] [], .look 0 [] []]), (fun φ5 xs5 => [pB x, pB x, pB x, .slice a P.length c, pB x, pB x, .pointer (some ⟨x, 1, none⟩), .int .i64 at0, .tuple #[.int .u64 (numN (P.drop at0)), .int .i64 (numK (P.drop at0))], .tuple #[.int .u64 (numN (P.drop at0)), .int .i64 (numK (P.drop at0))], .int .u64 (numN (P.drop at0)), .int .i64 (numK (P.drop at0)), .int .u64 (numN (P.drop at0)), .int .i64 (numK (P.drop at0))]), (fun φ5 xs5 => [[(x, .cells #[.slice a P.length c, .int .i64 at0, .int .i64 e] 106)]]), (fun φ5 xs5 => [[default, default, default, default, default, default, default, default, default, default, default, default, default, default]]), [], [1, 1, 1, 1, 1, 1, 1, 1, 3, 1, 1, 1, 1, 1]⟩ (fun j => ([MP.any] : List MP).getD j MP.any) [8] [] [] (fun φ5 xs5 => []) (fun φ5 xs5 => [(13, pB x), (14, pB x), (15, pB x), (16, .slice a P.length c), (17, pB x), (18, pB x), (19, .pointer (some ⟨x, 1, none⟩)), (20, .int .i64 at0), (21, .tuple #[.int .u64 (numN (P.drop at0)), .int .i64 (numK (P.drop at0))]), (12, .tuple #[.int .u64 (numN (P.drop at0)), .int .i64 (numK (P.drop at0))]), (22, .int .u64 (numN (P.drop at0))), (23, .int .i64 (numK (P.drop at0))), (5, .int .u64 (numN (P.drop at0))), (6, .int .i64 (numK (P.drop at0)))]) (fun φ5 xs5 => [(x, .cells #[.slice a P.length c, .int .i64 at0, .int .i64 e] 106)]) s trivial (by kernel_rfl) (by kernel_rfl) (fun _ _ => by kernel_rfl) (fun _ _ => by kernel_rfl) ⟨fun _ _ => by kernel_rfl, fun _ _ => by kernel_rfl, fun _ _ => by kernel_rfl, fun _ _ => by kernel_rfl⟩ (fun _ _ _ => by kernel_rfl) (fun _ _ => by kernel_rfl) (fun _ _ => by kernel_rfl) (fun _ _ => by kernel_rfl) (fun _ _ => by kernel_rfl) (fun _ _ => by kernel_rfl) trivial trivial (by kernel_rfl) ⟨?c5_8, trivial⟩ ?k5
  case c5_8 =>
   refine kcast (A := ∀ (φ5 : Nat → Nat) (xs5 : Xs) (J8_5 : IM), I.Le J8_5 → Fun Tryd.prog 113 #[.slice a P.length c, .int .i64 at0] J8_5 (fun v J' => ∃ x : UX, v = .tuple #[.int .u64 (numN (P.drop at0)), .int .i64 (numK (P.drop at0))] ∧ (True))) (by kernel_rfl) ?_
   intro φ5 xs5 J8_5 leJ
   have hl := BSl.mono leJ hl
   exact Fun.mono (refnumAt_c hl (by omega) (by omega)) (fun v J' _ h => ⟨UX.d, h, trivial⟩)
  case k5 =>
   rintro φ5 xs5 I5 w5 le5 s _
   replace hl := BSl.mono le5 hl
   refine wp_seq ?_
   refine seqR ?_
   refine oK [(x, .cells #[.slice a P.length c, .int .i64 at0, .int .i64 e] 106)] [] 2 [] 0 (fun φ6 => [(25, .bool (((numK (P.drop at0) : Nat) : Int) == ((0 : Nat) : Int))), (24, .int .i64 (numK (P.drop at0)))]) (fun φ6 => []) s (fun φ6 => by kernel_rfl) ?_
   intro φ6 w6 s
   rw [nat_eql (a := (numK (P.drop at0))) (b := 0)]
   refine ops_done (by kernel_rfl) ?_
   rcases Bool.eq_false_or_eq_true (decide ((numK (P.drop at0)) = 0)) with hc7 | hc7
   ·
    rw [hc7]
    refine cond_true_rule (b := true) (by kernel_rfl) rfl ?_
    refine seqR ?_
    refine oAD _ [] 4 [.o 0] 0 (fun φ8 => [(28, .pointer (some ⟨x, 2, none⟩)), (27, pB x), (26, pB x)]) (fun φ8 => [(x, .cells #[.slice a P.length c, .int .i64 at0, .int .i64 6] 106)]) (fun φ8 => [x]) s (fun φ8 => by kernel_rfl) (by kernel_rfl) ?_
    intro φ8 w8 s
    refine seqR ?_
    refine oKD _ [] 1 [] 0 (fun φ9 => [(4, .string ⟨#[]⟩)]) (fun φ9 => []) s (fun φ9 => by kernel_rfl) (by kernel_rfl) ?_
    intro φ9 w9 s
    refine wp_ret ?_
    refine ret_rule (C := []) _ [] (.string ⟨#[]⟩) [] [] s trivial (by kernel_rfl) ?_
    exact ⟨_, _, _, rfl, s, (by have hq0 := dF9 hc3; have hq1 := dT9 hc7; have hL := @dlen P at0; have hk9 := numK_le (P.drop at0); have hn8 := numN_lt (P.drop at0); exact ⟨_, rfl, rfl, (by unfold teV; first | (rw [if_neg (by unfold okT; omega)]; done) | (rw [if_neg (by unfold okT; omega)]; rfl) | (rw [if_pos (by unfold okT; omega)]; exact congrArg (fun q : List UInt8 => Value.string ⟨q.toArray⟩) (mid_drop (by omega)))), (by unfold teD teE; (first | (rw [if_neg (by unfold okT; omega)]) | (rw [if_pos (by unfold okT; omega)])); first | (rw [if_neg (by omega)]; done) | (rw [if_neg (by omega)]; rfl) | (rw [if_pos (by omega), if_pos (by omega)]; rfl) | (rw [if_pos (by omega), if_neg (by omega), if_pos (by omega)]; rfl) | (rw [if_pos (by omega), if_neg (by omega), if_neg (by omega), if_pos (by omega)]; rfl) | (rw [if_pos (by omega), if_neg (by omega), if_neg (by omega), if_neg (by omega), show e = 0 by omega]; done) | (rw [if_pos (by omega), if_neg (by omega), if_neg (by omega), if_neg (by omega), show e = 0 by omega]; rfl))⟩)⟩
   ·
    rw [hc7]
    refine cond_false_rule (b := false) (by kernel_rfl) rfl ?_
    refine wp_skip ?_
    refine wp_seq ?_
    refine seqR ?_
    refine oK _ [] 3 [] 0 (fun φ10 => [(31, .bool (decide (((z : Nat) : Int) < ((0 : Nat) : Int)))), (30, .bool (decide (((z : Nat) : Int) < ((0 : Nat) : Int)))), (29, .int .i64 z)]) (fun φ10 => []) s (fun φ10 => by kernel_rfl) ?_
    intro φ10 w10 s
    rw [nat_lss (a := z) (b := 0)]
    rcases Bool.eq_false_or_eq_true (decide (z < 0)) with hc11 | hc11
    ·
     rw [hc11]
     refine oKD _ [] 5 [] 0 (fun φ12 => [(36, .bool true), (35, undef), (34, undef), (33, undef), (32, undef)]) (fun φ12 => []) s (fun φ12 => by kernel_rfl) (by kernel_rfl) ?_
     intro φ12 w12 s
     refine cond_true_rule (b := true) (by kernel_rfl) rfl ?_
     refine seqR ?_
     refine oAD _ [] 4 [.o 0] 0 (fun φ13 => [(39, .pointer (some ⟨x, 2, none⟩)), (38, pB x), (37, pB x)]) (fun φ13 => [(x, .cells #[.slice a P.length c, .int .i64 at0, .int .i64 9] 106)]) (fun φ13 => [x]) s (fun φ13 => by kernel_rfl) (by kernel_rfl) ?_
     intro φ13 w13 s
     refine seqR ?_
     refine oKD _ [] 1 [] 0 (fun φ14 => [(4, .string ⟨#[]⟩)]) (fun φ14 => []) s (fun φ14 => by kernel_rfl) (by kernel_rfl) ?_
     intro φ14 w14 s
     refine wp_ret ?_
     refine ret_rule (C := []) _ [] (.string ⟨#[]⟩) [] [] s trivial (by kernel_rfl) ?_
     exact ⟨_, _, _, rfl, s, (by have hq0 := dF9 hc3; have hq1 := dF9 hc7; have hq2 := dT9 hc11; have hL := @dlen P at0; have hk9 := numK_le (P.drop at0); have hn8 := numN_lt (P.drop at0); exact ⟨_, rfl, rfl, (by unfold teV; first | (rw [if_neg (by unfold okT; omega)]; done) | (rw [if_neg (by unfold okT; omega)]; rfl) | (rw [if_pos (by unfold okT; omega)]; exact congrArg (fun q : List UInt8 => Value.string ⟨q.toArray⟩) (mid_drop (by omega)))), (by unfold teD teE; (first | (rw [if_neg (by unfold okT; omega)]) | (rw [if_pos (by unfold okT; omega)])); first | (rw [if_neg (by omega)]; done) | (rw [if_neg (by omega)]; rfl) | (rw [if_pos (by omega), if_pos (by omega)]; rfl) | (rw [if_pos (by omega), if_neg (by omega), if_pos (by omega)]; rfl) | (rw [if_pos (by omega), if_neg (by omega), if_neg (by omega), if_pos (by omega)]; rfl) | (rw [if_pos (by omega), if_neg (by omega), if_neg (by omega), if_neg (by omega), show e = 0 by omega]; done) | (rw [if_pos (by omega), if_neg (by omega), if_neg (by omega), if_neg (by omega), show e = 0 by omega]; rfl))⟩)⟩
    ·
     rw [hc11]
     refine oK _ [] 5 [] 0 (fun φ15 => [(36, .bool (decide (((numN (P.drop at0) : Nat) : Int) > (IntKind.wrap .u64 ((z : Nat) : Int))))), (35, .bool (decide (((numN (P.drop at0) : Nat) : Int) > (IntKind.wrap .u64 ((z : Nat) : Int))))), (34, .int .u64 (IntKind.wrap .u64 ((z : Nat) : Int))), (33, .int .i64 z), (32, .int .u64 (numN (P.drop at0)))]) (fun φ15 => []) s (fun φ15 => by kernel_rfl) ?_
     intro φ15 w15 s
     rw [nat_wrapU (a := z) (by have hL := @dlen P at0; have hk9 := numK_le (P.drop at0); have hn8 := numN_lt (P.drop at0); have hq0 := dF9 hc3; have hq1 := dF9 hc7; have hq2 := dF9 hc11; omega)]
     rw [nat_gtr (a := (numN (P.drop at0))) (b := z)]
     refine ops_done (by kernel_rfl) ?_
     rcases Bool.eq_false_or_eq_true (decide (z < (numN (P.drop at0)))) with hc16 | hc16
     ·
      rw [hc16]
      refine cond_true_rule (b := true) (by kernel_rfl) rfl ?_
      refine seqR ?_
      refine oAD _ [] 4 [.o 0] 0 (fun φ17 => [(39, .pointer (some ⟨x, 2, none⟩)), (38, pB x), (37, pB x)]) (fun φ17 => [(x, .cells #[.slice a P.length c, .int .i64 at0, .int .i64 9] 106)]) (fun φ17 => [x]) s (fun φ17 => by kernel_rfl) (by kernel_rfl) ?_
      intro φ17 w17 s
      refine seqR ?_
      refine oKD _ [] 1 [] 0 (fun φ18 => [(4, .string ⟨#[]⟩)]) (fun φ18 => []) s (fun φ18 => by kernel_rfl) (by kernel_rfl) ?_
      intro φ18 w18 s
      refine wp_ret ?_
      refine ret_rule (C := []) _ [] (.string ⟨#[]⟩) [] [] s trivial (by kernel_rfl) ?_
      exact ⟨_, _, _, rfl, s, (by have hq0 := dF9 hc3; have hq1 := dF9 hc7; have hq2 := dF9 hc11; have hq3 := dT9 hc16; have hL := @dlen P at0; have hk9 := numK_le (P.drop at0); have hn8 := numN_lt (P.drop at0); exact ⟨_, rfl, rfl, (by unfold teV; first | (rw [if_neg (by unfold okT; omega)]; done) | (rw [if_neg (by unfold okT; omega)]; rfl) | (rw [if_pos (by unfold okT; omega)]; exact congrArg (fun q : List UInt8 => Value.string ⟨q.toArray⟩) (mid_drop (by omega)))), (by unfold teD teE; (first | (rw [if_neg (by unfold okT; omega)]) | (rw [if_pos (by unfold okT; omega)])); first | (rw [if_neg (by omega)]; done) | (rw [if_neg (by omega)]; rfl) | (rw [if_pos (by omega), if_pos (by omega)]; rfl) | (rw [if_pos (by omega), if_neg (by omega), if_pos (by omega)]; rfl) | (rw [if_pos (by omega), if_neg (by omega), if_neg (by omega), if_pos (by omega)]; rfl) | (rw [if_pos (by omega), if_neg (by omega), if_neg (by omega), if_neg (by omega), show e = 0 by omega]; done) | (rw [if_pos (by omega), if_neg (by omega), if_neg (by omega), if_neg (by omega), show e = 0 by omega]; rfl))⟩)⟩
     ·
      rw [hc16]
      refine cond_false_rule (b := false) (by kernel_rfl) rfl ?_
      refine wp_skip ?_
      refine wp_seq ?_
      refine wp_seq ?_
      refine draw_rule (C := []) ⟨(fun φ19 xs19 => [.look 0 [] [], .look 0 [] [], .look 0 [] [], .look 0 [] [], .look 0 [.o 0] [x], .look 0 [] [], .look 0 [] [], .look 0 [] [], .look 0 [] [], .look 0 [.o 0] [x], .sub 0 [] [] (.int .i64 (IntKind.wrap .i64 (((P.length : Nat) : Int) - ((at0 : Nat) : Int)))), .look 0 [] [], .sub 0 [] [] (.int .i64 (IntKind.wrap .i64 (((P.length - at0 : Nat) : Int) - ((numK (P.drop at0) : Nat) : Int)))), .sub 0 [] [] (.int .u64 (IntKind.wrap .u64 (((P.length - at0) - (numK (P.drop at0)) : Nat) : Int))), .sub 0 [] [] (.bool (decide (((numN (P.drop at0) : Nat) : Int) > (((P.length - at0) - (numK (P.drop at0)) : Nat) : Int))))]), (fun φ19 xs19 => [.int .u64 (numN (P.drop at0)), pB x, pB x, pB x, .slice a P.length c, .int .i64 P.length, pB x, pB x, .pointer (some ⟨x, 1, none⟩), .int .i64 at0, .int .i64 ((P.length - at0 : Nat) : Int), .int .i64 (numK (P.drop at0)), .int .i64 (((P.length - at0) - (numK (P.drop at0)) : Nat) : Int), .int .u64 (((P.length - at0) - (numK (P.drop at0)) : Nat) : Int), .bool (decide (((P.length - at0) - (numK (P.drop at0))) < (numN (P.drop at0))))]), (fun φ19 xs19 => [[(x, .cells #[.slice a P.length c, .int .i64 at0, .int .i64 e] 106)]]), (fun φ19 xs19 => [[default, default, default, default, default, default, default, default, default, default, default, default, default, default, default]]), [], [1, 1, 1, 1, 1, 1, 1, 1, 1, 1, 5, 1, 5, 5, 5]⟩ (fun j => ([MP.any] : List MP).getD j MP.any) [] [10, 12, 13, 14] [] (fun φ19 xs19 => []) (fun φ19 xs19 => [(40, .int .u64 (numN (P.drop at0))), (41, pB x), (42, pB x), (43, pB x), (44, .slice a P.length c), (45, .int .i64 P.length), (46, pB x), (47, pB x), (48, .pointer (some ⟨x, 1, none⟩)), (49, .int .i64 at0), (50, .int .i64 ((P.length - at0 : Nat) : Int)), (51, .int .i64 (numK (P.drop at0))), (52, .int .i64 (((P.length - at0) - (numK (P.drop at0)) : Nat) : Int)), (53, .int .u64 (((P.length - at0) - (numK (P.drop at0)) : Nat) : Int)), (54, .bool (decide (((P.length - at0) - (numK (P.drop at0))) < (numN (P.drop at0)))))]) (fun φ19 xs19 => [(x, .cells #[.slice a P.length c, .int .i64 at0, .int .i64 e] 106)]) s trivial (by kernel_rfl) (by kernel_rfl) (fun _ _ => by kernel_rfl) (fun _ _ => by kernel_rfl) ⟨fun _ _ => by kernel_rfl, fun _ _ => by kernel_rfl, fun _ _ => by kernel_rfl, fun _ _ => by kernel_rfl⟩ (fun _ _ _ => by kernel_rfl) (fun _ _ => by kernel_rfl) (fun _ _ => by kernel_rfl) (fun _ _ => by kernel_rfl) (fun _ _ => by kernel_rfl) (fun _ _ => by kernel_rfl) ⟨kcast (A := ∀ (φ19 : Nat → Nat) (xs19 : Xs), (.int .i64 (IntKind.wrap .i64 (((P.length : Nat) : Int) - ((at0 : Nat) : Int))) : Value) = .int .i64 ((P.length - at0 : Nat) : Int)) (by kernel_rfl) (fun φ19 xs19 => congrArg (Value.int .i64) ((nat_subI (a := P.length) (b := at0) (by have hL := @dlen P at0; have hk9 := numK_le (P.drop at0); have hn8 := numN_lt (P.drop at0); have hq0 := dF9 hc3; have hq1 := dF9 hc7; have hq2 := dF9 hc11; have hq3 := dF9 hc16; (try simp only [List.length_drop, List.length_take, List.length_append, List.length_cons, List.length_nil]); omega) (by have hL := @dlen P at0; have hk9 := numK_le (P.drop at0); have hn8 := numN_lt (P.drop at0); have hq0 := dF9 hc3; have hq1 := dF9 hc7; have hq2 := dF9 hc11; have hq3 := dF9 hc16; (try simp only [List.length_drop, List.length_take, List.length_append, List.length_cons, List.length_nil]); omega)))), ⟨kcast (A := ∀ (φ19 : Nat → Nat) (xs19 : Xs), (.int .i64 (IntKind.wrap .i64 (((P.length - at0 : Nat) : Int) - ((numK (P.drop at0) : Nat) : Int))) : Value) = .int .i64 (((P.length - at0) - (numK (P.drop at0)) : Nat) : Int)) (by kernel_rfl) (fun φ19 xs19 => congrArg (Value.int .i64) ((nat_subI (a := (P.length - at0)) (b := (numK (P.drop at0))) (by have hL := @dlen P at0; have hk9 := numK_le (P.drop at0); have hn8 := numN_lt (P.drop at0); have hq0 := dF9 hc3; have hq1 := dF9 hc7; have hq2 := dF9 hc11; have hq3 := dF9 hc16; (try simp only [List.length_drop, List.length_take, List.length_append, List.length_cons, List.length_nil]); omega) (by have hL := @dlen P at0; have hk9 := numK_le (P.drop at0); have hn8 := numN_lt (P.drop at0); have hq0 := dF9 hc3; have hq1 := dF9 hc7; have hq2 := dF9 hc11; have hq3 := dF9 hc16; (try simp only [List.length_drop, List.length_take, List.length_append, List.length_cons, List.length_nil]); omega)))), ⟨kcast (A := ∀ (φ19 : Nat → Nat) (xs19 : Xs), (.int .u64 (IntKind.wrap .u64 (((P.length - at0) - (numK (P.drop at0)) : Nat) : Int)) : Value) = .int .u64 (((P.length - at0) - (numK (P.drop at0)) : Nat) : Int)) (by kernel_rfl) (fun φ19 xs19 => congrArg (Value.int .u64) ((nat_wrapU (a := ((P.length - at0) - (numK (P.drop at0)))) (by have hL := @dlen P at0; have hk9 := numK_le (P.drop at0); have hn8 := numN_lt (P.drop at0); have hq0 := dF9 hc3; have hq1 := dF9 hc7; have hq2 := dF9 hc11; have hq3 := dF9 hc16; (try simp only [List.length_drop, List.length_take, List.length_append, List.length_cons, List.length_nil]); omega)))), ⟨kcast (A := ∀ (φ19 : Nat → Nat) (xs19 : Xs), (.bool (decide (((numN (P.drop at0) : Nat) : Int) > (((P.length - at0) - (numK (P.drop at0)) : Nat) : Int))) : Value) = .bool (decide (((P.length - at0) - (numK (P.drop at0))) < (numN (P.drop at0))))) (by kernel_rfl) (fun φ19 xs19 => congrArg Value.bool ((nat_gtr (a := (numN (P.drop at0))) (b := ((P.length - at0) - (numK (P.drop at0))))))), trivial⟩⟩⟩⟩ trivial (by kernel_rfl) trivial ?k19
      case k19 =>
       rintro φ19 xs19 I19 w19 le19 s 
       replace hl := BSl.mono le19 hl
       rcases Bool.eq_false_or_eq_true (decide (((P.length - at0) - (numK (P.drop at0))) < (numN (P.drop at0)))) with hc20 | hc20
       ·
        rw [hc20]
        refine cond_true_rule (b := true) (by kernel_rfl) rfl ?_
        refine seqR ?_
        refine oAD [(x, .cells #[.slice a P.length c, .int .i64 at0, .int .i64 e] 106)] [] 4 [.o 0] 0 (fun φ21 => [(57, .pointer (some ⟨x, 2, none⟩)), (56, pB x), (55, pB x)]) (fun φ21 => [(x, .cells #[.slice a P.length c, .int .i64 at0, .int .i64 6] 106)]) (fun φ21 => [x]) s (fun φ21 => by kernel_rfl) (by kernel_rfl) ?_
        intro φ21 w21 s
        refine seqR ?_
        refine oKD _ [] 1 [] 0 (fun φ22 => [(4, .string ⟨#[]⟩)]) (fun φ22 => []) s (fun φ22 => by kernel_rfl) (by kernel_rfl) ?_
        intro φ22 w22 s
        refine wp_ret ?_
        refine ret_rule (C := []) _ [] (.string ⟨#[]⟩) [] [] s trivial (by kernel_rfl) ?_
        exact ⟨_, _, _, rfl, s, (by have hq0 := dF9 hc3; have hq1 := dF9 hc7; have hq2 := dF9 hc11; have hq3 := dF9 hc16; have hq4 := dT9 hc20; have hL := @dlen P at0; have hk9 := numK_le (P.drop at0); have hn8 := numN_lt (P.drop at0); exact ⟨_, rfl, rfl, (by unfold teV; first | (rw [if_neg (by unfold okT; omega)]; done) | (rw [if_neg (by unfold okT; omega)]; rfl) | (rw [if_pos (by unfold okT; omega)]; exact congrArg (fun q : List UInt8 => Value.string ⟨q.toArray⟩) (mid_drop (by omega)))), (by unfold teD teE; (first | (rw [if_neg (by unfold okT; omega)]) | (rw [if_pos (by unfold okT; omega)])); first | (rw [if_neg (by omega)]; done) | (rw [if_neg (by omega)]; rfl) | (rw [if_pos (by omega), if_pos (by omega)]; rfl) | (rw [if_pos (by omega), if_neg (by omega), if_pos (by omega)]; rfl) | (rw [if_pos (by omega), if_neg (by omega), if_neg (by omega), if_pos (by omega)]; rfl) | (rw [if_pos (by omega), if_neg (by omega), if_neg (by omega), if_neg (by omega), show e = 0 by omega]; done) | (rw [if_pos (by omega), if_neg (by omega), if_neg (by omega), if_neg (by omega), show e = 0 by omega]; rfl))⟩)⟩
       ·
        rw [hc20]
        refine cond_false_rule (b := false) (by kernel_rfl) rfl ?_
        refine wp_skip ?_
        refine seqR ?_
        refine oA [(x, .cells #[.slice a P.length c, .int .i64 at0, .int .i64 e] 106)] [] 12 [.o 0, .o 0] 0 (fun φ23 => [(68, .pointer (some ⟨x, 1, none⟩)), (67, pB x), (66, .int .i64 (IntKind.wrap .i64 (((at0 : Nat) : Int) + (IntKind.wrap .i64 (((numK (P.drop at0) : Nat) : Int) + (IntKind.wrap .i64 ((numN (P.drop at0) : Nat) : Int))))))), (65, .int .i64 (IntKind.wrap .i64 (((numK (P.drop at0) : Nat) : Int) + (IntKind.wrap .i64 ((numN (P.drop at0) : Nat) : Int))))), (64, .int .i64 (IntKind.wrap .i64 ((numN (P.drop at0) : Nat) : Int))), (63, .int .u64 (numN (P.drop at0))), (62, .int .i64 (numK (P.drop at0))), (61, .int .i64 at0), (60, .pointer (some ⟨x, 1, none⟩)), (59, pB x), (58, pB x)]) (fun φ23 => [(x, .cells #[.slice a P.length c, .int .i64 (IntKind.wrap .i64 (((at0 : Nat) : Int) + (IntKind.wrap .i64 (((numK (P.drop at0) : Nat) : Int) + (IntKind.wrap .i64 ((numN (P.drop at0) : Nat) : Int)))))), .int .i64 e] 106)]) (fun φ23 => [x, x]) s (fun φ23 => by kernel_rfl) ?_
        intro φ23 w23 s
        rw [nat_wrapI (a := (numN (P.drop at0))) (by have hL := @dlen P at0; have hk9 := numK_le (P.drop at0); have hn8 := numN_lt (P.drop at0); have hq0 := dF9 hc3; have hq1 := dF9 hc7; have hq2 := dF9 hc11; have hq3 := dF9 hc16; have hq4 := dF9 hc20; omega)] at s ⊢
        rw [nat_addI (a := (numK (P.drop at0))) (b := (numN (P.drop at0))) (by have hL := @dlen P at0; have hk9 := numK_le (P.drop at0); have hn8 := numN_lt (P.drop at0); have hq0 := dF9 hc3; have hq1 := dF9 hc7; have hq2 := dF9 hc11; have hq3 := dF9 hc16; have hq4 := dF9 hc20; omega)] at s ⊢
        rw [nat_addI (a := at0) (b := ((numK (P.drop at0)) + (numN (P.drop at0)))) (by have hL := @dlen P at0; have hk9 := numK_le (P.drop at0); have hn8 := numN_lt (P.drop at0); have hq0 := dF9 hc3; have hq1 := dF9 hc7; have hq2 := dF9 hc11; have hq3 := dF9 hc16; have hq4 := dF9 hc20; omega)] at s ⊢
        refine ops_done (by kernel_rfl) ?_
        refine wp_seq ?_
        refine draw_rule (C := []) ⟨(fun φ24 xs24 => [.look 0 [] [], .look 0 [] [], .look 0 [] [], .look 0 [.o 0] [x], .look 0 [] [], .look 0 [] [], .look 0 [] [], .look 0 [.o 0] [x], .look 0 [] [], .sub 0 [] [] (.int .i64 (IntKind.wrap .i64 ((numN (P.drop at0) : Nat) : Int))), .sub 0 [] [] (.int .i64 (IntKind.wrap .i64 (((at0 + ((numK (P.drop at0)) + (numN (P.drop at0))) : Nat) : Int) - ((numN (P.drop at0) : Nat) : Int)))), .look 0 [] [], .look 0 [] [], .look 0 [] [], .look 0 [.o 0] [x], .ran (Instr.sliceAt 61 (.slice a P.length c) (some (.int .i64 (((at0 + ((numK (P.drop at0)) + (numN (P.drop at0)))) - (numN (P.drop at0)) : Nat) : Int))) (some (.int .i64 ((at0 + ((numK (P.drop at0)) + (numN (P.drop at0))) : Nat) : Int))) none), .ran (convert 61 9 (.slice (subA a ((at0 + ((numK (P.drop at0)) + (numN (P.drop at0)))) - (numN (P.drop at0))) c) (at0 + ((numK (P.drop at0)) + (numN (P.drop at0))) - ((at0 + ((numK (P.drop at0)) + (numN (P.drop at0)))) - (numN (P.drop at0)))) (c - ((at0 + ((numK (P.drop at0)) + (numN (P.drop at0)))) - (numN (P.drop at0)))))), .look 0 [] []]), (fun φ24 xs24 => [pB x, pB x, pB x, .slice a P.length c, pB x, pB x, .pointer (some ⟨x, 1, none⟩), .int .i64 ((at0 + ((numK (P.drop at0)) + (numN (P.drop at0))) : Nat) : Int), .int .u64 (numN (P.drop at0)), .int .i64 (numN (P.drop at0)), .int .i64 (((at0 + ((numK (P.drop at0)) + (numN (P.drop at0)))) - (numN (P.drop at0)) : Nat) : Int), pB x, pB x, .pointer (some ⟨x, 1, none⟩), .int .i64 ((at0 + ((numK (P.drop at0)) + (numN (P.drop at0))) : Nat) : Int), .slice (subA a ((at0 + ((numK (P.drop at0)) + (numN (P.drop at0)))) - (numN (P.drop at0))) c) (at0 + ((numK (P.drop at0)) + (numN (P.drop at0))) - ((at0 + ((numK (P.drop at0)) + (numN (P.drop at0)))) - (numN (P.drop at0)))) (c - ((at0 + ((numK (P.drop at0)) + (numN (P.drop at0)))) - (numN (P.drop at0)))), .string ⟨(((P.take (at0 + ((numK (P.drop at0)) + (numN (P.drop at0))))).drop ((at0 + ((numK (P.drop at0)) + (numN (P.drop at0)))) - (numN (P.drop at0))))).toArray⟩, .string ⟨(((P.take (at0 + ((numK (P.drop at0)) + (numN (P.drop at0))))).drop ((at0 + ((numK (P.drop at0)) + (numN (P.drop at0)))) - (numN (P.drop at0))))).toArray⟩]), (fun φ24 xs24 => [[(x, .cells #[.slice a P.length c, .int .i64 ((at0 + ((numK (P.drop at0)) + (numN (P.drop at0))) : Nat) : Int), .int .i64 e] 106)]]), (fun φ24 xs24 => [[default, default, default, default, default, default, default, default, default, default, default, default, default, default, default, default, default, default]]), [], [1, 1, 1, 1, 1, 1, 1, 1, 1, 5, 5, 1, 1, 1, 1, 6, 6, 1]⟩ (fun j => ([MP.any] : List MP).getD j MP.any) [] [9, 10] [15, 16] (fun φ24 xs24 => []) (fun φ24 xs24 => [(69, pB x), (70, pB x), (71, pB x), (72, .slice a P.length c), (73, pB x), (74, pB x), (75, .pointer (some ⟨x, 1, none⟩)), (76, .int .i64 ((at0 + ((numK (P.drop at0)) + (numN (P.drop at0))) : Nat) : Int)), (77, .int .u64 (numN (P.drop at0))), (78, .int .i64 (numN (P.drop at0))), (79, .int .i64 (((at0 + ((numK (P.drop at0)) + (numN (P.drop at0)))) - (numN (P.drop at0)) : Nat) : Int)), (80, pB x), (81, pB x), (82, .pointer (some ⟨x, 1, none⟩)), (83, .int .i64 ((at0 + ((numK (P.drop at0)) + (numN (P.drop at0))) : Nat) : Int)), (84, .slice (subA a ((at0 + ((numK (P.drop at0)) + (numN (P.drop at0)))) - (numN (P.drop at0))) c) (at0 + ((numK (P.drop at0)) + (numN (P.drop at0))) - ((at0 + ((numK (P.drop at0)) + (numN (P.drop at0)))) - (numN (P.drop at0)))) (c - ((at0 + ((numK (P.drop at0)) + (numN (P.drop at0)))) - (numN (P.drop at0))))), (85, .string ⟨(((P.take (at0 + ((numK (P.drop at0)) + (numN (P.drop at0))))).drop ((at0 + ((numK (P.drop at0)) + (numN (P.drop at0)))) - (numN (P.drop at0))))).toArray⟩), (4, .string ⟨(((P.take (at0 + ((numK (P.drop at0)) + (numN (P.drop at0))))).drop ((at0 + ((numK (P.drop at0)) + (numN (P.drop at0)))) - (numN (P.drop at0))))).toArray⟩)]) (fun φ24 xs24 => [(x, .cells #[.slice a P.length c, .int .i64 ((at0 + ((numK (P.drop at0)) + (numN (P.drop at0))) : Nat) : Int), .int .i64 e] 106)]) s trivial (by kernel_rfl) (by kernel_rfl) (fun _ _ => by kernel_rfl) (fun _ _ => by kernel_rfl) ⟨fun _ _ => by kernel_rfl, fun _ _ => by kernel_rfl, fun _ _ => by kernel_rfl, fun _ _ => by kernel_rfl⟩ (fun _ _ _ => by kernel_rfl) (fun _ _ => by kernel_rfl) (fun _ _ => by kernel_rfl) (fun _ _ => by kernel_rfl) (fun _ _ => by kernel_rfl) (fun _ _ => by kernel_rfl) ⟨kcast (A := ∀ (φ24 : Nat → Nat) (xs24 : Xs), (.int .i64 (IntKind.wrap .i64 ((numN (P.drop at0) : Nat) : Int)) : Value) = .int .i64 (numN (P.drop at0))) (by kernel_rfl) (fun φ24 xs24 => congrArg (Value.int .i64) ((nat_wrapI (a := (numN (P.drop at0))) (by have hL := @dlen P at0; have hk9 := numK_le (P.drop at0); have hn8 := numN_lt (P.drop at0); have hq0 := dF9 hc3; have hq1 := dF9 hc7; have hq2 := dF9 hc11; have hq3 := dF9 hc16; have hq4 := dF9 hc20; omega)))), ⟨kcast (A := ∀ (φ24 : Nat → Nat) (xs24 : Xs), (.int .i64 (IntKind.wrap .i64 (((at0 + ((numK (P.drop at0)) + (numN (P.drop at0))) : Nat) : Int) - ((numN (P.drop at0) : Nat) : Int))) : Value) = .int .i64 (((at0 + ((numK (P.drop at0)) + (numN (P.drop at0)))) - (numN (P.drop at0)) : Nat) : Int)) (by kernel_rfl) (fun φ24 xs24 => congrArg (Value.int .i64) ((nat_subI (a := (at0 + ((numK (P.drop at0)) + (numN (P.drop at0))))) (b := (numN (P.drop at0))) (by have hL := @dlen P at0; have hk9 := numK_le (P.drop at0); have hn8 := numN_lt (P.drop at0); have hq0 := dF9 hc3; have hq1 := dF9 hc7; have hq2 := dF9 hc11; have hq3 := dF9 hc16; have hq4 := dF9 hc20; omega) (by have hL := @dlen P at0; have hk9 := numK_le (P.drop at0); have hn8 := numN_lt (P.drop at0); have hq0 := dF9 hc3; have hq1 := dF9 hc7; have hq2 := dF9 hc11; have hq3 := dF9 hc16; have hq4 := dF9 hc20; omega)))), trivial⟩⟩ ⟨kcast (A := ∀ (φ24 : Nat → Nat) (xs24 : Xs) (J : IM) (w : World), I19.Le J → J.Sub w → ((Instr.sliceAt 61 (.slice a P.length c) (some (.int .i64 (((at0 + ((numK (P.drop at0)) + (numN (P.drop at0)))) - (numN (P.drop at0)) : Nat) : Int))) (some (.int .i64 ((at0 + ((numK (P.drop at0)) + (numN (P.drop at0))) : Nat) : Int))) none) : Sem Value).run Tryd.prog w = .ok (.slice (subA a ((at0 + ((numK (P.drop at0)) + (numN (P.drop at0)))) - (numN (P.drop at0))) c) (at0 + ((numK (P.drop at0)) + (numN (P.drop at0))) - ((at0 + ((numK (P.drop at0)) + (numN (P.drop at0)))) - (numN (P.drop at0)))) (c - ((at0 + ((numK (P.drop at0)) + (numN (P.drop at0)))) - (numN (P.drop at0))))) w) (by kernel_rfl) (fun φ24 xs24 J w hJ hS => run_mid (by have hcp := (BSl.cap hl).2; (try simp only [List.length_drop, List.length_take, List.length_append, List.length_cons, List.length_nil] at hcp ⊢); have hL := @dlen P at0; have hk9 := numK_le (P.drop at0); have hn8 := numN_lt (P.drop at0); have hq0 := dF9 hc3; have hq1 := dF9 hc7; have hq2 := dF9 hc11; have hq3 := dF9 hc16; have hq4 := dF9 hc20; omega) (by have hcp := (BSl.cap hl).2; (try simp only [List.length_drop, List.length_take, List.length_append, List.length_cons, List.length_nil] at hcp ⊢); have hL := @dlen P at0; have hk9 := numK_le (P.drop at0); have hn8 := numN_lt (P.drop at0); have hq0 := dF9 hc3; have hq1 := dF9 hc7; have hq2 := dF9 hc11; have hq3 := dF9 hc16; have hq4 := dF9 hc20; omega)), ⟨kcast (A := ∀ (φ24 : Nat → Nat) (xs24 : Xs) (J : IM) (w : World), I19.Le J → J.Sub w → ((convert 61 9 (.slice (subA a ((at0 + ((numK (P.drop at0)) + (numN (P.drop at0)))) - (numN (P.drop at0))) c) (at0 + ((numK (P.drop at0)) + (numN (P.drop at0))) - ((at0 + ((numK (P.drop at0)) + (numN (P.drop at0)))) - (numN (P.drop at0)))) (c - ((at0 + ((numK (P.drop at0)) + (numN (P.drop at0)))) - (numN (P.drop at0)))))) : Sem Value).run Tryd.prog w = .ok (.string ⟨(((P.take (at0 + ((numK (P.drop at0)) + (numN (P.drop at0))))).drop ((at0 + ((numK (P.drop at0)) + (numN (P.drop at0)))) - (numN (P.drop at0))))).toArray⟩) w) (by kernel_rfl) (fun φ24 xs24 J w hJ hS => run_b2s hS (BSl.mono hJ (bsl_mid (lo := (at0 + ((numK (P.drop at0)) + (numN (P.drop at0)))) - (numN (P.drop at0))) (hi := at0 + ((numK (P.drop at0)) + (numN (P.drop at0)))) hl (by have hcp := (BSl.cap hl).2; (try simp only [List.length_drop, List.length_take, List.length_append, List.length_cons, List.length_nil] at hcp ⊢); have hL := @dlen P at0; have hk9 := numK_le (P.drop at0); have hn8 := numN_lt (P.drop at0); have hq0 := dF9 hc3; have hq1 := dF9 hc7; have hq2 := dF9 hc11; have hq3 := dF9 hc16; have hq4 := dF9 hc20; omega) (by have hcp := (BSl.cap hl).2; (try simp only [List.length_drop, List.length_take, List.length_append, List.length_cons, List.length_nil] at hcp ⊢); have hL := @dlen P at0; have hk9 := numK_le (P.drop at0); have hn8 := numN_lt (P.drop at0); have hq0 := dF9 hc3; have hq1 := dF9 hc7; have hq2 := dF9 hc11; have hq3 := dF9 hc16; have hq4 := dF9 hc20; omega)))), trivial⟩⟩ (by kernel_rfl) trivial ?k24
        case k24 =>
         rintro φ24 xs24 I24 w24 le24 s 
         refine wp_ret ?_
         refine ret_rule (C := []) [(x, .cells #[.slice a P.length c, .int .i64 ((at0 + ((numK (P.drop at0)) + (numN (P.drop at0))) : Nat) : Int), .int .i64 e] 106)] [] (.string ⟨(((P.take (at0 + ((numK (P.drop at0)) + (numN (P.drop at0))))).drop ((at0 + ((numK (P.drop at0)) + (numN (P.drop at0)))) - (numN (P.drop at0))))).toArray⟩) [] [] s trivial (by kernel_rfl) ?_
         exact ⟨_, _, _, rfl, s, (by have hq0 := dF9 hc3; have hq1 := dF9 hc7; have hq2 := dF9 hc11; have hq3 := dF9 hc16; have hq4 := dF9 hc20; have hL := @dlen P at0; have hk9 := numK_le (P.drop at0); have hn8 := numN_lt (P.drop at0); exact ⟨_, rfl, rfl, (by unfold teV; first | (rw [if_neg (by unfold okT; omega)]; done) | (rw [if_neg (by unfold okT; omega)]; rfl) | (rw [if_pos (by unfold okT; omega)]; exact congrArg (fun q : List UInt8 => Value.string ⟨q.toArray⟩) (mid_drop (by omega)))), (by unfold teD teE; (first | (rw [if_neg (by unfold okT; omega)]) | (rw [if_pos (by unfold okT; omega)])); first | (rw [if_neg (by omega)]; done) | (rw [if_neg (by omega)]; rfl) | (rw [if_pos (by omega), if_pos (by omega)]; rfl) | (rw [if_pos (by omega), if_neg (by omega), if_pos (by omega)]; rfl) | (rw [if_pos (by omega), if_neg (by omega), if_neg (by omega), if_pos (by omega)]; rfl) | (rw [if_pos (by omega), if_neg (by omega), if_neg (by omega), if_neg (by omega), show e = 0 by omega]; done) | (rw [if_pos (by omega), if_neg (by omega), if_neg (by omega), if_neg (by omega), show e = 0 by omega]; rfl))⟩)⟩

end Go.Proofs.YtcpmjogeafhpnaaDoor

/- What an In tells, in variables. -/
set_option linter.all false
set_option maxRecDepth 100000
namespace Go.Proofs.YtcpmjogeafhpnaaDoor
open Go.RowKit Go.Sep
attribute [local irreducible] Go.wpList Go.Code.wp

theorem funM_mono {P : Program} {f : FuncId} {args : Array Value} {I : IM} {H : List OB} {R R' : Value → IM → List OB → Prop} (h : FunM P f args I H R) (k : ∀ v J H', R v J H' → R' v J H') : FunM P f args I H R' :=
  fun w hw ho => (h w hw ho).mono fun e w' ⟨v, J, H', he, p, r⟩ => ⟨v, J, H', he, p, k v J H' r⟩
theorem byteV_c {I : IM} {l : List UInt8} {a : Option Addr} {k c r e : Nat} (hl : BSl I l (.slice a k c)) (hn9 : l.length ≤ 1000000) : FunM Tryd.prog 55 #[.pointer (some ⟨r, 0, none⟩)] I [(r, .cells #[.slice a k c, .int .i64 ((e : Nat) : Int)] 126)] (fun v J H' => ∃ b' : OB, H' = [b'] ∧ b'.1 = r ∧ ∃ (V : Nat) (E D : Nat) (L : List UInt8) (a' : Option Addr) (k' c' : Nat), v = .int .u8 ((V : Nat) : Int) ∧ b' = (r, .cells #[.slice a' k' c', .int .i64 ((E : Nat) : Int)] 126) ∧ BSl J L (.slice a' k' c') ∧ byV l e = V ∧ byE l e = E ∧ byD l e = D ∧ l.drop D = L) := by
  refine funM_mono (byteG_c (r := r) (e := e) hl hn9) (fun v J H' q => ?_)
  obtain ⟨b', h1, h2, a', k', c', h3, h4, h5⟩ := q
  exact ⟨b', h1, h2, _, _, _, _, a', k', c', h3, h4, h5, rfl, rfl, rfl, rfl⟩
theorem numV_c {I : IM} {l : List UInt8} {a : Option Addr} {k c r e : Nat} (hl : BSl I l (.slice a k c)) (hn9 : l.length ≤ 1000000) : FunM Tryd.prog 114 #[.pointer (some ⟨r, 0, none⟩)] I [(r, .cells #[.slice a k c, .int .i64 ((e : Nat) : Int)] 126)] (fun v J H' => ∃ b' : OB, H' = [b'] ∧ b'.1 = r ∧ ∃ (V : Nat) (E D : Nat) (L : List UInt8) (a' : Option Addr) (k' c' : Nat), v = .int .u64 ((V : Nat) : Int) ∧ b' = (r, .cells #[.slice a' k' c', .int .i64 ((E : Nat) : Int)] 126) ∧ BSl J L (.slice a' k' c') ∧ nuV l e = V ∧ nuE l e = E ∧ nuD l e = D ∧ l.drop D = L) := by
  refine funM_mono (numG_c (r := r) (e := e) hl hn9) (fun v J H' q => ?_)
  obtain ⟨b', h1, h2, a', k', c', h3, h4, h5⟩ := q
  exact ⟨b', h1, h2, _, _, _, _, a', k', c', h3, h4, h5, rfl, rfl, rfl, rfl⟩
theorem textV_c {I : IM} {l : List UInt8} {a : Option Addr} {k c r e : Nat} (hl : BSl I l (.slice a k c)) (hn9 : l.length ≤ 1000000) {z : Nat} (hz : z < 9223372036854775808) : FunM Tryd.prog 115 #[.pointer (some ⟨r, 0, none⟩), .int .i64 ((z : Nat) : Int)] I [(r, .cells #[.slice a k c, .int .i64 ((e : Nat) : Int)] 126)] (fun v J H' => ∃ b' : OB, H' = [b'] ∧ b'.1 = r ∧ ∃ (V : List UInt8) (E D : Nat) (L : List UInt8) (a' : Option Addr) (k' c' : Nat), v = .string ⟨V.toArray⟩ ∧ b' = (r, .cells #[.slice a' k' c', .int .i64 ((E : Nat) : Int)] 126) ∧ BSl J L (.slice a' k' c') ∧ teV l e ((z : Nat) : Int) = V ∧ teE l e ((z : Nat) : Int) = E ∧ teD l e ((z : Nat) : Int) = D ∧ l.drop D = L) := by
  refine funM_mono (textG_c (r := r) (e := e) hl hn9 hz) (fun v J H' q => ?_)
  obtain ⟨b', h1, h2, a', k', c', h3, h4, h5⟩ := q
  exact ⟨b', h1, h2, _, _, _, _, a', k', c', h3, h4, h5, rfl, rfl, rfl, rfl⟩
theorem drop_len9 {l L : List UInt8} {d : Nat} (h : l.drop d = L) (hl : l.length ≤ 1000000) : L.length ≤ 1000000 := by rw [← h, List.length_drop]; omega

end Go.Proofs.YtcpmjogeafhpnaaDoor
/- A field is read; how many there are. -/
set_option linter.all false
set_option maxRecDepth 100000
namespace Go.Proofs.YtcpmjogeafhpnaaDoor
open Go.RowKit Go.Sep
attribute [local irreducible] Go.wpList Go.Code.wp

theorem failV_c {I : IM} {l : List UInt8} {a : Option Addr} {k c r e : Nat} (hl : BSl I l (.slice a k c)) (hn9 : l.length ≤ 1000000) {q : Nat} : FunM Tryd.prog 96 #[.pointer (some ⟨r, 0, none⟩), .int .i64 ((q : Nat) : Int)] I [(r, .cells #[.slice a k c, .int .i64 ((e : Nat) : Int)] 126)] (fun v J H' => ∃ b' : OB, H' = [b'] ∧ b'.1 = r ∧ ∃ (a' : Option Addr) (k' c' : Nat), v = .tuple #[] ∧ b' = (r, .cells #[.slice a' k' c', .int .i64 ((faE q e : Nat) : Int)] 126) ∧ BSl J l (.slice a' k' c')) := by
  have h := failG_c (r := r) (e := e) (q := q) hl hn9
  rw [List.drop_zero] at h; exact h
/-- a field that is read: its kind, label, value; how many bytes go, the error -/
structure Fd where
  k : Nat
  a : List UInt8
  v : List UInt8
  d : Nat
  e : Nat
noncomputable def fdG (l : List UInt8) (e z1 z2 : Nat) : Fd :=
  ⟨byV l e, teV (l.drop (byD l e)) (byE l e) ((z1 : Nat) : Int), teV ((l.drop (byD l e)).drop (teD (l.drop (byD l e)) (byE l e) ((z1 : Nat) : Int))) (teE (l.drop (byD l e)) (byE l e) ((z1 : Nat) : Int)) ((z2 : Nat) : Int),
   byD l e + teD (l.drop (byD l e)) (byE l e) ((z1 : Nat) : Int) + teD ((l.drop (byD l e)).drop (teD (l.drop (byD l e)) (byE l e) ((z1 : Nat) : Int))) (teE (l.drop (byD l e)) (byE l e) ((z1 : Nat) : Int)) ((z2 : Nat) : Int),
   teE ((l.drop (byD l e)).drop (teD (l.drop (byD l e)) (byE l e) ((z1 : Nat) : Int))) (teE (l.drop (byD l e)) (byE l e) ((z1 : Nat) : Int)) ((z2 : Nat) : Int)⟩
/-- how many there are -/
noncomputable def coG (l : List UInt8) (e most q : Nat) : Nat × Nat := if most < nuV l e then (0, faE q (nuE l e)) else (nuV l e, nuE l e)

theorem byV_lt (l : List UInt8) (e : Nat) : byV l e < 256 := by
  unfold byV; split
  · exact UInt8.toNat_lt _
  · decide

set_option maxHeartbeats 2000000 in
theorem getField_c {I : IM} {l : List UInt8} {a : Option Addr} {k c r e : Nat} (hl : BSl I l (.slice a k c)) (hn9 : l.length ≤ 1000000) {z1 z2 : Nat} (hz1 : z1 < 9223372036854775808) (hz2 : z2 < 9223372036854775808) : FunM Tryd.prog 95 #[.pointer (some ⟨r, 0, none⟩), .int .i64 ((z1 : Nat) : Int), .int .i64 ((z2 : Nat) : Int)] I [(r, .cells #[.slice a k c, .int .i64 ((e : Nat) : Int)] 126)] (fun v J H' => ∃ b' : OB, H' = [b'] ∧ b'.1 = r ∧ ∃ (K : Nat) (A V : List UInt8) (E D : Nat) (L : List UInt8) (a' : Option Addr) (k' c' : Nat), v = .agg #[.int .i64 ((K : Nat) : Int), .string ⟨A.toArray⟩, .string ⟨V.toArray⟩] ∧ b' = (r, .cells #[.slice a' k' c', .int .i64 ((E : Nat) : Int)] 126) ∧ BSl J L (.slice a' k' c') ∧ fdG l e z1 z2 = ⟨K, A, V, D, E⟩ ∧ K < 256 ∧ l.drop D = L) := by
 obtain ⟨rfl, -⟩ := hl.cap
 refine enterM_rule 23 [(0, pB r), (1, .int .i64 z1), (2, .int .i64 z2)] Tryd.func95 rfl (by kernel_rfl) ?_
 intro w s
 refine seqR ?_
 refine oAD [(r, .cells #[.slice a l.length c, .int .i64 e] 126)] [] 1 [] 1 (fun φ1 => [(6, pB (φ1 0))]) (fun φ1 => [(r, .cells #[.slice a l.length c, .int .i64 e] 126), (φ1 0, .cells #[.int .i64 0, .string ⟨#[]⟩, .string ⟨#[]⟩] 39)]) (fun φ1 => []) s (fun φ1 => by kernel_rfl) (by kernel_rfl) ?_
 intro φ1 w1 s
 refine seqR ?_
 refine oK _ [] 1 [] 0 (fun φ2 => [(10, pB r)]) (fun φ2 => []) s (fun φ2 => by kernel_rfl) ?_
 intro φ2 w2 s
 refine callB_rule (b := (r, .cells #[.slice a l.length c, .int .i64 e] 126)) (F := []) (Hr := [(φ1 0, .cells #[.int .i64 0, .string ⟨#[]⟩, .string ⟨#[]⟩] 39)]) (some 11) 0 s (by kernel_rfl) (by kernel_rfl) (byteV_c (r := r) (e := e) hl hn9) (by kernel_rfl) ?_
 rintro v3 I3 w3 b3 le3 - h3 s
 obtain ⟨V3, E3, D3, L3, a3, k3, c3, rfl, rfl, h3_0, h3_1, h3_2, h3_3, h3_4⟩ := h3
 refine oKD _ [] 1 [] 0 (fun φ4 => [(7, .int .u8 V3)]) (fun φ4 => []) s (fun φ4 => by kernel_rfl) (by kernel_rfl) ?_
 intro φ4 w4 s
 refine seqR ?_
 refine oK _ [] 2 [] 0 (fun φ5 => [(13, .int .i64 z1), (12, pB r)]) (fun φ5 => []) s (fun φ5 => by kernel_rfl) ?_
 intro φ5 w5 s
 refine callB_rule (b := (r, .cells #[.slice a3 k3 c3, .int .i64 E3] 126)) (F := []) (Hr := [(φ1 0, .cells #[.int .i64 0, .string ⟨#[]⟩, .string ⟨#[]⟩] 39)]) (some 14) 0 s (by kernel_rfl) (by kernel_rfl) (textV_c (r := r) (e := E3) h3_0 (drop_len9 h3_4 hn9) (z := z1) (by omega)) (by kernel_rfl) ?_
 rintro v6 I6 w6 b6 le6 - h6 s
 obtain ⟨S6, E6, D6, L6, a6, k6, c6, rfl, rfl, h6_0, h6_1, h6_2, h6_3, h6_4⟩ := h6
 refine oKD _ [] 1 [] 0 (fun φ7 => [(8, .string ⟨(S6).toArray⟩)]) (fun φ7 => []) s (fun φ7 => by kernel_rfl) (by kernel_rfl) ?_
 intro φ7 w7 s
 refine seqR ?_
 refine oK _ [] 2 [] 0 (fun φ8 => [(16, .int .i64 z2), (15, pB r)]) (fun φ8 => []) s (fun φ8 => by kernel_rfl) ?_
 intro φ8 w8 s
 refine callB_rule (b := (r, .cells #[.slice a6 k6 c6, .int .i64 E6] 126)) (F := []) (Hr := [(φ1 0, .cells #[.int .i64 0, .string ⟨#[]⟩, .string ⟨#[]⟩] 39)]) (some 17) 0 s (by kernel_rfl) (by kernel_rfl) (textV_c (r := r) (e := E6) h6_0 (drop_len9 h6_4 (drop_len9 h3_4 hn9)) (z := z2) (by omega)) (by kernel_rfl) ?_
 rintro v9 I9 w9 b9 le9 - h9 s
 obtain ⟨S9, E9, D9, L9, a9, k9, c9, rfl, rfl, h9_0, h9_1, h9_2, h9_3, h9_4⟩ := h9
 refine oKD _ [] 1 [] 0 (fun φ10 => [(9, .string ⟨(S9).toArray⟩)]) (fun φ10 => []) s (fun φ10 => by kernel_rfl) (by kernel_rfl) ?_
 intro φ10 w10 s
 refine seqR ?_
 refine oA _ [] 6 [.o 1, .o 1, .o 1] 0 (fun φ11 => [(22, .agg #[.int .i64 (IntKind.wrap .i64 ((V3 : Nat) : Int)), .string ⟨(S6).toArray⟩, .string ⟨(S9).toArray⟩]), (21, .string ⟨(S9).toArray⟩), (20, .string ⟨(S6).toArray⟩), (19, .int .i64 (IntKind.wrap .i64 ((V3 : Nat) : Int))), (18, .int .u8 V3)]) (fun φ11 => [(r, .cells #[.slice a9 k9 c9, .int .i64 E9] 126), (φ1 0, .cells #[.int .i64 (IntKind.wrap .i64 ((V3 : Nat) : Int)), .string ⟨(S6).toArray⟩, .string ⟨(S9).toArray⟩] 39)]) (fun φ11 => [φ1 0, φ1 0, φ1 0]) s (fun φ11 => by kernel_rfl) ?_
 intro φ11 w11 s
 rw [nat_wrapI (a := V3) (by have h9 := byV_lt l e; rw [h3_1] at h9; omega)] at s ⊢
 refine ops_done (by kernel_rfl) ?_
 refine wp_ret ?_
 refine ret_rule (C := []) _ [] (.agg #[.int .i64 V3, .string ⟨(S6).toArray⟩, .string ⟨(S9).toArray⟩]) [.o 1, .o 1, .o 1] [φ1 0, φ1 0, φ1 0] s trivial (by kernel_rfl) ?_
 replace s := s.drop (List.Sublist.append (List.Sublist.cons₂ _ (List.Sublist.cons _ List.Sublist.slnil)) (List.Sublist.refl []))
 have e9 : fdG l e z1 z2 = ⟨V3, S6, S9, D3 + D6 + D9, E9⟩ := by unfold fdG; simp only [h3_1, h3_2, h3_3, h3_4, h6_1, h6_2, h6_3, h6_4, h9_1, h9_2, h9_3, h9_4]
 have hK : V3 < 256 := by have h9 := byV_lt l e; rw [h3_1] at h9; exact h9
 exact ⟨_, _, _, rfl, s, ⟨_, rfl, rfl, V3, S6, S9, _, _, _, _, _, _, rfl, rfl, h9_0, e9, hK, (by simp only [← List.drop_drop, h3_4, h6_4, h9_4])⟩⟩

set_option maxHeartbeats 2000000 in
theorem count_c {I : IM} {l : List UInt8} {a : Option Addr} {k c r e : Nat} (hl : BSl I l (.slice a k c)) (hn9 : l.length ≤ 1000000) {most q : Nat} (hm : most < 9223372036854775808) : FunM Tryd.prog 94 #[.pointer (some ⟨r, 0, none⟩), .int .u64 ((most : Nat) : Int), .int .i64 ((q : Nat) : Int)] I [(r, .cells #[.slice a k c, .int .i64 ((e : Nat) : Int)] 126)] (fun v J H' => ∃ b' : OB, H' = [b'] ∧ b'.1 = r ∧ ∃ (N E D : Nat) (L : List UInt8) (a' : Option Addr) (k' c' : Nat), v = .int .i64 ((N : Nat) : Int) ∧ b' = (r, .cells #[.slice a' k' c', .int .i64 ((E : Nat) : Int)] 126) ∧ BSl J L (.slice a' k' c') ∧ coG l e most q = (N, E) ∧ nuD l e = D ∧ l.drop D = L) := by
 obtain ⟨rfl, -⟩ := hl.cap
 refine enterM_rule 18 [(0, pB r), (1, .int .u64 most), (2, .int .i64 q)] Tryd.func94 rfl (by kernel_rfl) ?_
 intro w s
 refine seqR ?_
 refine oKD [(r, .cells #[.slice a l.length c, .int .i64 e] 126)] [] 1 [] 0 (fun φ1 => [(6, .int .i64 0)]) (fun φ1 => []) s (fun φ1 => by kernel_rfl) (by kernel_rfl) ?_
 intro φ1 w1 s
 refine seqR ?_
 refine oK _ [] 1 [] 0 (fun φ2 => [(8, pB r)]) (fun φ2 => []) s (fun φ2 => by kernel_rfl) ?_
 intro φ2 w2 s
 refine callB_rule (b := (r, .cells #[.slice a l.length c, .int .i64 e] 126)) (F := []) (Hr := []) (some 9) 0 s (by kernel_rfl) (by kernel_rfl) (numV_c (r := r) (e := e) hl hn9) (by kernel_rfl) ?_
 rintro v3 I3 w3 b3 le3 - h3 s
 obtain ⟨V3, E3, D3, L3, a3, k3, c3, rfl, rfl, h3_0, h3_1, h3_2, h3_3, h3_4⟩ := h3
 refine oKD _ [] 1 [] 0 (fun φ4 => [(7, .int .u64 V3)]) (fun φ4 => []) s (fun φ4 => by kernel_rfl) (by kernel_rfl) ?_
 intro φ4 w4 s
 refine wp_seq ?_
 refine seqR ?_
 refine oK _ [] 3 [] 0 (fun φ5 => [(12, .bool (decide (((V3 : Nat) : Int) > ((most : Nat) : Int)))), (11, .int .u64 most), (10, .int .u64 V3)]) (fun φ5 => []) s (fun φ5 => by kernel_rfl) ?_
 intro φ5 w5 s
 rw [nat_gtr (a := V3) (b := most)]
 refine ops_done (by kernel_rfl) ?_
 rcases Bool.eq_false_or_eq_true (decide (most < V3)) with hc6 | hc6
 ·
  rw [hc6]
  refine cond_true_rule (b := true) (by kernel_rfl) rfl ?_
  refine seqR ?_
  refine oK _ [] 2 [] 0 (fun φ7 => [(14, .int .i64 q), (13, pB r)]) (fun φ7 => []) s (fun φ7 => by kernel_rfl) ?_
  intro φ7 w7 s
  refine callB_rule (b := (r, .cells #[.slice a3 k3 c3, .int .i64 E3] 126)) (F := []) (Hr := []) (some 15) 0 s (by kernel_rfl) (by kernel_rfl) (failV_c (r := r) (e := E3) (q := q) h3_0 (drop_len9 h3_4 hn9)) (by kernel_rfl) ?_
  rintro v8 I8 w8 b8 le8 - h8 s
  replace h3_0 := BSl.mono le8 h3_0
  obtain ⟨a8, k8, c8, rfl, rfl, h8_0⟩ := h8
  refine ops_done (by kernel_rfl) ?_
  refine seqR ?_
  refine oKD _ [] 1 [] 0 (fun φ9 => [(6, .int .i64 0)]) (fun φ9 => []) s (fun φ9 => by kernel_rfl) (by kernel_rfl) ?_
  intro φ9 w9 s
  refine wp_ret ?_
  refine ret_rule (C := []) _ [] (.int .i64 0) [] [] s trivial (by kernel_rfl) ?_
  replace s := s.drop (List.Sublist.append (List.Sublist.cons₂ _ List.Sublist.slnil) (List.Sublist.refl []))
  have e9 : coG l e most q = (0, faE q E3) := by unfold coG; simp [h3_1, h3_2, h3_3, h3_4, dT9 hc6]
  exact ⟨_, _, _, rfl, s, ⟨_, rfl, rfl, _, _, _, _, _, _, _, rfl, rfl, h8_0, e9, h3_3, (by simp only [← List.drop_drop, h3_4])⟩⟩
 ·
  rw [hc6]
  refine cond_false_rule (b := false) (by kernel_rfl) rfl ?_
  refine wp_skip ?_
  refine seqR ?_
  refine oK _ [] 3 [] 0 (fun φ10 => [(6, .int .i64 (IntKind.wrap .i64 ((V3 : Nat) : Int))), (17, .int .i64 (IntKind.wrap .i64 ((V3 : Nat) : Int))), (16, .int .u64 V3)]) (fun φ10 => []) s (fun φ10 => by kernel_rfl) ?_
  intro φ10 w10 s
  rw [nat_wrapI (a := V3) (by have hq0 := dF9 hc6; omega)]
  refine ops_done (by kernel_rfl) ?_
  refine wp_ret ?_
  refine ret_rule (C := []) _ [] (.int .i64 V3) [] [] s trivial (by kernel_rfl) ?_
  replace s := s.drop (List.Sublist.append (List.Sublist.cons₂ _ List.Sublist.slnil) (List.Sublist.refl []))
  have e9 : coG l e most q = (V3, E3) := by unfold coG; simp [h3_1, h3_2, h3_3, h3_4, dF9 hc6]
  exact ⟨_, _, _, rfl, s, ⟨_, rfl, rfl, _, _, _, _, _, _, _, rfl, rfl, h3_0, e9, h3_3, (by simp only [← List.drop_drop, h3_4])⟩⟩

end Go.Proofs.YtcpmjogeafhpnaaDoor
/- Numbers of seven bits: what is read, written again, is just these bytes. -/
set_option linter.all false
set_option maxRecDepth 100000
namespace Go.Proofs.YtcpmjogeafhpnaaDoor
open Go.RowKit Go.Sep
theorem lead_from (l : List UInt8) : ∀ (n i : Nat), n = 9 - i → i ≤ 9 → i ≤ l.length → (∀ j, j < i → 128 ≤ (l.getD j 0).toNat) → ∃ k, Lead l k
  | 0, i, hn, h9, hl, hb => ⟨i, h9, hl, hb, .inl (by omega)⟩
  | n + 1, i, hn, h9, hl, hb => by
    by_cases h1 : i = l.length
    · exact ⟨i, h9, hl, hb, .inr (.inl h1)⟩
    · by_cases h2 : 128 ≤ (l.getD i 0).toNat
      · exact lead_from l n (i + 1) (by omega) (by omega) (by omega) (fun j hj => by
          by_cases h3 : j = i
          · subst h3; exact h2
          · exact hb j (by omega))
      · exact ⟨i, h9, hl, hb, .inr (.inr (by omega))⟩
theorem lead_ex (l : List UInt8) : ∃ k, Lead l k := lead_from l 9 0 rfl (by omega) (Nat.zero_le _) (fun j h => by omega)
/-- a number's bytes: all but the last one go on, the last one isn't 0 unless it is alone -/
def okB : List UInt8 → Prop
  | [] => False
  | [b] => b.toNat < 128
  | b :: c :: r => 128 ≤ b.toNat ∧ okB (c :: r) ∧ ((c :: r).getLast?.getD 0).toNat ≠ 0
theorem val7_pos : ∀ (l : List UInt8), okB l → (l.getLast?.getD 0).toNat ≠ 0 → val7 l ≠ 0
  | [], h, _ => h.elim
  | [b], h, h0 => by
    simp only [okB] at h
    simp only [List.getLast?_singleton, Option.getD_some] at h0
    simp only [val7]; omega
  | b :: c :: r, h, h0 => by
    have := val7_pos (c :: r) h.2.1 h.2.2
    simp only [val7] at this ⊢; omega
theorem u8_eq {b : UInt8} {n : Nat} (h : b.toNat = n) (hn : n < 256) : UInt8.ofNat n = b := by
  subst h; simp
theorem enc_val : ∀ (l : List UInt8) (f : Nat), okB l → l.length ≤ f + 1 → encF f (val7 l) = l
  | [], _, h, _ => h.elim
  | [b], f, h, _ => by
    simp only [okB] at h
    have e : val7 [b] = b.toNat := by simp only [val7]; omega
    rw [e, encF_stop h, u8_eq (b := b) (n := b.toNat % 256) (by omega) (by omega)]
  | b :: c :: r, 0, h, hl => by simp only [List.length_cons] at hl; omega
  | b :: c :: r, f + 1, h, hl => by
    have hp := val7_pos (c :: r) h.2.1 h.2.2
    have ih := enc_val (c :: r) f h.2.1 (by simp only [List.length_cons] at hl ⊢; omega)
    have hb := b.toNat_lt
    have h1 := h.1
    have e : val7 (b :: c :: r) = b.toNat % 128 + 128 * val7 (c :: r) := rfl
    rw [e, encF_go (by omega), show (b.toNat % 128 + 128 * val7 (c :: r)) / 128 = val7 (c :: r) by omega, ih, u8_eq (b := b) (by omega) (by omega)]
theorem okB_take : ∀ (k : Nat) (l : List UInt8), k < l.length → (∀ j, j < k → 128 ≤ (l.getD j 0).toNat) → (l.getD k 0).toNat < 128 → (0 < k → (l.getD k 0).toNat ≠ 0) → okB (l.take (k + 1)) ∧ (l.take (k + 1)).getLast?.getD 0 = l.getD k 0
  | _, [], h, _, _, _ => by simp at h
  | 0, b :: l, h, hb, h1, h2 => by simpa [okB] using h1
  | k + 1, b :: l, h, hb, h1, h2 => by
    have hk : k < l.length := by simpa using h
    have ih := okB_take k l hk (fun j hj => by simpa using hb (j + 1) (by omega)) (by simpa using h1) (fun _ => by simpa using h2 (by omega))
    have hb0 := hb 0 (by omega)
    have hne : l.take (k + 1) ≠ [] := by
      intro q
      have := congrArg List.length q
      rw [List.length_take] at this
      simp only [List.length_nil] at this; omega
    rw [List.take_succ_cons]
    cases hc : l.take (k + 1) with
    | nil => exact absurd hc hne
    | cons c r =>
      rw [hc] at ih
      refine ⟨⟨by simpa using hb0, ih.1, ?_⟩, ?_⟩
      · rw [ih.2]; have := h2 (by omega); simpa using this
      · rw [List.getLast?_cons_cons, ih.2]; simp
theorem num_enc {l : List UInt8} (h : numK l ≠ 0) : encF 9 (numN l) = l.take (numK l) := by
  obtain ⟨k, hk⟩ := lead_ex l
  by_cases hb : badN l k
  · exact absurd (num_bad hk hb).2 h
  · obtain ⟨h1, h2⟩ := num_good hk hb
    rw [h1, h2]
    unfold badN at hb
    have hlt : k < l.length := by omega
    have hend : (l.getD k 0).toNat < 128 := by
      rcases hk.stop with q | q | q
      · have := hb; omega
      · omega
      · exact q
    have ho := okB_take k l hlt hk.big hend (fun h0 q => hb (.inr (.inr (.inl ⟨h0, q⟩))))
    exact enc_val _ 9 ho.1 (by rw [List.length_take]; have := hk.le; omega)
end Go.Proofs.YtcpmjogeafhpnaaDoor
/- Slices of bytes that are never written: read, cut; rows of bytes; bits of numbers. -/
set_option linter.all false
set_option maxRecDepth 100000
namespace Go.Proofs.YtcpmjogeafhpnaaDoor.Tx
open Go.RowKit Go.Sep

def bV (x : UInt8) : Value := .int .u8 ((x.toNat : Nat) : Int)
def BSl (I : IM) (l : List UInt8) (v : Value) : Prop := ∃ a cap, v = .slice a l.length cap ∧ l.length ≤ cap ∧ ∀ j x, l[j]? = some x → ∃ b o cs T fr, a = some ⟨b, o, none⟩ ∧ I b = some (.cells cs T fr) ∧ cs[o + j]? = some (.int .u8 ((x.toNat : Nat) : Int))
theorem BSl.mono {I J : IM} (le : I.Le J) {l : List UInt8} {v : Value} (h : BSl I l v) : BSl J l v := by
  obtain ⟨a, cap, hv, hc, hr⟩ := h
  refine ⟨a, cap, hv, hc, fun j x hj => ?_⟩
  obtain ⟨b, o, cs, T, fr, h1, h2, h3⟩ := hr j x hj
  exact ⟨b, o, cs, T, fr, h1, le _ _ h2, h3⟩
theorem BSl.cap {I : IM} {l : List UInt8} {a : Option Addr} {n c : Nat} (h : BSl I l (.slice a n c)) : n = l.length ∧ l.length ≤ c := by
  obtain ⟨a', c', hv, hc, _⟩ := h
  cases hv; exact ⟨rfl, hc⟩
theorem BSl.open {I : IM} {l : List UInt8} {v : Value} (h : BSl I l v) : ∃ a c, v = .slice a l.length c ∧ l.length ≤ c ∧ BSl I l (.slice a l.length c) := by
  obtain ⟨a, c, hv, hc, _⟩ := id h
  subst hv
  exact ⟨a, c, rfl, hc, h⟩
theorem addr_addO (b o k : Nat) : (⟨b, o, none⟩ : Addr).add k = ⟨b, o + k, none⟩ := by unfold Addr.add; split <;> simp_all
theorem getD_some {l : List UInt8} {i : Nat} (h : i < l.length) : l[i]? = some (l.getD i 0) := by simp [h]
/-- bits -/
def bxor (k a b : Nat) : Nat := (BitVec.ofNat k a ^^^ BitVec.ofNat k b).toNat
def band (k a b : Nat) : Nat := (BitVec.ofNat k a &&& BitVec.ofNat k b).toNat
def bor (k a b : Nat) : Nat := (BitVec.ofNat k a ||| BitVec.ofNat k b).toNat
def bandn (k a b : Nat) : Nat := (BitVec.ofNat k a &&& ~~~ BitVec.ofNat k b).toNat
theorem wrapN8 (n : Nat) (h : n < 256) : IntKind.wrap .u8 (n : Int) = (n : Int) := by simp only [IntKind.wrap, IntKind.signed, IntKind.bits]; simp; omega
theorem run_bit8 {w : World} {t : TypeId} {a b : Nat} :
    (binOp .xor t (.int .u8 ((a : Nat) : Int)) (.int .u8 ((b : Nat) : Int))).run Tryd.prog w = .ok (.int .u8 ((bxor 8 a b : Nat) : Int)) w ∧
    (binOp .and t (.int .u8 ((a : Nat) : Int)) (.int .u8 ((b : Nat) : Int))).run Tryd.prog w = .ok (.int .u8 ((band 8 a b : Nat) : Int)) w ∧
    (binOp .or t (.int .u8 ((a : Nat) : Int)) (.int .u8 ((b : Nat) : Int))).run Tryd.prog w = .ok (.int .u8 ((bor 8 a b : Nat) : Int)) w ∧
    (binOp .andNot t (.int .u8 ((a : Nat) : Int)) (.int .u8 ((b : Nat) : Int))).run Tryd.prog w = .ok (.int .u8 ((bandn 8 a b : Nat) : Int)) w := by
  refine ⟨?_, ?_, ?_, ?_⟩ <;> simp only [binOp, Op.intBits, ne_eq, not_true_eq_false, if_false, IntKind.bits, BitVec.ofInt_natCast, Sem.run_pure] <;> rw [wrapN8 _ (BitVec.isLt _)] <;> rfl
theorem run_shrU {w : World} {t : TypeId} {a n : Nat} {k yk : IntKind} (ha : a < 2 ^ k.bits) : (binOp .shr t (.int k ((a : Nat) : Int)) (.int yk ((n : Nat) : Int))).run Tryd.prog w = .ok (.int k ((a / 2 ^ n : Nat) : Int)) w := by
  rw [run_shr]
  congr 2
  have : ((a : Nat) : Int).fdiv (2 ^ min n k.bits) = ((a / 2 ^ min n k.bits : Nat) : Int) := by
    rw [Int.fdiv_eq_ediv_of_nonneg _ (Int.pow_nonneg (by omega))]
    simp
  rw [this]
  by_cases h : n ≤ k.bits
  · rw [Nat.min_eq_left h]
  · rw [Nat.min_eq_right (by omega), Nat.div_eq_of_lt ha, Nat.div_eq_of_lt (Nat.lt_of_lt_of_le ha (Nat.pow_le_pow_right (by decide) (by omega)))]
end Go.Proofs.YtcpmjogeafhpnaaDoor.Tx

/- Numbers of 8 and 32 bits; slices of literals; a marked block. -/
set_option linter.all false
set_option maxRecDepth 100000
namespace Go.Proofs.YtcpmjogeafhpnaaDoor.Tx
open Go.RowKit Go.Sep

theorem bsl_lit {I : IM} {b n : Nat} {cs : Array Value} {T : TypeId} {fr : Nat × Nat} {l : List UInt8} (h : I b = some (.cells cs T fr)) (hc : cs.toList = l.map bV) (hn : n = l.length) : BSl I l (.slice (some ⟨b, 0, none⟩) n n) := by
  subst hn
  refine ⟨_, _, rfl, Nat.le_refl _, fun j x hj => ⟨b, 0, cs, T, fr, rfl, h, ?_⟩⟩
  have : cs.toList[j]? = some (bV x) := by rw [hc, List.getElem?_map, hj]; rfl
  rw [Nat.zero_add]
  have h2 : cs[j]? = some (bV x) := by simpa using this
  exact h2
theorem under5 : Tryd.prog.underlying 5 = some (.int .u8) := by kernel_rfl
def rounds_step {P : Program} {c : Code} {Q : Exit → Act → World → Prop} {n : Nat} {a : Act} {w : World} (h : c.wp P (Exit.then (Code.rounds P c Q n) Q) a w) : Code.rounds P c Q (n + 1) a w := by
  rw [Go.rounds_succ]; exact h
theorem leMono {A I J : IM} (le : I.Le J) (h : A.Le I) : A.Le J := h.trans le
theorem drop_cons {s : List UInt8} {k : Nat} (h : k < s.length) : s.drop k = s.getD k 0 :: s.drop (k + 1) := by
  rw [List.drop_eq_getElem_cons h]; simp [h]
end Go.Proofs.YtcpmjogeafhpnaaDoor.Tx

/- Rows of bytes that grow. -/
set_option linter.all false
set_option maxRecDepth 100000
namespace Go.Proofs.YtcpmjogeafhpnaaDoor.Tx
open Go.RowKit Go.Sep
theorem cell_byte {a : Nat} (h : a < 256) : Value.int .u8 ((a : Nat) : Int) = bV (UInt8.ofNat a) := by
  unfold bV; rw [UInt8.toNat_ofNat_of_lt' h]
theorem cells_bytes1 {a : Nat} (h : a < 256) : [Value.int .u8 ((a : Nat) : Int)] = [bV (UInt8.ofNat a)] := by rw [cell_byte h]
end Go.Proofs.YtcpmjogeafhpnaaDoor.Tx

/- Strings: what operations on them answer. -/
set_option linter.all false
set_option maxRecDepth 100000
namespace Go.Proofs.YtcpmjogeafhpnaaDoor.Tx
open Go.RowKit Go.Sep

theorem under9 : Tryd.prog.underlying 9 = some .string := by kernel_rfl
theorem strL_beq (x y : List UInt8) : ((⟨x.toArray⟩ : ByteArray).toList == (⟨y.toArray⟩ : ByteArray).toList) = decide (x = y) := by
  have hx : ∀ l : List UInt8, (⟨l.toArray⟩ : ByteArray).toList = l := fun l => by rw [ByteArray.toList_eq]
  rw [hx, hx]
  exact Bool.beq_eq_decide_eq x y
theorem run_eqS {w : World} {t : TypeId} {x y : List UInt8} : (binOp .eql t (.string ⟨x.toArray⟩) (.string ⟨y.toArray⟩)).run Tryd.prog w = .ok (.bool (decide (x = y))) w := by
  show (Op.stringOp .eql _ _).run Tryd.prog w = _
  unfold Op.stringOp
  simp only [strL_beq]; rfl
theorem take_string {s : List UInt8} {hi : Nat} : (⟨s.toArray⟩ : ByteArray).extract 0 hi = ⟨(s.take hi).toArray⟩ := by
  apply ByteArray.ext
  rw [ByteArray.data_extract]
  apply Array.ext'
  simp only [Array.toList_extract, List.extract_eq_take_drop]
  simp
theorem mid_string {s : List UInt8} {lo hi : Nat} : (⟨s.toArray⟩ : ByteArray).extract lo hi = ⟨((s.drop lo).take (hi - lo)).toArray⟩ := by
  apply ByteArray.ext
  rw [ByteArray.data_extract]
  apply Array.ext'
  simp only [Array.toList_extract, List.extract_eq_take_drop]
theorem run_takeS {w : World} {s : List UInt8} {hi : Nat} (h : hi ≤ s.length) :
    (Instr.sliceAt 9 (.string ⟨s.toArray⟩) none (some (.int .i64 ((hi : Nat) : Int))) none).run Tryd.prog w = .ok (.string ⟨(s.take hi).toArray⟩) w := by
  rw [run_sliceStrTo under9 (by exact h), take_string]
theorem run_idxK {w : World} {s : List UInt8} {i : Nat} {kd : IntKind} (h : i < s.length) :
    (Instr.index 9 (.string ⟨s.toArray⟩) (.int kd ((i : Nat) : Int))).run Tryd.prog w = .ok (.int .u8 (((s.getD i 0).toNat : Nat) : Int)) w := by
  have hb : (⟨s.toArray⟩ : ByteArray)[i]? = some (s.getD i 0) := by
    have hl : i < (⟨s.toArray⟩ : ByteArray).size := h
    rw [getElem?_pos _ i hl]
    show some (s.toArray[i]) = _
    simp [h]
  simp [Instr.index, asIntOf, run_underlying under9, hb]
/-- a range over a string begins -/
theorem range_new {w0 : World} {I0 : IM} {m : List Nat} {I : IM} {w : World} {H : List OB} (s : St w0 I0 m I w (H ++ [])) (x : ByteArray) :
    ∃ k w', (Instr.range 9 (.string x)).run Tryd.prog w = .ok (.pointer (some ⟨k, 0, none⟩)) w' ∧ St w0 I0 m I w' ((H ++ [(k, .stringIter x 0)]) ++ []) := by
  rw [List.append_nil] at s
  refine ⟨w.heap.size, { w with heap := w.heap.push (.stringIter x 0) }, ?_, ?_⟩
  · simp [Instr.range, run_underlying under9, newObj, Sem.run]
  · rw [List.append_nil]; exact s.push _
/-- the sign at a place, and how many bytes it has -/
def dR (l : List UInt8) (p : Nat) : Nat := (Lib.decodeL (l.drop p)).1
def dW (l : List UInt8) (p : Nat) : Nat := (Lib.decodeL (l.drop p)).2
theorem dec_at (l : List UInt8) (p : Nat) : Utf8.decode ⟨l.toArray⟩ p = Lib.decodeL (l.drop p) := (Lib.decodeL_drop ⟨l.toArray⟩ p).symm
theorem next_own {w0 : World} {I0 : IM} {m : List Nat} {I : IM} {w : World} {k pos : Nat} {l : List UInt8} {ty : TypeId} (s : St w0 I0 m I w ([(k, .stringIter ⟨l.toArray⟩ pos)] ++ [])) (h : pos < l.length) :
    ∃ w', (Instr.next (.pointer (some ⟨k, 0, none⟩)) true ty).run Tryd.prog w = .ok (.tuple #[.bool true, .int .i64 ((pos : Nat) : Int), .int .i32 ((dR l pos : Nat) : Int)]) w' ∧ St w0 I0 m I w' ([(k, .stringIter ⟨l.toArray⟩ (pos + dW l pos))] ++ []) := by
  rw [List.append_nil] at s
  have hk : w.heap[k]? = some (.stringIter ⟨l.toArray⟩ pos) := s.own (k, _) (by simp)
  have hlt : k < w.heap.size := heap_lt hk
  have hp : pos < (⟨l.toArray⟩ : ByteArray).size := h
  refine ⟨{ w with heap := w.heap.set k (.stringIter ⟨l.toArray⟩ (pos + dW l pos)) hlt }, ?_, ?_⟩
  · simp only [Instr.next, getObj, setObj, Sem.run_bind, Sem.run, hk, Result.andThen, hp, if_true, dec_at]
    simp [goInt, hlt, dR, dW, Array.setIfInBounds]
  · rw [List.append_nil]
    have := St.set (i := 0) (k := k) (o' := .stringIter ⟨l.toArray⟩ (pos + dW l pos)) (w' := { w with heap := w.heap.set k (.stringIter ⟨l.toArray⟩ (pos + dW l pos)) hlt }) s rfl rfl rfl rfl (by simp) (by simp) (fun q hq => by
      simp only [Array.getElem?_set]; rw [if_neg (fun h => hq h.symm)])
    exact this
theorem next_end {w0 : World} {I0 : IM} {m : List Nat} {I : IM} {w : World} {k pos : Nat} {l : List UInt8} {ty : TypeId} (s : St w0 I0 m I w ([(k, .stringIter ⟨l.toArray⟩ pos)] ++ [])) (h : ¬ pos < l.length) :
    (Instr.next (.pointer (some ⟨k, 0, none⟩)) true ty).run Tryd.prog w = .ok (.tuple #[.bool false]) w := by
  have hk : w.heap[k]? = some (.stringIter ⟨l.toArray⟩ pos) := s.own (k, _) (by simp)
  have hp : ¬ pos < (⟨l.toArray⟩ : ByteArray).size := h
  simp [Instr.next, getObj, Sem.run, hk, hp]
end Go.Proofs.YtcpmjogeafhpnaaDoor.Tx

/- The signs of a text, one by one. -/
set_option linter.all false
set_option maxRecDepth 100000
namespace Go.Proofs.YtcpmjogeafhpnaaDoor.Tx
open Go.RowKit Go.Sep Go.Lib

def stepsF : Nat → List UInt8 → List (Nat × Nat)
  | 0, _ => []
  | n + 1, l => if l = [] then [] else decodeL l :: stepsF n (l.drop (decodeL l).2)
def steps (l : List UInt8) : List (Nat × Nat) := stepsF l.length l
theorem stepsF_nil : ∀ n, stepsF n [] = []
  | 0 => rfl
  | n + 1 => by simp [stepsF]
theorem stepsF_more : ∀ (n k : Nat) (l : List UInt8), l.length ≤ n → l.length ≤ k → stepsF n l = stepsF k l
  | 0, k, l, h, _ => by
    have : l = [] := List.length_eq_zero_iff.1 (by omega)
    subst this; rw [stepsF_nil, stepsF_nil]
  | n + 1, 0, l, _, h => by
    have : l = [] := List.length_eq_zero_iff.1 (by omega)
    subst this; rw [stepsF_nil, stepsF_nil]
  | n + 1, k + 1, l, h, h2 => by
    unfold stepsF
    split
    · rfl
    · rename_i hl
      have hw := decodeL_width l
      rw [stepsF_more n k (l.drop (decodeL l).2) (by rw [List.length_drop]; omega) (by rw [List.length_drop]; omega)]
theorem steps_cons {l : List UInt8} (h : l ≠ []) : steps l = decodeL l :: steps (l.drop (decodeL l).2) := by
  have hl : 0 < l.length := List.length_pos_iff.2 h
  have hw := decodeL_width l
  unfold steps
  obtain ⟨n, hn⟩ : ∃ n, l.length = n + 1 := ⟨l.length - 1, by omega⟩
  rw [hn]
  show (if l = [] then [] else decodeL l :: stepsF n (l.drop (decodeL l).2)) = _
  rw [if_neg h, stepsF_more n _ (l.drop (decodeL l).2) (by rw [List.length_drop]; omega) (Nat.le_refl _)]
theorem drop_ne {l : List UInt8} {p : Nat} (h : p < l.length) : l.drop p ≠ [] := fun e => by
  have := congrArg List.length e
  rw [List.length_drop, List.length_nil] at this; omega
theorem steps_at {l : List UInt8} {p : Nat} (h : p < l.length) : steps (l.drop p) = (dR l p, dW l p) :: steps (l.drop (p + dW l p)) := by
  rw [steps_cons (drop_ne h), List.drop_drop]; rfl
theorem steps_end {l : List UInt8} {p : Nat} (h : ¬ p < l.length) : steps (l.drop p) = [] := by
  rw [List.drop_of_length_le (by omega)]; rfl
theorem dW_pos (l : List UInt8) (p : Nat) : 1 ≤ dW l p := decodeL_width _
theorem dW_le {l : List UInt8} {p : Nat} (h : p < l.length) : p + dW l p ≤ l.length := by
  have := decodeL_le (l.drop p) (drop_ne h)
  rw [List.length_drop] at this
  unfold dW; omega
/-- no sign -/
def badD (d : Nat × Nat) : Bool := decide (d.1 = 65533 ∧ d.2 = 1)
def plainD (d : Nat × Nat) : Bool := !(decide (d.1 < 32)) && !(decide (d.1 = 127))
theorem valid_steps : ∀ (n : Nat) (l : List UInt8), l.length ≤ n → validGoD n l = (steps l).all (fun d => !badD d)
  | 0, l, h => by
    have : l = [] := List.length_eq_zero_iff.1 (by omega)
    subst this; rfl
  | n + 1, l, h => by
    unfold validGoD
    split
    · rename_i e; subst e; rfl
    · rename_i e
      have hw := decodeL_width l
      rw [steps_cons e, List.all_cons]
      split
      · rename_i hb
        rw [show badD (decodeL l) = true from decide_eq_true hb]; rfl
      · rename_i hb
        rw [show badD (decodeL l) = false from decide_eq_false hb, valid_steps n _ (by rw [List.length_drop]; omega)]; rfl
theorem validD_steps (l : List UInt8) : validD l = (steps l).all (fun d => !badD d) := valid_steps _ l (Nat.le_refl _)
/-- what Check answers -/
def okS (l : List UInt8) : Bool := (steps l).all (fun d => !badD d && plainD d)
def ckE (l : List UInt8) (mi : Int) : Nat := bif decide ((l.length : Int) > mi) then 9 else bif okS l then 0 else 7
theorem all_and {α : Type} (f g : α → Bool) : ∀ l : List α, l.all (fun d => f d && g d) = (l.all f && l.all g)
  | [] => rfl
  | a :: l => by
    simp only [List.all_cons, all_and f g l]
    cases f a <;> cases g a <;> cases l.all f <;> simp
theorem okS_eq (l : List UInt8) : okS l = (validD l && (steps l).all plainD) := by
  unfold okS; rw [all_and, validD_steps]
def nR (l : List UInt8) : Nat := (steps l).length
theorem nR_leF : ∀ (n : Nat) (l : List UInt8), l.length ≤ n → (steps l).length ≤ l.length
  | 0, l, h => by
    have : l = [] := List.length_eq_zero_iff.1 (by omega)
    subst this; exact Nat.le_refl _
  | n + 1, l, h => by
    by_cases e : l = []
    · subst e; exact Nat.le_refl _
    · have hw := decodeL_width l
      have hl : 0 < l.length := List.length_pos_iff.2 e
      rw [steps_cons e, List.length_cons]
      have := nR_leF n (l.drop (decodeL l).2) (by rw [List.length_drop]; omega)
      rw [List.length_drop] at this
      omega
theorem nR_le (l : List UInt8) : nR l ≤ l.length := nR_leF _ l (Nat.le_refl _)
/-- the document's sign -/
def dB (l : List UInt8) (p : Nat) : Bool := badD (dR l p, dW l p)
def sgX (l : List UInt8) (p : Nat) : Nat := bif dB l p then 0 else dR l p
theorem dN (l : List UInt8) (p : Nat) : (dR l p, dW l p) = decodeN (l.length - p) (l.getD p 0).toNat (l.getD (p + 1) 0).toNat (l.getD (p + 2) 0).toNat (l.getD (p + 3) 0).toNat := by
  show decodeL (l.drop p) = _
  rw [decodeL_N, List.length_drop, getD_dropU, getD_dropU, getD_dropU, getD_dropU, Nat.add_zero]
def sgV (x w : Nat) (b : Bool) : Value := .tuple #[.int .i64 ((x : Nat) : Int), .int .i64 ((w : Nat) : Int), .bool b]
theorem sgn_good {l : List UInt8} {p x w : Nat} (h : decodeN (l.length - p) (l.getD p 0).toNat (l.getD (p + 1) 0).toNat (l.getD (p + 2) 0).toNat (l.getD (p + 3) 0).toNat = (x, w)) (hw : ¬ (x = 65533 ∧ w = 1)) : sgV x w true = sgV (sgX l p) (dW l p) (!(dB l p)) := by
  rw [← dN] at h
  obtain ⟨h1, h2⟩ := Prod.mk.inj h
  have hb : dB l p = false := by unfold dB badD; rw [h1, h2]; exact decide_eq_false hw
  unfold sgX; rw [hb, h2, ← h1]; rfl
theorem sgn_bad {l : List UInt8} {p : Nat} (h : decodeN (l.length - p) (l.getD p 0).toNat (l.getD (p + 1) 0).toNat (l.getD (p + 2) 0).toNat (l.getD (p + 3) 0).toNat = (65533, 1)) : sgV 0 1 false = sgV (sgX l p) (dW l p) (!(dB l p)) := by
  rw [← dN] at h
  obtain ⟨h1, h2⟩ := Prod.mk.inj h
  have hb : dB l p = true := by unfold dB badD; rw [h1, h2]; rfl
  unfold sgX; rw [hb, h2]; rfl
theorem byte_lt (x : UInt8) : x.toNat < 256 := x.toNat_lt
end Go.Proofs.YtcpmjogeafhpnaaDoor.Tx

