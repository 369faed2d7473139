/- Ids are written. -/
import Derived.Test.YtgmigcmhnmmdkaaCoK1
import Derived.Test.YtgmigcmhnmmdkaaCoP14
import Derived.Test.YtgmigcmhnmmdkaaCoBwW36
import Derived.Test.YtgmigcmhnmmdkaaCoBwW11
import Derived.Test.YtgmigcmhnmmdkaaCoBwW13
import Derived.Test.YtgmigcmhnmmdkaaCoBwC5
import Derived.Test.YtgmigcmhnmmdkaaCoBwB1
import Derived.Test.YtgmigcmhnmmdkaaCoBwC13
import Derived.Test.YtgmigcmhnmmdkaaCoS13
import Derived.Test.YtgmigcmhnmmdkaaCoBwB5
import Derived.Test.YtgmigcmhnmmdkaaCoBwC11
import Derived.Test.YtgmigcmhnmmdkaaCoBwC4
import Derived.Test.YtgmigcmhnmmdkaaCoBwC12
import Derived.Test.YtgmigcmhnmmdkaaCoBwB10
import Derived.Test.YtgmigcmhnmmdkaaCoS11
import Derived.OrdersHeld
import Derived.Scope
set_option linter.all false
set_option maxRecDepth 100000
namespace Go.Proofs.Ytgmigcmhnmmdkaa
open Go.RowKit Go.Sep
attribute [local irreducible] Go.wpList Go.Code.wp

set_option maxHeartbeats 400000 in
theorem idKind_c {I : IM} {t : Ev.T} {bi : Bool} {pi : Option Addr} (ht : Ev.TRep I t bi pi) : Fun Try.prog 53 #[.agg #[.bool bi, .pointer pi]] I (fun v J => v = .int .u64 ((idK t : Nat) : Int)) := by
  refine enter_rule 18 [(0, .agg #[.bool bi, .pointer pi])] Try.func53 rfl (by kernel_rfl) ?_
  intro w s
  refine wp_seq ?_
  refine region_rule ?_
  refine ops_rule (C := []) [] [] 2 [] 1 (fun φ1 => [(2, .int .u64 0), (1, .pointer (some ⟨(φ1 0), 0, none⟩))]) (fun φ1 => [((φ1 0), .cells #[.bool bi, .pointer pi] 26)]) (fun φ1 => []) s trivial (fun φ1 => by kernel_rfl) ?_
  intro φ1 w1 s
  refine ops_done (by kernel_rfl) ?_
  refine wp_seq ?_
  refine wp_block ?_
  refine wp_seq ?_
  refine region_rule ?_
  refine ops_rule (C := []) [((φ1 0), .cells #[.bool bi, .pointer pi] 26)] [] 1 [.o 0, .o 0] 0 (fun φ2 => [(4, .agg #[.bool bi, .pointer pi])]) (fun φ2 => [((φ1 0), .cells #[.bool bi, .pointer pi] 26)]) (fun φ2 => [(φ1 0), (φ1 0)]) s trivial (fun φ2 => by kernel_rfl) ?_
  intro φ2 w2 s
  refine call_rule (some 5) s (Ev.isZero_c ht) (by kernel_rfl) ?_
  intro v3 I3 w3 le3 h3 s
  replace ht := Ev.TRep.mono le3 ht
  obtain rfl := h3
  refine ops_rule (C := []) [((φ1 0), .cells #[.bool bi, .pointer pi] 26)] [] 1 [] 0 (fun φ4 => [(6, .bool t.isZero)]) (fun φ4 => [((φ1 0), .cells #[.bool bi, .pointer pi] 26)]) (fun φ4 => []) s trivial (fun φ4 => by kernel_rfl) ?_
  intro φ4 w4 s
  rcases Bool.eq_false_or_eq_true (t.isZero) with hc5 | hc5
  ·
    rw [hc5]
    refine ops_rule (C := []) [((φ1 0), .cells #[.bool bi, .pointer pi] 26)] [] 4 [] 0 (fun φ6 => [(3, .bool true), (9, .bool true), (8, undef), (7, undef)]) (fun φ6 => [((φ1 0), .cells #[.bool bi, .pointer pi] 26)]) (fun φ6 => []) s trivial (fun φ6 => by kernel_rfl) ?_
    intro φ6 w6 s
    refine ops_done (by kernel_rfl) ?_
    refine cond_true_rule (b := true) (by kernel_rfl) rfl ?_
    refine wp_seq ?_
    refine region_rule ?_
    refine ops_rule (C := []) [((φ1 0), .cells #[.bool bi, .pointer pi] 26)] [] 1 [] 0 (fun φ7 => [(2, .int .u64 0)]) (fun φ7 => [((φ1 0), .cells #[.bool bi, .pointer pi] 26)]) (fun φ7 => []) s trivial (fun φ7 => by kernel_rfl) ?_
    intro φ7 w7 s
    refine ops_done (by kernel_rfl) ?_
    refine wp_ret ?_
    refine ret_rule (C := []) [((φ1 0), .cells #[.bool bi, .pointer pi] 26)] [] (.int .u64 0) [] [] s trivial (by kernel_rfl) ?_
    exact ⟨_, _, _, rfl, s, (by unfold idK; simp [hc5])⟩
  ·
    rw [hc5]
    refine ops_rule (C := []) [((φ1 0), .cells #[.bool bi, .pointer pi] 26)] [] 1 [.o 0, .o 0] 0 (fun φ8 => [(7, .agg #[.bool bi, .pointer pi])]) (fun φ8 => [((φ1 0), .cells #[.bool bi, .pointer pi] 26)]) (fun φ8 => [(φ1 0), (φ1 0)]) s trivial (fun φ8 => by kernel_rfl) ?_
    intro φ8 w8 s
    refine call_rule (some 8) s (Ev.isOne_c ht) (by kernel_rfl) ?_
    intro v9 I9 w9 le9 h9 s
    replace ht := Ev.TRep.mono le9 ht
    obtain rfl := h9
    refine ops_rule (C := []) [((φ1 0), .cells #[.bool bi, .pointer pi] 26)] [] 2 [] 0 (fun φ10 => [(3, .bool t.isOne), (9, .bool t.isOne)]) (fun φ10 => [((φ1 0), .cells #[.bool bi, .pointer pi] 26)]) (fun φ10 => []) s trivial (fun φ10 => by kernel_rfl) ?_
    intro φ10 w10 s
    refine ops_done (by kernel_rfl) ?_
    rcases Bool.eq_false_or_eq_true (t.isOne) with hc11 | hc11
    ·
      rw [hc11]
      refine cond_true_rule (b := true) (by kernel_rfl) rfl ?_
      refine wp_seq ?_
      refine region_rule ?_
      refine ops_rule (C := []) [((φ1 0), .cells #[.bool bi, .pointer pi] 26)] [] 1 [] 0 (fun φ12 => [(2, .int .u64 0)]) (fun φ12 => [((φ1 0), .cells #[.bool bi, .pointer pi] 26)]) (fun φ12 => []) s trivial (fun φ12 => by kernel_rfl) ?_
      intro φ12 w12 s
      refine ops_done (by kernel_rfl) ?_
      refine wp_ret ?_
      refine ret_rule (C := []) [((φ1 0), .cells #[.bool bi, .pointer pi] 26)] [] (.int .u64 0) [] [] s trivial (by kernel_rfl) ?_
      exact ⟨_, _, _, rfl, s, (by unfold idK; simp [hc5, hc11])⟩
    ·
      rw [hc11]
      refine cond_false_rule (b := false) (by kernel_rfl) rfl ?_
      refine wp_seq ?_
      refine region_rule ?_
      refine ops_rule (C := []) [((φ1 0), .cells #[.bool bi, .pointer pi] 26)] [] 1 [.o 0, .o 0] 0 (fun φ13 => [(11, .agg #[.bool bi, .pointer pi])]) (fun φ13 => [((φ1 0), .cells #[.bool bi, .pointer pi] 26)]) (fun φ13 => [(φ1 0), (φ1 0)]) s trivial (fun φ13 => by kernel_rfl) ?_
      intro φ13 w13 s
      refine call_rule (some 12) s (Ev.tleft_c ht) (by kernel_rfl) ?_
      intro v14 I14 w14 le14 h14 s
      replace ht := Ev.TRep.mono le14 ht
      obtain ⟨b14, p14, rfl, h14_0⟩ := h14
      refine call_rule (some 13) s (Ev.isZero_c h14_0) (by kernel_rfl) ?_
      intro v15 I15 w15 le15 h15 s
      replace ht := Ev.TRep.mono le15 ht
      replace h14_0 := Ev.TRep.mono le15 h14_0
      obtain rfl := h15
      refine ops_rule (C := []) [((φ1 0), .cells #[.bool bi, .pointer pi] 26)] [] 1 [] 0 (fun φ16 => [(10, .bool t.left.isZero)]) (fun φ16 => [((φ1 0), .cells #[.bool bi, .pointer pi] 26)]) (fun φ16 => []) s trivial (fun φ16 => by kernel_rfl) ?_
      intro φ16 w16 s
      refine ops_done (by kernel_rfl) ?_
      rcases Bool.eq_false_or_eq_true (t.left.isZero) with hc17 | hc17
      ·
        rw [hc17]
        refine cond_true_rule (b := true) (by kernel_rfl) rfl ?_
        refine wp_seq ?_
        refine region_rule ?_
        refine ops_rule (C := []) [((φ1 0), .cells #[.bool bi, .pointer pi] 26)] [] 1 [] 0 (fun φ18 => [(2, .int .u64 1)]) (fun φ18 => [((φ1 0), .cells #[.bool bi, .pointer pi] 26)]) (fun φ18 => []) s trivial (fun φ18 => by kernel_rfl) ?_
        intro φ18 w18 s
        refine ops_done (by kernel_rfl) ?_
        refine wp_ret ?_
        refine ret_rule (C := []) [((φ1 0), .cells #[.bool bi, .pointer pi] 26)] [] (.int .u64 1) [] [] s trivial (by kernel_rfl) ?_
        exact ⟨_, _, _, rfl, s, (by unfold idK; simp [hc5, hc11, hc17])⟩
      ·
        rw [hc17]
        refine cond_false_rule (b := false) (by kernel_rfl) rfl ?_
        refine wp_seq ?_
        refine region_rule ?_
        refine ops_rule (C := []) [((φ1 0), .cells #[.bool bi, .pointer pi] 26)] [] 1 [.o 0, .o 0] 0 (fun φ19 => [(15, .agg #[.bool bi, .pointer pi])]) (fun φ19 => [((φ1 0), .cells #[.bool bi, .pointer pi] 26)]) (fun φ19 => [(φ1 0), (φ1 0)]) s trivial (fun φ19 => by kernel_rfl) ?_
        intro φ19 w19 s
        refine call_rule (some 16) s (Ev.tright_c ht) (by kernel_rfl) ?_
        intro v20 I20 w20 le20 h20 s
        replace ht := Ev.TRep.mono le20 ht
        replace h14_0 := Ev.TRep.mono le20 h14_0
        obtain ⟨b20, p20, rfl, h20_0⟩ := h20
        refine call_rule (some 17) s (Ev.isZero_c h20_0) (by kernel_rfl) ?_
        intro v21 I21 w21 le21 h21 s
        replace ht := Ev.TRep.mono le21 ht
        replace h14_0 := Ev.TRep.mono le21 h14_0
        replace h20_0 := Ev.TRep.mono le21 h20_0
        obtain rfl := h21
        refine ops_rule (C := []) [((φ1 0), .cells #[.bool bi, .pointer pi] 26)] [] 1 [] 0 (fun φ22 => [(14, .bool t.right.isZero)]) (fun φ22 => [((φ1 0), .cells #[.bool bi, .pointer pi] 26)]) (fun φ22 => []) s trivial (fun φ22 => by kernel_rfl) ?_
        intro φ22 w22 s
        refine ops_done (by kernel_rfl) ?_
        rcases Bool.eq_false_or_eq_true (t.right.isZero) with hc23 | hc23
        ·
          rw [hc23]
          refine cond_true_rule (b := true) (by kernel_rfl) rfl ?_
          refine wp_seq ?_
          refine region_rule ?_
          refine ops_rule (C := []) [((φ1 0), .cells #[.bool bi, .pointer pi] 26)] [] 1 [] 0 (fun φ24 => [(2, .int .u64 2)]) (fun φ24 => [((φ1 0), .cells #[.bool bi, .pointer pi] 26)]) (fun φ24 => []) s trivial (fun φ24 => by kernel_rfl) ?_
          intro φ24 w24 s
          refine ops_done (by kernel_rfl) ?_
          refine wp_ret ?_
          refine ret_rule (C := []) [((φ1 0), .cells #[.bool bi, .pointer pi] 26)] [] (.int .u64 2) [] [] s trivial (by kernel_rfl) ?_
          exact ⟨_, _, _, rfl, s, (by unfold idK; simp [hc5, hc11, hc17, hc23])⟩
        ·
          rw [hc23]
          refine cond_false_rule (b := false) (by kernel_rfl) rfl ?_
          refine wp_skip ?_
          refine wp_seq ?_
          refine region_rule ?_
          refine ops_rule (C := []) [((φ1 0), .cells #[.bool bi, .pointer pi] 26)] [] 1 [] 0 (fun φ25 => [(2, .int .u64 3)]) (fun φ25 => [((φ1 0), .cells #[.bool bi, .pointer pi] 26)]) (fun φ25 => []) s trivial (fun φ25 => by kernel_rfl) ?_
          intro φ25 w25 s
          refine ops_done (by kernel_rfl) ?_
          refine wp_ret ?_
          refine ret_rule (C := []) [((φ1 0), .cells #[.bool bi, .pointer pi] 26)] [] (.int .u64 3) [] [] s trivial (by kernel_rfl) ?_
          exact ⟨_, _, _, rfl, s, (by unfold idK; simp [hc5, hc11, hc17, hc23])⟩

set_option maxHeartbeats 400000 in
theorem leafBit_c {I : IM} {t : Ev.T} {bi : Bool} {pi : Option Addr} (ht : Ev.TRep I t bi pi) : Fun Try.prog 54 #[.agg #[.bool bi, .pointer pi]] I (fun v J => v = .int .u64 ((lbT t : Nat) : Int)) := by
  refine enter_rule 5 [(0, .agg #[.bool bi, .pointer pi])] Try.func54 rfl (by kernel_rfl) ?_
  intro w s
  refine wp_seq ?_
  refine region_rule ?_
  refine ops_rule (C := []) [] [] 2 [] 1 (fun φ1 => [(2, .int .u64 0), (1, .pointer (some ⟨(φ1 0), 0, none⟩))]) (fun φ1 => [((φ1 0), .cells #[.bool bi, .pointer pi] 26)]) (fun φ1 => []) s trivial (fun φ1 => by kernel_rfl) ?_
  intro φ1 w1 s
  refine ops_done (by kernel_rfl) ?_
  refine wp_seq ?_
  refine wp_seq ?_
  refine region_rule ?_
  refine ops_rule (C := []) [((φ1 0), .cells #[.bool bi, .pointer pi] 26)] [] 1 [.o 0, .o 0] 0 (fun φ2 => [(3, .agg #[.bool bi, .pointer pi])]) (fun φ2 => [((φ1 0), .cells #[.bool bi, .pointer pi] 26)]) (fun φ2 => [(φ1 0), (φ1 0)]) s trivial (fun φ2 => by kernel_rfl) ?_
  intro φ2 w2 s
  refine call_rule (some 4) s (Ev.isOne_c ht) (by kernel_rfl) ?_
  intro v3 I3 w3 le3 h3 s
  replace ht := Ev.TRep.mono le3 ht
  obtain rfl := h3
  refine ops_done (by kernel_rfl) ?_
  rcases Bool.eq_false_or_eq_true (t.isOne) with hc4 | hc4
  ·
    rw [hc4]
    refine cond_true_rule (b := true) (by kernel_rfl) rfl ?_
    refine wp_seq ?_
    refine region_rule ?_
    refine ops_rule (C := []) [((φ1 0), .cells #[.bool bi, .pointer pi] 26)] [] 1 [] 0 (fun φ5 => [(2, .int .u64 1)]) (fun φ5 => [((φ1 0), .cells #[.bool bi, .pointer pi] 26)]) (fun φ5 => []) s trivial (fun φ5 => by kernel_rfl) ?_
    intro φ5 w5 s
    refine ops_done (by kernel_rfl) ?_
    refine wp_ret ?_
    refine ret_rule (C := []) [((φ1 0), .cells #[.bool bi, .pointer pi] 26)] [] (.int .u64 1) [] [] s trivial (by kernel_rfl) ?_
    exact ⟨_, _, _, rfl, s, (by unfold lbT; simp [hc4])⟩
  ·
    rw [hc4]
    refine cond_false_rule (b := false) (by kernel_rfl) rfl ?_
    refine wp_skip ?_
    refine wp_seq ?_
    refine region_rule ?_
    refine ops_rule (C := []) [((φ1 0), .cells #[.bool bi, .pointer pi] 26)] [] 1 [] 0 (fun φ6 => [(2, .int .u64 0)]) (fun φ6 => [((φ1 0), .cells #[.bool bi, .pointer pi] 26)]) (fun φ6 => []) s trivial (fun φ6 => by kernel_rfl) ?_
    intro φ6 w6 s
    refine ops_done (by kernel_rfl) ?_
    refine wp_ret ?_
    refine ret_rule (C := []) [((φ1 0), .cells #[.bool bi, .pointer pi] 26)] [] (.int .u64 0) [] [] s trivial (by kernel_rfl) ?_
    exact ⟨_, _, _, rfl, s, (by unfold lbT; simp [hc4])⟩

theorem lbT_lt (t : Ev.T) : lbT t < 2 := by unfold lbT; split <;> omega

set_option maxHeartbeats 2000000 in
theorem putID_step {I : IM} {t : Ev.T} {bi : Bool} {pi : Option Addr} (ht : Ev.TRep I t bi pi) {b cnt : Nat} {bs : List Bool} {v0 : Value} {F : List OB} (hc : cnt = bs.length) (hlen : bs.length + (idB t).length ≤ 700000) (h : RowH 5 1 v0 (pk bs).length ((pk bs).map bV) F) (ihl : (idK t ≠ 0 → idK t ≠ 1 → ∀ {J : IM} {b1 : Bool} {p1 : Option Addr} {cnt : Nat} {bs : List Bool} {v0 : Value} {F : List OB}, Ev.TRep J t.left b1 p1 → cnt = bs.length → bs.length + (idB t.left).length ≤ 700000 → RowH 5 1 v0 (pk bs).length ((pk bs).map bV) F → FunM Try.prog 24 #[.pointer (some ⟨b, 0, none⟩), .agg #[.bool b1, .pointer p1]] J ((b, .cells #[v0, .int .i64 ((cnt : Nat) : Int)] 91) :: F) (fun v J H' => ∃ (b' : OB) (F' : List OB), H' = b' :: F' ∧ b'.1 = b ∧ ∃ v', v = .tuple #[] ∧ b' = (b, .cells #[v', .int .i64 ((cnt + (idB t.left).length : Nat) : Int)] 91) ∧ RowH 5 1 v' (pk (bs ++ idB t.left)).length ((pk (bs ++ idB t.left)).map bV) F'))) (ihr : (idK t ≠ 0 → idK t ≠ 2 → ∀ {J : IM} {b1 : Bool} {p1 : Option Addr} {cnt : Nat} {bs : List Bool} {v0 : Value} {F : List OB}, Ev.TRep J t.right b1 p1 → cnt = bs.length → bs.length + (idB t.right).length ≤ 700000 → RowH 5 1 v0 (pk bs).length ((pk bs).map bV) F → FunM Try.prog 24 #[.pointer (some ⟨b, 0, none⟩), .agg #[.bool b1, .pointer p1]] J ((b, .cells #[v0, .int .i64 ((cnt : Nat) : Int)] 91) :: F) (fun v J H' => ∃ (b' : OB) (F' : List OB), H' = b' :: F' ∧ b'.1 = b ∧ ∃ v', v = .tuple #[] ∧ b' = (b, .cells #[v', .int .i64 ((cnt + (idB t.right).length : Nat) : Int)] 91) ∧ RowH 5 1 v' (pk (bs ++ idB t.right)).length ((pk (bs ++ idB t.right)).map bV) F'))) : FunM Try.prog 24 #[.pointer (some ⟨b, 0, none⟩), .agg #[.bool bi, .pointer pi]] I ((b, .cells #[v0, .int .i64 ((cnt : Nat) : Int)] 91) :: F) (fun v J H' => ∃ (b' : OB) (F' : List OB), H' = b' :: F' ∧ b'.1 = b ∧ ∃ v', v = .tuple #[] ∧ b' = (b, .cells #[v', .int .i64 ((cnt + (idB t).length : Nat) : Int)] 91) ∧ RowH 5 1 v' (pk (bs ++ idB t)).length ((pk (bs ++ idB t)).map bV) F') := by
  refine enterM_rule 28 [(0, .pointer (some ⟨b, 0, none⟩)), (1, .agg #[.bool bi, .pointer pi])] Try.func24 rfl (by kernel_rfl) ?_
  intro w s
  refine wp_seq ?_
  refine region_rule ?_
  refine ops_rule (C := []) [(b, .cells #[v0, .int .i64 ((cnt : Nat) : Int)] 91)] F 1 [] 1 (fun φ1 => [(3, .pointer (some ⟨(φ1 0), 0, none⟩))]) (fun φ1 => [(b, .cells #[v0, .int .i64 ((cnt : Nat) : Int)] 91), ((φ1 0), .cells #[.bool bi, .pointer pi] 26)]) (fun φ1 => []) s trivial (fun φ1 => by kernel_rfl) ?_
  intro φ1 w1 s
  refine ops_done (by kernel_rfl) ?_
  refine wp_seq ?_
  refine region_rule ?_
  refine ops_rule (C := []) [(b, .cells #[v0, .int .i64 ((cnt : Nat) : Int)] 91), ((φ1 0), .cells #[.bool bi, .pointer pi] 26)] F 1 [.o 1, .o 1] 0 (fun φ2 => [(5, .agg #[.bool bi, .pointer pi])]) (fun φ2 => [(b, .cells #[v0, .int .i64 ((cnt : Nat) : Int)] 91), ((φ1 0), .cells #[.bool bi, .pointer pi] 26)]) (fun φ2 => [(φ1 0), (φ1 0)]) s trivial (fun φ2 => by kernel_rfl) ?_
  intro φ2 w2 s
  refine call_rule (some 6) s (idKind_c ht) (by kernel_rfl) ?_
  intro v3 I3 w3 le3 h3 s
  replace ht := Ev.TRep.mono le3 ht
  obtain rfl := h3
  refine ops_rule (C := []) [(b, .cells #[v0, .int .i64 ((cnt : Nat) : Int)] 91), ((φ1 0), .cells #[.bool bi, .pointer pi] 26)] F 1 [] 0 (fun φ4 => [(4, .int .u64 ((idK t : Nat) : Int))]) (fun φ4 => [(b, .cells #[v0, .int .i64 ((cnt : Nat) : Int)] 91), ((φ1 0), .cells #[.bool bi, .pointer pi] 26)]) (fun φ4 => []) s trivial (fun φ4 => by kernel_rfl) ?_
  intro φ4 w4 s
  refine ops_done (by kernel_rfl) ?_
  refine wp_seq ?_
  refine region_rule ?_
  refine ops_rule (C := []) [(b, .cells #[v0, .int .i64 ((cnt : Nat) : Int)] 91), ((φ1 0), .cells #[.bool bi, .pointer pi] 26)] F 2 [] 0 (fun φ5 => [(8, .int .u64 ((idK t : Nat) : Int)), (7, .pointer (some ⟨b, 0, none⟩))]) (fun φ5 => [(b, .cells #[v0, .int .i64 ((cnt : Nat) : Int)] 91), ((φ1 0), .cells #[.bool bi, .pointer pi] 26)]) (fun φ5 => []) s trivial (fun φ5 => by kernel_rfl) ?_
  intro φ5 w5 s
  refine callH_rule (b := (b, .cells #[v0, .int .i64 ((cnt : Nat) : Int)] 91)) (H := [(b, .cells #[v0, .int .i64 ((cnt : Nat) : Int)] 91), ((φ1 0), .cells #[.bool bi, .pointer pi] 26)]) (F := F) (Hr := [((φ1 0), .cells #[.bool bi, .pointer pi] 26)]) (some 9) 0 s (by kernel_rfl) (by kernel_rfl) (put_c (b := b) (cnt := cnt) (bs := bs) (v0 := v0) (n := idK t) (k := 2) (by (try simp only [List.length_append, putBits_len]);  omega) (by have h7 := hlen; have h5 := idB_pos t; (try simp only [List.length_append, putBits_len]); omega) h (by have hk4 := idK_lt t; have hk5 : lbT t < 2 := lbT_lt t;  omega) (by have hk4 := idK_lt t; have hk5 : lbT t < 2 := lbT_lt t;  omega)) (by kernel_rfl) ?_
  rintro v6 I6 w6 b6 F6 le6 - h6 s
  replace ht := Ev.TRep.mono le6 ht
  obtain ⟨v6, rfl, rfl, hr6⟩ := h6
  refine ops_done (by kernel_rfl) ?_
  refine wp_seq ?_
  refine wp_seq ?_
  refine region_rule ?_
  refine ops_rule (C := []) [(b, .cells #[v6, .int .i64 ((cnt + 2 : Nat) : Int)] 91), ((φ1 0), .cells #[.bool bi, .pointer pi] 26)] F6 2 [] 0 (fun φ7 => [(11, .bool (((idK t : Nat) : Int) == ((0 : Nat) : Int))), (10, .int .u64 ((idK t : Nat) : Int))]) (fun φ7 => [(b, .cells #[v6, .int .i64 ((cnt + 2 : Nat) : Int)] 91), ((φ1 0), .cells #[.bool bi, .pointer pi] 26)]) (fun φ7 => []) s trivial (fun φ7 => by kernel_rfl) ?_
  intro φ7 w7 s
  rw [nat_eql (a := (idK t)) (b := 0)]
  refine ops_done (by kernel_rfl) ?_
  rcases Bool.eq_false_or_eq_true (decide ((idK t) = 0)) with hc8 | hc8
  ·
    rw [hc8]
    refine cond_true_rule (b := true) (by kernel_rfl) rfl ?_
    refine wp_seq ?_
    refine region_rule ?_
    refine ops_rule (C := []) [(b, .cells #[v6, .int .i64 ((cnt + 2 : Nat) : Int)] 91), ((φ1 0), .cells #[.bool bi, .pointer pi] 26)] F6 2 [.o 1, .o 1] 0 (fun φ9 => [(13, .agg #[.bool bi, .pointer pi]), (12, .pointer (some ⟨b, 0, none⟩))]) (fun φ9 => [(b, .cells #[v6, .int .i64 ((cnt + 2 : Nat) : Int)] 91), ((φ1 0), .cells #[.bool bi, .pointer pi] 26)]) (fun φ9 => [(φ1 0), (φ1 0)]) s trivial (fun φ9 => by kernel_rfl) ?_
    intro φ9 w9 s
    refine call_rule (some 14) s (leafBit_c ht) (by kernel_rfl) ?_
    intro v10 I10 w10 le10 h10 s
    replace ht := Ev.TRep.mono le10 ht
    obtain rfl := h10
    refine callH_rule (b := (b, .cells #[v6, .int .i64 ((cnt + 2 : Nat) : Int)] 91)) (H := [(b, .cells #[v6, .int .i64 ((cnt + 2 : Nat) : Int)] 91), ((φ1 0), .cells #[.bool bi, .pointer pi] 26)]) (F := F6) (Hr := [((φ1 0), .cells #[.bool bi, .pointer pi] 26)]) (some 15) 0 s (by kernel_rfl) (by kernel_rfl) (put_c (b := b) (cnt := cnt + 2) (bs := (bs ++ putBits (idK t) 2)) (v0 := v6) (n := lbT t) (k := 1) (by (try simp only [List.length_append, putBits_len]);  omega) (by have h7 := hlen; have h6 := congrArg List.length (idB_leaf (of_decide_eq_true hc8)); simp only [List.length_append, putBits_len] at h6; (try simp only [List.length_append, putBits_len]); omega) hr6 (by have hk4 := idK_lt t; have hk5 : lbT t < 2 := lbT_lt t; have hq0 := of_decide_eq_true hc8; omega) (by have hk4 := idK_lt t; have hk5 : lbT t < 2 := lbT_lt t; have hq0 := of_decide_eq_true hc8; omega)) (by kernel_rfl) ?_
    rintro v11 I11 w11 b11 F11 le11 - h11 s
    replace ht := Ev.TRep.mono le11 ht
    obtain ⟨v11, rfl, rfl, hr11⟩ := h11
    refine ops_done (by kernel_rfl) ?_
    refine wp_ret ?_
    refine ret_rule (C := []) [(b, .cells #[v11, .int .i64 ((cnt + 2 + 1 : Nat) : Int)] 91), ((φ1 0), .cells #[.bool bi, .pointer pi] 26)] F11 (.tuple #[]) [] [] s trivial (by kernel_rfl) ?_
    replace s := s.drop (List.Sublist.append (List.Sublist.cons₂ _ (List.Sublist.cons _ List.Sublist.slnil)) (List.Sublist.refl F11))
    have hz9 : ((bs ++ putBits (idK t) 2) ++ putBits (lbT t) 1) = bs ++ idB t := by
      rw [idB_leaf (of_decide_eq_true hc8), List.append_assoc]
    have hL9 := congrArg List.length hz9
    simp only [List.length_append, putBits_len] at hL9
    have hc9 : cnt + 2 + 1 = cnt + (idB t).length := (by omega)
    exact ⟨_, _, _, rfl, s, ⟨_, _, rfl, rfl, _, rfl, by rw [hc9], row_cast hr11 (congrArg pk hz9)⟩⟩
  ·
    rw [hc8]
    refine cond_false_rule (b := false) (by kernel_rfl) rfl ?_
    refine wp_skip ?_
    refine wp_seq ?_
    refine wp_seq ?_
    refine region_rule ?_
    refine ops_rule (C := []) [(b, .cells #[v6, .int .i64 ((cnt + 2 : Nat) : Int)] 91), ((φ1 0), .cells #[.bool bi, .pointer pi] 26)] F6 2 [] 0 (fun φ12 => [(17, .bool (((idK t : Nat) : Int) != ((1 : Nat) : Int))), (16, .int .u64 ((idK t : Nat) : Int))]) (fun φ12 => [(b, .cells #[v6, .int .i64 ((cnt + 2 : Nat) : Int)] 91), ((φ1 0), .cells #[.bool bi, .pointer pi] 26)]) (fun φ12 => []) s trivial (fun φ12 => by kernel_rfl) ?_
    intro φ12 w12 s
    rw [nat_neq (a := (idK t)) (b := 1)]
    refine ops_done (by kernel_rfl) ?_
    rcases Bool.eq_false_or_eq_true (decide ((idK t) ≠ 1)) with hc13 | hc13
    ·
      rw [hc13]
      refine cond_true_rule (b := true) (by kernel_rfl) rfl ?_
      refine region_rule ?_
      refine ops_rule (C := []) [(b, .cells #[v6, .int .i64 ((cnt + 2 : Nat) : Int)] 91), ((φ1 0), .cells #[.bool bi, .pointer pi] 26)] F6 2 [.o 1, .o 1] 0 (fun φ14 => [(19, .agg #[.bool bi, .pointer pi]), (18, .pointer (some ⟨b, 0, none⟩))]) (fun φ14 => [(b, .cells #[v6, .int .i64 ((cnt + 2 : Nat) : Int)] 91), ((φ1 0), .cells #[.bool bi, .pointer pi] 26)]) (fun φ14 => [(φ1 0), (φ1 0)]) s trivial (fun φ14 => by kernel_rfl) ?_
      intro φ14 w14 s
      refine call_rule (some 20) s (Ev.tleft_c ht) (by kernel_rfl) ?_
      intro v15 I15 w15 le15 h15 s
      replace ht := Ev.TRep.mono le15 ht
      obtain ⟨b15, p15, rfl, h15_0⟩ := h15
      refine callH_rule (b := (b, .cells #[v6, .int .i64 ((cnt + 2 : Nat) : Int)] 91)) (H := [(b, .cells #[v6, .int .i64 ((cnt + 2 : Nat) : Int)] 91), ((φ1 0), .cells #[.bool bi, .pointer pi] 26)]) (F := F6) (Hr := [((φ1 0), .cells #[.bool bi, .pointer pi] 26)]) (some 21) 0 s (by kernel_rfl) (by kernel_rfl) (ihl (of_decide_eq_false hc8) (of_decide_eq_true hc13) (cnt := cnt + 2) (bs := (bs ++ putBits (idK t) 2)) (v0 := v6) h15_0 (by (try simp only [List.length_append, putBits_len]);  omega) (by have h7 := hlen; have h6 := congrArg List.length (idB_pair (of_decide_eq_false hc8)); rw [if_neg (of_decide_eq_true hc13)] at h6; simp only [List.length_append, putBits_len] at h6; (try simp only [List.length_append, putBits_len]); omega) hr6) (by kernel_rfl) ?_
      rintro v16 I16 w16 b16 F16 le16 - h16 s
      replace ht := Ev.TRep.mono le16 ht
      replace h15_0 := Ev.TRep.mono le16 h15_0
      obtain ⟨v16, rfl, rfl, hr16⟩ := h16
      refine ops_done (by kernel_rfl) ?_
      refine wp_seq ?_
      refine region_rule ?_
      refine ops_rule (C := []) [(b, .cells #[v16, .int .i64 ((cnt + 2 + (idB t.left).length : Nat) : Int)] 91), ((φ1 0), .cells #[.bool bi, .pointer pi] 26)] F16 2 [] 0 (fun φ17 => [(23, .bool (((idK t : Nat) : Int) != ((2 : Nat) : Int))), (22, .int .u64 ((idK t : Nat) : Int))]) (fun φ17 => [(b, .cells #[v16, .int .i64 ((cnt + 2 + (idB t.left).length : Nat) : Int)] 91), ((φ1 0), .cells #[.bool bi, .pointer pi] 26)]) (fun φ17 => []) s trivial (fun φ17 => by kernel_rfl) ?_
      intro φ17 w17 s
      rw [nat_neq (a := (idK t)) (b := 2)]
      refine ops_done (by kernel_rfl) ?_
      rcases Bool.eq_false_or_eq_true (decide ((idK t) ≠ 2)) with hc18 | hc18
      ·
        rw [hc18]
        refine cond_true_rule (b := true) (by kernel_rfl) rfl ?_
        refine region_rule ?_
        refine ops_rule (C := []) [(b, .cells #[v16, .int .i64 ((cnt + 2 + (idB t.left).length : Nat) : Int)] 91), ((φ1 0), .cells #[.bool bi, .pointer pi] 26)] F16 2 [.o 1, .o 1] 0 (fun φ19 => [(25, .agg #[.bool bi, .pointer pi]), (24, .pointer (some ⟨b, 0, none⟩))]) (fun φ19 => [(b, .cells #[v16, .int .i64 ((cnt + 2 + (idB t.left).length : Nat) : Int)] 91), ((φ1 0), .cells #[.bool bi, .pointer pi] 26)]) (fun φ19 => [(φ1 0), (φ1 0)]) s trivial (fun φ19 => by kernel_rfl) ?_
        intro φ19 w19 s
        refine call_rule (some 26) s (Ev.tright_c ht) (by kernel_rfl) ?_
        intro v20 I20 w20 le20 h20 s
        replace ht := Ev.TRep.mono le20 ht
        replace h15_0 := Ev.TRep.mono le20 h15_0
        obtain ⟨b20, p20, rfl, h20_0⟩ := h20
        refine callH_rule (b := (b, .cells #[v16, .int .i64 ((cnt + 2 + (idB t.left).length : Nat) : Int)] 91)) (H := [(b, .cells #[v16, .int .i64 ((cnt + 2 + (idB t.left).length : Nat) : Int)] 91), ((φ1 0), .cells #[.bool bi, .pointer pi] 26)]) (F := F16) (Hr := [((φ1 0), .cells #[.bool bi, .pointer pi] 26)]) (some 27) 0 s (by kernel_rfl) (by kernel_rfl) (ihr (of_decide_eq_false hc8) (of_decide_eq_true hc18) (cnt := cnt + 2 + (idB t.left).length) (bs := ((bs ++ putBits (idK t) 2) ++ idB t.left)) (v0 := v16) h20_0 (by (try simp only [List.length_append, putBits_len]);  omega) (by have h7 := hlen; have h6 := congrArg List.length (idB_pair (of_decide_eq_false hc8)); rw [if_neg (of_decide_eq_true hc13)] at h6; rw [if_neg (of_decide_eq_true hc18)] at h6; simp only [List.length_append, putBits_len] at h6; (try simp only [List.length_append, putBits_len]); omega) hr16) (by kernel_rfl) ?_
        rintro v21 I21 w21 b21 F21 le21 - h21 s
        replace ht := Ev.TRep.mono le21 ht
        replace h15_0 := Ev.TRep.mono le21 h15_0
        replace h20_0 := Ev.TRep.mono le21 h20_0
        obtain ⟨v21, rfl, rfl, hr21⟩ := h21
        refine ops_done (by kernel_rfl) ?_
        refine end_rule (C := []) [(b, .cells #[v21, .int .i64 ((cnt + 2 + (idB t.left).length + (idB t.right).length : Nat) : Int)] 91), ((φ1 0), .cells #[.bool bi, .pointer pi] 26)] F21 (.tuple #[]) [] [] s trivial (by kernel_rfl) ?_
        replace s := s.drop (List.Sublist.append (List.Sublist.cons₂ _ (List.Sublist.cons _ List.Sublist.slnil)) (List.Sublist.refl F21))
        have hz9 : (((bs ++ putBits (idK t) 2) ++ idB t.left) ++ idB t.right) = bs ++ idB t := by
          rw [idB_pair (of_decide_eq_false hc8), if_neg (of_decide_eq_true hc13), if_neg (of_decide_eq_true hc18)]
          simp
        have hL9 := congrArg List.length hz9
        simp only [List.length_append, putBits_len] at hL9
        have hc9 : cnt + 2 + (idB t.left).length + (idB t.right).length = cnt + (idB t).length := (by omega)
        exact ⟨_, _, _, rfl, s, ⟨_, _, rfl, rfl, _, rfl, by rw [hc9], row_cast hr21 (congrArg pk hz9)⟩⟩
      ·
        rw [hc18]
        refine cond_false_rule (b := false) (by kernel_rfl) rfl ?_
        refine wp_skip ?_
        refine end_rule (C := []) [(b, .cells #[v16, .int .i64 ((cnt + 2 + (idB t.left).length : Nat) : Int)] 91), ((φ1 0), .cells #[.bool bi, .pointer pi] 26)] F16 (.tuple #[]) [] [] s trivial (by kernel_rfl) ?_
        replace s := s.drop (List.Sublist.append (List.Sublist.cons₂ _ (List.Sublist.cons _ List.Sublist.slnil)) (List.Sublist.refl F16))
        have hz9 : ((bs ++ putBits (idK t) 2) ++ idB t.left) = bs ++ idB t := by
          rw [idB_pair (of_decide_eq_false hc8), if_neg (of_decide_eq_true hc13), if_pos (Decidable.not_not.1 (of_decide_eq_false hc18))]
          simp
        have hL9 := congrArg List.length hz9
        simp only [List.length_append, putBits_len] at hL9
        have hc9 : cnt + 2 + (idB t.left).length = cnt + (idB t).length := (by omega)
        exact ⟨_, _, _, rfl, s, ⟨_, _, rfl, rfl, _, rfl, by rw [hc9], row_cast hr16 (congrArg pk hz9)⟩⟩
    ·
      rw [hc13]
      refine cond_false_rule (b := false) (by kernel_rfl) rfl ?_
      refine wp_skip ?_
      refine wp_seq ?_
      refine region_rule ?_
      refine ops_rule (C := []) [(b, .cells #[v6, .int .i64 ((cnt + 2 : Nat) : Int)] 91), ((φ1 0), .cells #[.bool bi, .pointer pi] 26)] F6 2 [] 0 (fun φ22 => [(23, .bool (((idK t : Nat) : Int) != ((2 : Nat) : Int))), (22, .int .u64 ((idK t : Nat) : Int))]) (fun φ22 => [(b, .cells #[v6, .int .i64 ((cnt + 2 : Nat) : Int)] 91), ((φ1 0), .cells #[.bool bi, .pointer pi] 26)]) (fun φ22 => []) s trivial (fun φ22 => by kernel_rfl) ?_
      intro φ22 w22 s
      rw [nat_neq (a := (idK t)) (b := 2)]
      refine ops_done (by kernel_rfl) ?_
      rcases Bool.eq_false_or_eq_true (decide ((idK t) ≠ 2)) with hc23 | hc23
      ·
        rw [hc23]
        refine cond_true_rule (b := true) (by kernel_rfl) rfl ?_
        refine region_rule ?_
        refine ops_rule (C := []) [(b, .cells #[v6, .int .i64 ((cnt + 2 : Nat) : Int)] 91), ((φ1 0), .cells #[.bool bi, .pointer pi] 26)] F6 2 [.o 1, .o 1] 0 (fun φ24 => [(25, .agg #[.bool bi, .pointer pi]), (24, .pointer (some ⟨b, 0, none⟩))]) (fun φ24 => [(b, .cells #[v6, .int .i64 ((cnt + 2 : Nat) : Int)] 91), ((φ1 0), .cells #[.bool bi, .pointer pi] 26)]) (fun φ24 => [(φ1 0), (φ1 0)]) s trivial (fun φ24 => by kernel_rfl) ?_
        intro φ24 w24 s
        refine call_rule (some 26) s (Ev.tright_c ht) (by kernel_rfl) ?_
        intro v25 I25 w25 le25 h25 s
        replace ht := Ev.TRep.mono le25 ht
        obtain ⟨b25, p25, rfl, h25_0⟩ := h25
        refine callH_rule (b := (b, .cells #[v6, .int .i64 ((cnt + 2 : Nat) : Int)] 91)) (H := [(b, .cells #[v6, .int .i64 ((cnt + 2 : Nat) : Int)] 91), ((φ1 0), .cells #[.bool bi, .pointer pi] 26)]) (F := F6) (Hr := [((φ1 0), .cells #[.bool bi, .pointer pi] 26)]) (some 27) 0 s (by kernel_rfl) (by kernel_rfl) (ihr (of_decide_eq_false hc8) (of_decide_eq_true hc23) (cnt := cnt + 2) (bs := (bs ++ putBits (idK t) 2)) (v0 := v6) h25_0 (by (try simp only [List.length_append, putBits_len]);  omega) (by have h7 := hlen; have h6 := congrArg List.length (idB_pair (of_decide_eq_false hc8)); rw [if_pos (Decidable.not_not.1 (of_decide_eq_false hc13))] at h6; rw [if_neg (of_decide_eq_true hc23)] at h6; simp only [List.length_append, putBits_len] at h6; (try simp only [List.length_append, putBits_len]); omega) hr6) (by kernel_rfl) ?_
        rintro v26 I26 w26 b26 F26 le26 - h26 s
        replace ht := Ev.TRep.mono le26 ht
        replace h25_0 := Ev.TRep.mono le26 h25_0
        obtain ⟨v26, rfl, rfl, hr26⟩ := h26
        refine ops_done (by kernel_rfl) ?_
        refine end_rule (C := []) [(b, .cells #[v26, .int .i64 ((cnt + 2 + (idB t.right).length : Nat) : Int)] 91), ((φ1 0), .cells #[.bool bi, .pointer pi] 26)] F26 (.tuple #[]) [] [] s trivial (by kernel_rfl) ?_
        replace s := s.drop (List.Sublist.append (List.Sublist.cons₂ _ (List.Sublist.cons _ List.Sublist.slnil)) (List.Sublist.refl F26))
        have hz9 : ((bs ++ putBits (idK t) 2) ++ idB t.right) = bs ++ idB t := by
          rw [idB_pair (of_decide_eq_false hc8), if_pos (Decidable.not_not.1 (of_decide_eq_false hc13)), if_neg (of_decide_eq_true hc23)]
          simp
        have hL9 := congrArg List.length hz9
        simp only [List.length_append, putBits_len] at hL9
        have hc9 : cnt + 2 + (idB t.right).length = cnt + (idB t).length := (by omega)
        exact ⟨_, _, _, rfl, s, ⟨_, _, rfl, rfl, _, rfl, by rw [hc9], row_cast hr26 (congrArg pk hz9)⟩⟩
      ·
        rw [hc23]
        refine cond_false_rule (b := false) (by kernel_rfl) rfl ?_
        refine wp_skip ?_
        refine end_rule (C := []) [(b, .cells #[v6, .int .i64 ((cnt + 2 : Nat) : Int)] 91), ((φ1 0), .cells #[.bool bi, .pointer pi] 26)] F6 (.tuple #[]) [] [] s trivial (by kernel_rfl) ?_
        replace s := s.drop (List.Sublist.append (List.Sublist.cons₂ _ (List.Sublist.cons _ List.Sublist.slnil)) (List.Sublist.refl F6))
        have hz9 : (bs ++ putBits (idK t) 2) = bs ++ idB t := by
          rw [idB_pair (of_decide_eq_false hc8), if_pos (Decidable.not_not.1 (of_decide_eq_false hc13)), if_pos (Decidable.not_not.1 (of_decide_eq_false hc23))]
          simp
        have hL9 := congrArg List.length hz9
        simp only [List.length_append, putBits_len] at hL9
        have hc9 : cnt + 2 = cnt + (idB t).length := (by omega)
        exact ⟨_, _, _, rfl, s, ⟨_, _, rfl, rfl, _, rfl, by rw [hc9], row_cast hr6 (congrArg pk hz9)⟩⟩

end Go.Proofs.Ytgmigcmhnmmdkaa
