/- Ids are written. -/
import Derived.Test.YtgmigcmhnmmdkaaCwM17
import Derived.Test.YtgmigcmhnmmdkaaCwM14
import Derived.Test.YtgmigcmhnmmdkaaCwM13
import Derived.Test.YtgmigcmhnmmdkaaCwS11
import Derived.OrdersHeld
import Derived.Scope
import Derived.Laws.Strings
import Derived.Test.YtgmigcmhnmmdkaaCwM16
import Derived.Test.YtgmigcmhnmmdkaaCwM15
set_option linter.all false
set_option maxRecDepth 100000
namespace Go.Proofs.Ytgmigcmhnmmdkaa
open Go.RowKit Go.Sep
attribute [local irreducible] Go.wpList Go.Code.wp

set_option maxHeartbeats 400000 in
theorem idKind_c {I : IM} {t : Ev.T} {bi : Bool} {pi : Option Addr} (ht : Ev.TRep I t bi pi) : Fun Try.prog 53 #[.agg #[.bool bi, .pointer pi]] I (fun v J => v = .int .u64 ((idK t : Nat) : Int)) := by
 refine enter_rule 18 [(0, .agg #[.bool bi, .pointer pi])] Try.func53 rfl (by kernel_rfl) ?_
 intro w s
 refine seqR ?_
 refine ops_rule (C := []) [] [] 2 [] 1 (fun φ1 => [(2, .int .u64 0), (1, pB (φ1 0))]) (fun φ1 => [(φ1 0, .cells #[.bool bi, .pointer pi] 26)]) (fun φ1 => []) s trivial (fun φ1 => by kernel_rfl) ?_
 intro φ1 w1 s
 refine ops_done (by kernel_rfl) ?_
 refine wp_seq ?_
 refine wp_block ?_
 refine seqR ?_
 refine ops_rule (C := []) _ [] 1 [.o 0, .o 0] 0 (fun φ2 => [(4, .agg #[.bool bi, .pointer pi])]) (fun φ2 => [(φ1 0, .cells #[.bool bi, .pointer pi] 26)]) (fun φ2 => [φ1 0, φ1 0]) s trivial (fun φ2 => by kernel_rfl) ?_
 intro φ2 w2 s
 refine call_rule (some 5) s (Ev.isZero_c ht) (by kernel_rfl) ?_
 intro v3 I3 w3 le3 h3 s
 replace ht := Ev.TRep.mono le3 ht
 obtain rfl := h3
 refine ops_rule (C := []) _ [] 1 [] 0 (fun φ4 => [(6, .bool t.isZero)]) (fun φ4 => [(φ1 0, .cells #[.bool bi, .pointer pi] 26)]) (fun φ4 => []) s trivial (fun φ4 => by kernel_rfl) ?_
 intro φ4 w4 s
 rcases Bool.eq_false_or_eq_true (t.isZero) with hc5 | hc5
 ·
  rw [hc5]
  refine ops_rule (C := []) _ [] 4 [] 0 (fun φ6 => [(3, .bool true), (9, .bool true), (8, undef), (7, undef)]) (fun φ6 => [(φ1 0, .cells #[.bool bi, .pointer pi] 26)]) (fun φ6 => []) s trivial (fun φ6 => by kernel_rfl) ?_
  intro φ6 w6 s
  refine ops_done (by kernel_rfl) ?_
  refine cond_true_rule (b := true) (by kernel_rfl) rfl ?_
  refine seqR ?_
  refine ops_rule (C := []) _ [] 1 [] 0 (fun φ7 => [(2, .int .u64 0)]) (fun φ7 => [(φ1 0, .cells #[.bool bi, .pointer pi] 26)]) (fun φ7 => []) s trivial (fun φ7 => by kernel_rfl) ?_
  intro φ7 w7 s
  refine ops_done (by kernel_rfl) ?_
  refine wp_ret ?_
  refine ret_rule (C := []) _ [] (.int .u64 0) [] [] s trivial (by kernel_rfl) ?_
  exact ⟨_, _, _, rfl, s, (by unfold idK; simp [hc5])⟩
 ·
  rw [hc5]
  refine ops_rule (C := []) _ [] 1 [.o 0, .o 0] 0 (fun φ8 => [(7, .agg #[.bool bi, .pointer pi])]) (fun φ8 => [(φ1 0, .cells #[.bool bi, .pointer pi] 26)]) (fun φ8 => [φ1 0, φ1 0]) s trivial (fun φ8 => by kernel_rfl) ?_
  intro φ8 w8 s
  refine call_rule (some 8) s (Ev.isOne_c ht) (by kernel_rfl) ?_
  intro v9 I9 w9 le9 h9 s
  replace ht := Ev.TRep.mono le9 ht
  obtain rfl := h9
  refine ops_rule (C := []) _ [] 2 [] 0 (fun φ10 => [(3, .bool t.isOne), (9, .bool t.isOne)]) (fun φ10 => [(φ1 0, .cells #[.bool bi, .pointer pi] 26)]) (fun φ10 => []) s trivial (fun φ10 => by kernel_rfl) ?_
  intro φ10 w10 s
  refine ops_done (by kernel_rfl) ?_
  rcases Bool.eq_false_or_eq_true (t.isOne) with hc11 | hc11
  ·
   rw [hc11]
   refine cond_true_rule (b := true) (by kernel_rfl) rfl ?_
   refine seqR ?_
   refine ops_rule (C := []) _ [] 1 [] 0 (fun φ12 => [(2, .int .u64 0)]) (fun φ12 => [(φ1 0, .cells #[.bool bi, .pointer pi] 26)]) (fun φ12 => []) s trivial (fun φ12 => by kernel_rfl) ?_
   intro φ12 w12 s
   refine ops_done (by kernel_rfl) ?_
   refine wp_ret ?_
   refine ret_rule (C := []) _ [] (.int .u64 0) [] [] s trivial (by kernel_rfl) ?_
   exact ⟨_, _, _, rfl, s, (by unfold idK; simp [hc5, hc11])⟩
  ·
   rw [hc11]
   refine cond_false_rule (b := false) (by kernel_rfl) rfl ?_
   refine seqR ?_
   refine ops_rule (C := []) _ [] 1 [.o 0, .o 0] 0 (fun φ13 => [(11, .agg #[.bool bi, .pointer pi])]) (fun φ13 => [(φ1 0, .cells #[.bool bi, .pointer pi] 26)]) (fun φ13 => [φ1 0, φ1 0]) s trivial (fun φ13 => by kernel_rfl) ?_
   intro φ13 w13 s
   refine call_rule (some 12) s (Ev.tleft_c ht) (by kernel_rfl) ?_
   intro v14 I14 w14 le14 h14 s
   replace ht := Ev.TRep.mono le14 ht
   obtain ⟨b14, p14, rfl, h14_0⟩ := h14
   refine call_rule (some 13) s (Ev.isZero_c h14_0) (by kernel_rfl) ?_
   intro v15 I15 w15 le15 h15 s
   replace ht := Ev.TRep.mono le15 ht
   obtain rfl := h15
   refine ops_rule (C := []) _ [] 1 [] 0 (fun φ16 => [(10, .bool t.left.isZero)]) (fun φ16 => [(φ1 0, .cells #[.bool bi, .pointer pi] 26)]) (fun φ16 => []) s trivial (fun φ16 => by kernel_rfl) ?_
   intro φ16 w16 s
   refine ops_done (by kernel_rfl) ?_
   rcases Bool.eq_false_or_eq_true (t.left.isZero) with hc17 | hc17
   ·
    rw [hc17]
    refine cond_true_rule (b := true) (by kernel_rfl) rfl ?_
    refine seqR ?_
    refine ops_rule (C := []) _ [] 1 [] 0 (fun φ18 => [(2, .int .u64 1)]) (fun φ18 => [(φ1 0, .cells #[.bool bi, .pointer pi] 26)]) (fun φ18 => []) s trivial (fun φ18 => by kernel_rfl) ?_
    intro φ18 w18 s
    refine ops_done (by kernel_rfl) ?_
    refine wp_ret ?_
    refine ret_rule (C := []) _ [] (.int .u64 1) [] [] s trivial (by kernel_rfl) ?_
    exact ⟨_, _, _, rfl, s, (by unfold idK; simp [hc5, hc11, hc17])⟩
   ·
    rw [hc17]
    refine cond_false_rule (b := false) (by kernel_rfl) rfl ?_
    refine seqR ?_
    refine ops_rule (C := []) _ [] 1 [.o 0, .o 0] 0 (fun φ19 => [(15, .agg #[.bool bi, .pointer pi])]) (fun φ19 => [(φ1 0, .cells #[.bool bi, .pointer pi] 26)]) (fun φ19 => [φ1 0, φ1 0]) s trivial (fun φ19 => by kernel_rfl) ?_
    intro φ19 w19 s
    refine call_rule (some 16) s (Ev.tright_c ht) (by kernel_rfl) ?_
    intro v20 I20 w20 le20 h20 s
    obtain ⟨b20, p20, rfl, h20_0⟩ := h20
    refine call_rule (some 17) s (Ev.isZero_c h20_0) (by kernel_rfl) ?_
    intro v21 I21 w21 le21 h21 s
    obtain rfl := h21
    refine ops_rule (C := []) _ [] 1 [] 0 (fun φ22 => [(14, .bool t.right.isZero)]) (fun φ22 => [(φ1 0, .cells #[.bool bi, .pointer pi] 26)]) (fun φ22 => []) s trivial (fun φ22 => by kernel_rfl) ?_
    intro φ22 w22 s
    refine ops_done (by kernel_rfl) ?_
    rcases Bool.eq_false_or_eq_true (t.right.isZero) with hc23 | hc23
    ·
     rw [hc23]
     refine cond_true_rule (b := true) (by kernel_rfl) rfl ?_
     refine seqR ?_
     refine ops_rule (C := []) _ [] 1 [] 0 (fun φ24 => [(2, .int .u64 2)]) (fun φ24 => [(φ1 0, .cells #[.bool bi, .pointer pi] 26)]) (fun φ24 => []) s trivial (fun φ24 => by kernel_rfl) ?_
     intro φ24 w24 s
     refine ops_done (by kernel_rfl) ?_
     refine wp_ret ?_
     refine ret_rule (C := []) _ [] (.int .u64 2) [] [] s trivial (by kernel_rfl) ?_
     exact ⟨_, _, _, rfl, s, (by unfold idK; simp [hc5, hc11, hc17, hc23])⟩
    ·
     rw [hc23]
     refine cond_false_rule (b := false) (by kernel_rfl) rfl ?_
     refine wp_skip ?_
     refine seqR ?_
     refine ops_rule (C := []) _ [] 1 [] 0 (fun φ25 => [(2, .int .u64 3)]) (fun φ25 => [(φ1 0, .cells #[.bool bi, .pointer pi] 26)]) (fun φ25 => []) s trivial (fun φ25 => by kernel_rfl) ?_
     intro φ25 w25 s
     refine ops_done (by kernel_rfl) ?_
     refine wp_ret ?_
     refine ret_rule (C := []) _ [] (.int .u64 3) [] [] s trivial (by kernel_rfl) ?_
     exact ⟨_, _, _, rfl, s, (by unfold idK; simp [hc5, hc11, hc17, hc23])⟩

set_option maxHeartbeats 400000 in
theorem leafBit_c {I : IM} {t : Ev.T} {bi : Bool} {pi : Option Addr} (ht : Ev.TRep I t bi pi) : Fun Try.prog 54 #[.agg #[.bool bi, .pointer pi]] I (fun v J => v = .int .u64 ((lbT t : Nat) : Int)) := by
 refine enter_rule 5 [(0, .agg #[.bool bi, .pointer pi])] Try.func54 rfl (by kernel_rfl) ?_
 intro w s
 refine seqR ?_
 refine ops_rule (C := []) [] [] 2 [] 1 (fun φ1 => [(2, .int .u64 0), (1, pB (φ1 0))]) (fun φ1 => [(φ1 0, .cells #[.bool bi, .pointer pi] 26)]) (fun φ1 => []) s trivial (fun φ1 => by kernel_rfl) ?_
 intro φ1 w1 s
 refine ops_done (by kernel_rfl) ?_
 refine wp_seq ?_
 refine seqR ?_
 refine ops_rule (C := []) _ [] 1 [.o 0, .o 0] 0 (fun φ2 => [(3, .agg #[.bool bi, .pointer pi])]) (fun φ2 => [(φ1 0, .cells #[.bool bi, .pointer pi] 26)]) (fun φ2 => [φ1 0, φ1 0]) s trivial (fun φ2 => by kernel_rfl) ?_
 intro φ2 w2 s
 refine call_rule (some 4) s (Ev.isOne_c ht) (by kernel_rfl) ?_
 intro v3 I3 w3 le3 h3 s
 obtain rfl := h3
 refine ops_done (by kernel_rfl) ?_
 rcases Bool.eq_false_or_eq_true (t.isOne) with hc4 | hc4
 ·
  rw [hc4]
  refine cond_true_rule (b := true) (by kernel_rfl) rfl ?_
  refine seqR ?_
  refine ops_rule (C := []) _ [] 1 [] 0 (fun φ5 => [(2, .int .u64 1)]) (fun φ5 => [(φ1 0, .cells #[.bool bi, .pointer pi] 26)]) (fun φ5 => []) s trivial (fun φ5 => by kernel_rfl) ?_
  intro φ5 w5 s
  refine ops_done (by kernel_rfl) ?_
  refine wp_ret ?_
  refine ret_rule (C := []) _ [] (.int .u64 1) [] [] s trivial (by kernel_rfl) ?_
  exact ⟨_, _, _, rfl, s, (by unfold lbT; simp [hc4])⟩
 ·
  rw [hc4]
  refine cond_false_rule (b := false) (by kernel_rfl) rfl ?_
  refine wp_skip ?_
  refine seqR ?_
  refine ops_rule (C := []) _ [] 1 [] 0 (fun φ6 => [(2, .int .u64 0)]) (fun φ6 => [(φ1 0, .cells #[.bool bi, .pointer pi] 26)]) (fun φ6 => []) s trivial (fun φ6 => by kernel_rfl) ?_
  intro φ6 w6 s
  refine ops_done (by kernel_rfl) ?_
  refine wp_ret ?_
  refine ret_rule (C := []) _ [] (.int .u64 0) [] [] s trivial (by kernel_rfl) ?_
  exact ⟨_, _, _, rfl, s, (by unfold lbT; simp [hc4])⟩

theorem lbT_lt (t : Ev.T) : lbT t < 2 := by unfold lbT; split <;> omega

set_option maxHeartbeats 2000000 in
theorem putID_step {I : IM} {t : Ev.T} {bi : Bool} {pi : Option Addr} (ht : Ev.TRep I t bi pi) {b cnt : Nat} {bs : List Bool} {v0 : Value} {F : List OB} (hc : cnt = bs.length) (hlen : bs.length + (idB t).length ≤ 700000) (h : RowH 5 1 v0 (pk bs).length ((pk bs).map bV) F) (ihl : (idK t ≠ 0 → idK t ≠ 1 → ∀ {J : IM} {b1 : Bool} {p1 : Option Addr} {cnt : Nat} {bs : List Bool} {v0 : Value} {F : List OB}, Ev.TRep J t.left b1 p1 → cnt = bs.length → bs.length + (idB t.left).length ≤ 700000 → RowH 5 1 v0 (pk bs).length ((pk bs).map bV) F → FunM Try.prog 24 #[.pointer (some ⟨b, 0, none⟩), .agg #[.bool b1, .pointer p1]] J ((b, .cells #[v0, .int .i64 ((cnt : Nat) : Int)] 91) :: F) (fun v J H' => ∃ (b' : OB) (F' : List OB), H' = b' :: F' ∧ b'.1 = b ∧ ∃ v', v = .tuple #[] ∧ b' = (b, .cells #[v', .int .i64 ((cnt + (idB t.left).length : Nat) : Int)] 91) ∧ RowH 5 1 v' (pk (bs ++ idB t.left)).length ((pk (bs ++ idB t.left)).map bV) F'))) (ihr : (idK t ≠ 0 → idK t ≠ 2 → ∀ {J : IM} {b1 : Bool} {p1 : Option Addr} {cnt : Nat} {bs : List Bool} {v0 : Value} {F : List OB}, Ev.TRep J t.right b1 p1 → cnt = bs.length → bs.length + (idB t.right).length ≤ 700000 → RowH 5 1 v0 (pk bs).length ((pk bs).map bV) F → FunM Try.prog 24 #[.pointer (some ⟨b, 0, none⟩), .agg #[.bool b1, .pointer p1]] J ((b, .cells #[v0, .int .i64 ((cnt : Nat) : Int)] 91) :: F) (fun v J H' => ∃ (b' : OB) (F' : List OB), H' = b' :: F' ∧ b'.1 = b ∧ ∃ v', v = .tuple #[] ∧ b' = (b, .cells #[v', .int .i64 ((cnt + (idB t.right).length : Nat) : Int)] 91) ∧ RowH 5 1 v' (pk (bs ++ idB t.right)).length ((pk (bs ++ idB t.right)).map bV) F'))) : FunM Try.prog 24 #[.pointer (some ⟨b, 0, none⟩), .agg #[.bool bi, .pointer pi]] I ((b, .cells #[v0, .int .i64 ((cnt : Nat) : Int)] 91) :: F) (fun v J H' => ∃ (b' : OB) (F' : List OB), H' = b' :: F' ∧ b'.1 = b ∧ ∃ v', v = .tuple #[] ∧ b' = (b, .cells #[v', .int .i64 ((cnt + (idB t).length : Nat) : Int)] 91) ∧ RowH 5 1 v' (pk (bs ++ idB t)).length ((pk (bs ++ idB t)).map bV) F') := by
 refine enterM_rule 28 [(0, pB b), (1, .agg #[.bool bi, .pointer pi])] Try.func24 rfl (by kernel_rfl) ?_
 intro w s
 refine seqR ?_
 refine ops_rule (C := []) [(b, .cells #[v0, .int .i64 cnt] 91)] F 1 [] 1 (fun φ1 => [(3, pB (φ1 0))]) (fun φ1 => [(b, .cells #[v0, .int .i64 cnt] 91), (φ1 0, .cells #[.bool bi, .pointer pi] 26)]) (fun φ1 => []) s trivial (fun φ1 => by kernel_rfl) ?_
 intro φ1 w1 s
 refine ops_done (by kernel_rfl) ?_
 refine seqR ?_
 refine ops_rule (C := []) _ F 1 [.o 1, .o 1] 0 (fun φ2 => [(5, .agg #[.bool bi, .pointer pi])]) (fun φ2 => [(b, .cells #[v0, .int .i64 cnt] 91), (φ1 0, .cells #[.bool bi, .pointer pi] 26)]) (fun φ2 => [φ1 0, φ1 0]) s trivial (fun φ2 => by kernel_rfl) ?_
 intro φ2 w2 s
 refine call_rule (some 6) s (idKind_c ht) (by kernel_rfl) ?_
 intro v3 I3 w3 le3 h3 s
 replace ht := Ev.TRep.mono le3 ht
 obtain rfl := h3
 refine ops_rule (C := []) _ F 1 [] 0 (fun φ4 => [(4, .int .u64 (idK t))]) (fun φ4 => [(b, .cells #[v0, .int .i64 cnt] 91), (φ1 0, .cells #[.bool bi, .pointer pi] 26)]) (fun φ4 => []) s trivial (fun φ4 => by kernel_rfl) ?_
 intro φ4 w4 s
 refine ops_done (by kernel_rfl) ?_
 refine seqR ?_
 refine ops_rule (C := []) _ F 2 [] 0 (fun φ5 => [(8, .int .u64 (idK t)), (7, pB b)]) (fun φ5 => [(b, .cells #[v0, .int .i64 cnt] 91), (φ1 0, .cells #[.bool bi, .pointer pi] 26)]) (fun φ5 => []) s trivial (fun φ5 => by kernel_rfl) ?_
 intro φ5 w5 s
 refine callH_rule (b := (b, .cells #[v0, .int .i64 cnt] 91)) (F := F) (Hr := [(φ1 0, .cells #[.bool bi, .pointer pi] 26)]) (some 9) 0 s (by kernel_rfl) (by kernel_rfl) (put_c (b := b) (cnt := cnt) (bs := bs) (v0 := v0) (n := idK t) (k := 2) (by (try simp only [List.length_append, putBits_len]);  omega) (by have h7 := hlen; have h5 := idB_pos t; (try simp only [List.length_append, putBits_len]); omega) h (by have hk4 := idK_lt t; have hk5 : lbT t < 2 := lbT_lt t;  omega) (by have hk4 := idK_lt t; have hk5 : lbT t < 2 := lbT_lt t;  omega)) (by kernel_rfl) ?_
 rintro v6 I6 w6 b6 F6 le6 - h6 s
 replace ht := Ev.TRep.mono le6 ht
 obtain ⟨v6, rfl, rfl, hr6⟩ := h6
 refine ops_done (by kernel_rfl) ?_
 refine wp_seq ?_
 refine seqR ?_
 refine ops_rule (C := []) _ F6 2 [] 0 (fun φ7 => [(11, .bool (((idK t : Nat) : Int) == ((0 : Nat) : Int))), (10, .int .u64 (idK t))]) (fun φ7 => [(b, .cells #[v6, .int .i64 ((cnt + 2 : Nat) : Int)] 91), (φ1 0, .cells #[.bool bi, .pointer pi] 26)]) (fun φ7 => []) s trivial (fun φ7 => by kernel_rfl) ?_
 intro φ7 w7 s
 rw [nat_eql (a := (idK t)) (b := 0)]
 refine ops_done (by kernel_rfl) ?_
 rcases Bool.eq_false_or_eq_true (decide ((idK t) = 0)) with hc8 | hc8
 ·
  rw [hc8]
  refine cond_true_rule (b := true) (by kernel_rfl) rfl ?_
  refine seqR ?_
  refine ops_rule (C := []) _ F6 2 [.o 1, .o 1] 0 (fun φ9 => [(13, .agg #[.bool bi, .pointer pi]), (12, pB b)]) (fun φ9 => [(b, .cells #[v6, .int .i64 ((cnt + 2 : Nat) : Int)] 91), (φ1 0, .cells #[.bool bi, .pointer pi] 26)]) (fun φ9 => [φ1 0, φ1 0]) s trivial (fun φ9 => by kernel_rfl) ?_
  intro φ9 w9 s
  refine call_rule (some 14) s (leafBit_c ht) (by kernel_rfl) ?_
  intro v10 I10 w10 le10 h10 s
  replace ht := Ev.TRep.mono le10 ht
  obtain rfl := h10
  refine callH_rule (b := (b, .cells #[v6, .int .i64 ((cnt + 2 : Nat) : Int)] 91)) (F := F6) (Hr := [(φ1 0, .cells #[.bool bi, .pointer pi] 26)]) (some 15) 0 s (by kernel_rfl) (by kernel_rfl) (put_c (b := b) (cnt := cnt + 2) (bs := (bs ++ putBits (idK t) 2)) (v0 := v6) (n := lbT t) (k := 1) (by (try simp only [List.length_append, putBits_len]);  omega) (by have h7 := hlen; have h6 := congrArg List.length (idB_leaf (of_decide_eq_true hc8)); simp only [List.length_append, putBits_len] at h6; (try simp only [List.length_append, putBits_len]); omega) hr6 (by have hk4 := idK_lt t; have hk5 : lbT t < 2 := lbT_lt t; have hq0 := of_decide_eq_true hc8; omega) (by have hk4 := idK_lt t; have hk5 : lbT t < 2 := lbT_lt t; have hq0 := of_decide_eq_true hc8; omega)) (by kernel_rfl) ?_
  rintro v11 I11 w11 b11 F11 le11 - h11 s
  replace ht := Ev.TRep.mono le11 ht
  obtain ⟨v11, rfl, rfl, hr11⟩ := h11
  refine ops_done (by kernel_rfl) ?_
  refine wp_ret ?_
  refine ret_rule (C := []) _ F11 (.tuple #[]) [] [] s trivial (by kernel_rfl) ?_
  replace s := s.drop (List.Sublist.append (List.Sublist.cons₂ _ (List.Sublist.cons _ List.Sublist.slnil)) (List.Sublist.refl F11))
  have hz9 : ((bs ++ putBits (idK t) 2) ++ putBits (lbT t) 1) = bs ++ idB t := by
   rw [idB_leaf (of_decide_eq_true hc8), List.append_assoc]
  have hL9 := congrArg List.length hz9
  simp only [List.length_append, putBits_len] at hL9
  have hc9 : cnt + 2 + 1 = cnt + (idB t).length := (by omega)
  exact ⟨_, _, _, rfl, s, ⟨_, _, rfl, rfl, _, rfl, by rw [hc9], row_cast hr11 (congrArg pk hz9)⟩⟩
 ·
  rw [hc8]
  refine cond_false_rule (b := false) (by kernel_rfl) rfl ?_
  refine wp_skip ?_
  refine wp_seq ?_
  refine seqR ?_
  refine ops_rule (C := []) _ F6 2 [] 0 (fun φ12 => [(17, .bool (((idK t : Nat) : Int) != ((1 : Nat) : Int))), (16, .int .u64 (idK t))]) (fun φ12 => [(b, .cells #[v6, .int .i64 ((cnt + 2 : Nat) : Int)] 91), (φ1 0, .cells #[.bool bi, .pointer pi] 26)]) (fun φ12 => []) s trivial (fun φ12 => by kernel_rfl) ?_
  intro φ12 w12 s
  rw [nat_neq (a := (idK t)) (b := 1)]
  refine ops_done (by kernel_rfl) ?_
  rcases Bool.eq_false_or_eq_true (decide ((idK t) ≠ 1)) with hc13 | hc13
  ·
   rw [hc13]
   refine cond_true_rule (b := true) (by kernel_rfl) rfl ?_
   refine region_rule ?_
   refine ops_rule (C := []) _ F6 2 [.o 1, .o 1] 0 (fun φ14 => [(19, .agg #[.bool bi, .pointer pi]), (18, pB b)]) (fun φ14 => [(b, .cells #[v6, .int .i64 ((cnt + 2 : Nat) : Int)] 91), (φ1 0, .cells #[.bool bi, .pointer pi] 26)]) (fun φ14 => [φ1 0, φ1 0]) s trivial (fun φ14 => by kernel_rfl) ?_
   intro φ14 w14 s
   refine call_rule (some 20) s (Ev.tleft_c ht) (by kernel_rfl) ?_
   intro v15 I15 w15 le15 h15 s
   replace ht := Ev.TRep.mono le15 ht
   obtain ⟨b15, p15, rfl, h15_0⟩ := h15
   refine callH_rule (b := (b, .cells #[v6, .int .i64 ((cnt + 2 : Nat) : Int)] 91)) (F := F6) (Hr := [(φ1 0, .cells #[.bool bi, .pointer pi] 26)]) (some 21) 0 s (by kernel_rfl) (by kernel_rfl) (ihl (of_decide_eq_false hc8) (of_decide_eq_true hc13) (cnt := cnt + 2) (bs := (bs ++ putBits (idK t) 2)) (v0 := v6) h15_0 (by (try simp only [List.length_append, putBits_len]);  omega) (by have h7 := hlen; have h6 := congrArg List.length (idB_pair (of_decide_eq_false hc8)); rw [if_neg (of_decide_eq_true hc13)] at h6; simp only [List.length_append, putBits_len] at h6; (try simp only [List.length_append, putBits_len]); omega) hr6) (by kernel_rfl) ?_
   rintro v16 I16 w16 b16 F16 le16 - h16 s
   replace ht := Ev.TRep.mono le16 ht
   obtain ⟨v16, rfl, rfl, hr16⟩ := h16
   refine ops_done (by kernel_rfl) ?_
   refine seqR ?_
   refine ops_rule (C := []) _ F16 2 [] 0 (fun φ17 => [(23, .bool (((idK t : Nat) : Int) != ((2 : Nat) : Int))), (22, .int .u64 (idK t))]) (fun φ17 => [(b, .cells #[v16, .int .i64 ((cnt + 2 + (idB t.left).length : Nat) : Int)] 91), (φ1 0, .cells #[.bool bi, .pointer pi] 26)]) (fun φ17 => []) s trivial (fun φ17 => by kernel_rfl) ?_
   intro φ17 w17 s
   rw [nat_neq (a := (idK t)) (b := 2)]
   refine ops_done (by kernel_rfl) ?_
   rcases Bool.eq_false_or_eq_true (decide ((idK t) ≠ 2)) with hc18 | hc18
   ·
    rw [hc18]
    refine cond_true_rule (b := true) (by kernel_rfl) rfl ?_
    refine region_rule ?_
    refine ops_rule (C := []) _ F16 2 [.o 1, .o 1] 0 (fun φ19 => [(25, .agg #[.bool bi, .pointer pi]), (24, pB b)]) (fun φ19 => [(b, .cells #[v16, .int .i64 ((cnt + 2 + (idB t.left).length : Nat) : Int)] 91), (φ1 0, .cells #[.bool bi, .pointer pi] 26)]) (fun φ19 => [φ1 0, φ1 0]) s trivial (fun φ19 => by kernel_rfl) ?_
    intro φ19 w19 s
    refine call_rule (some 26) s (Ev.tright_c ht) (by kernel_rfl) ?_
    intro v20 I20 w20 le20 h20 s
    replace ht := Ev.TRep.mono le20 ht
    obtain ⟨b20, p20, rfl, h20_0⟩ := h20
    refine callH_rule (b := (b, .cells #[v16, .int .i64 ((cnt + 2 + (idB t.left).length : Nat) : Int)] 91)) (F := F16) (Hr := [(φ1 0, .cells #[.bool bi, .pointer pi] 26)]) (some 27) 0 s (by kernel_rfl) (by kernel_rfl) (ihr (of_decide_eq_false hc8) (of_decide_eq_true hc18) (cnt := cnt + 2 + (idB t.left).length) (bs := ((bs ++ putBits (idK t) 2) ++ idB t.left)) (v0 := v16) h20_0 (by (try simp only [List.length_append, putBits_len]);  omega) (by have h7 := hlen; have h6 := congrArg List.length (idB_pair (of_decide_eq_false hc8)); rw [if_neg (of_decide_eq_true hc13)] at h6; rw [if_neg (of_decide_eq_true hc18)] at h6; simp only [List.length_append, putBits_len] at h6; (try simp only [List.length_append, putBits_len]); omega) hr16) (by kernel_rfl) ?_
    rintro v21 I21 w21 b21 F21 le21 - h21 s
    replace ht := Ev.TRep.mono le21 ht
    obtain ⟨v21, rfl, rfl, hr21⟩ := h21
    refine ops_done (by kernel_rfl) ?_
    refine end_rule (C := []) _ F21 (.tuple #[]) [] [] s trivial (by kernel_rfl) ?_
    replace s := s.drop (List.Sublist.append (List.Sublist.cons₂ _ (List.Sublist.cons _ List.Sublist.slnil)) (List.Sublist.refl F21))
    have hz9 : (((bs ++ putBits (idK t) 2) ++ idB t.left) ++ idB t.right) = bs ++ idB t := by
     rw [idB_pair (of_decide_eq_false hc8), if_neg (of_decide_eq_true hc13), if_neg (of_decide_eq_true hc18)]
     simp
    have hL9 := congrArg List.length hz9
    simp only [List.length_append, putBits_len] at hL9
    have hc9 : cnt + 2 + (idB t.left).length + (idB t.right).length = cnt + (idB t).length := (by omega)
    exact ⟨_, _, _, rfl, s, ⟨_, _, rfl, rfl, _, rfl, by rw [hc9], row_cast hr21 (congrArg pk hz9)⟩⟩
   ·
    rw [hc18]
    refine cond_false_rule (b := false) (by kernel_rfl) rfl ?_
    refine wp_skip ?_
    refine end_rule (C := []) _ F16 (.tuple #[]) [] [] s trivial (by kernel_rfl) ?_
    replace s := s.drop (List.Sublist.append (List.Sublist.cons₂ _ (List.Sublist.cons _ List.Sublist.slnil)) (List.Sublist.refl F16))
    have hz9 : ((bs ++ putBits (idK t) 2) ++ idB t.left) = bs ++ idB t := by
     rw [idB_pair (of_decide_eq_false hc8), if_neg (of_decide_eq_true hc13), if_pos (Decidable.not_not.1 (of_decide_eq_false hc18))]
     simp
    have hL9 := congrArg List.length hz9
    simp only [List.length_append, putBits_len] at hL9
    have hc9 : cnt + 2 + (idB t.left).length = cnt + (idB t).length := (by omega)
    exact ⟨_, _, _, rfl, s, ⟨_, _, rfl, rfl, _, rfl, by rw [hc9], row_cast hr16 (congrArg pk hz9)⟩⟩
  ·
   rw [hc13]
   refine cond_false_rule (b := false) (by kernel_rfl) rfl ?_
   refine wp_skip ?_
   refine seqR ?_
   refine ops_rule (C := []) _ F6 2 [] 0 (fun φ22 => [(23, .bool (((idK t : Nat) : Int) != ((2 : Nat) : Int))), (22, .int .u64 (idK t))]) (fun φ22 => [(b, .cells #[v6, .int .i64 ((cnt + 2 : Nat) : Int)] 91), (φ1 0, .cells #[.bool bi, .pointer pi] 26)]) (fun φ22 => []) s trivial (fun φ22 => by kernel_rfl) ?_
   intro φ22 w22 s
   rw [nat_neq (a := (idK t)) (b := 2)]
   refine ops_done (by kernel_rfl) ?_
   rcases Bool.eq_false_or_eq_true (decide ((idK t) ≠ 2)) with hc23 | hc23
   ·
    rw [hc23]
    refine cond_true_rule (b := true) (by kernel_rfl) rfl ?_
    refine region_rule ?_
    refine ops_rule (C := []) _ F6 2 [.o 1, .o 1] 0 (fun φ24 => [(25, .agg #[.bool bi, .pointer pi]), (24, pB b)]) (fun φ24 => [(b, .cells #[v6, .int .i64 ((cnt + 2 : Nat) : Int)] 91), (φ1 0, .cells #[.bool bi, .pointer pi] 26)]) (fun φ24 => [φ1 0, φ1 0]) s trivial (fun φ24 => by kernel_rfl) ?_
    intro φ24 w24 s
    refine call_rule (some 26) s (Ev.tright_c ht) (by kernel_rfl) ?_
    intro v25 I25 w25 le25 h25 s
    obtain ⟨b25, p25, rfl, h25_0⟩ := h25
    refine callH_rule (b := (b, .cells #[v6, .int .i64 ((cnt + 2 : Nat) : Int)] 91)) (F := F6) (Hr := [(φ1 0, .cells #[.bool bi, .pointer pi] 26)]) (some 27) 0 s (by kernel_rfl) (by kernel_rfl) (ihr (of_decide_eq_false hc8) (of_decide_eq_true hc23) (cnt := cnt + 2) (bs := (bs ++ putBits (idK t) 2)) (v0 := v6) h25_0 (by (try simp only [List.length_append, putBits_len]);  omega) (by have h7 := hlen; have h6 := congrArg List.length (idB_pair (of_decide_eq_false hc8)); rw [if_pos (Decidable.not_not.1 (of_decide_eq_false hc13))] at h6; rw [if_neg (of_decide_eq_true hc23)] at h6; simp only [List.length_append, putBits_len] at h6; (try simp only [List.length_append, putBits_len]); omega) hr6) (by kernel_rfl) ?_
    rintro v26 I26 w26 b26 F26 le26 - h26 s
    obtain ⟨v26, rfl, rfl, hr26⟩ := h26
    refine ops_done (by kernel_rfl) ?_
    refine end_rule (C := []) _ F26 (.tuple #[]) [] [] s trivial (by kernel_rfl) ?_
    replace s := s.drop (List.Sublist.append (List.Sublist.cons₂ _ (List.Sublist.cons _ List.Sublist.slnil)) (List.Sublist.refl F26))
    have hz9 : ((bs ++ putBits (idK t) 2) ++ idB t.right) = bs ++ idB t := by
     rw [idB_pair (of_decide_eq_false hc8), if_pos (Decidable.not_not.1 (of_decide_eq_false hc13)), if_neg (of_decide_eq_true hc23)]
     simp
    have hL9 := congrArg List.length hz9
    simp only [List.length_append, putBits_len] at hL9
    have hc9 : cnt + 2 + (idB t.right).length = cnt + (idB t).length := (by omega)
    exact ⟨_, _, _, rfl, s, ⟨_, _, rfl, rfl, _, rfl, by rw [hc9], row_cast hr26 (congrArg pk hz9)⟩⟩
   ·
    rw [hc23]
    refine cond_false_rule (b := false) (by kernel_rfl) rfl ?_
    refine wp_skip ?_
    refine end_rule (C := []) _ F6 (.tuple #[]) [] [] s trivial (by kernel_rfl) ?_
    replace s := s.drop (List.Sublist.append (List.Sublist.cons₂ _ (List.Sublist.cons _ List.Sublist.slnil)) (List.Sublist.refl F6))
    have hz9 : (bs ++ putBits (idK t) 2) = bs ++ idB t := by
     rw [idB_pair (of_decide_eq_false hc8), if_pos (Decidable.not_not.1 (of_decide_eq_false hc13)), if_pos (Decidable.not_not.1 (of_decide_eq_false hc23))]
     simp
    have hL9 := congrArg List.length hz9
    simp only [List.length_append, putBits_len] at hL9
    have hc9 : cnt + 2 = cnt + (idB t).length := (by omega)
    exact ⟨_, _, _, rfl, s, ⟨_, _, rfl, rfl, _, rfl, by rw [hc9], row_cast hr6 (congrArg pk hz9)⟩⟩

end Go.Proofs.Ytgmigcmhnmmdkaa
/- Events are written. -/
set_option linter.all false
set_option maxRecDepth 100000
namespace Go.Proofs.Ytgmigcmhnmmdkaa
open Go.RowKit Go.Sep
attribute [local irreducible] Go.wpList Go.Code.wp

theorem putID_c : ∀ (t : Ev.T) {I : IM} {bi : Bool} {pi : Option Addr} {b cnt : Nat} {bs : List Bool} {v0 : Value} {F : List OB}, Ev.TRep I t bi pi → cnt = bs.length → bs.length + (idB t).length ≤ 700000 → RowH 5 1 v0 (pk bs).length ((pk bs).map bV) F → FunM Try.prog 24 #[.pointer (some ⟨b, 0, none⟩), .agg #[.bool bi, .pointer pi]] I ((b, .cells #[v0, .int .i64 ((cnt : Nat) : Int)] 91) :: F) (fun v J H' => ∃ (b' : OB) (F' : List OB), H' = b' :: F' ∧ b'.1 = b ∧ ∃ v', v = .tuple #[] ∧ b' = (b, .cells #[v', .int .i64 ((cnt + (idB t).length : Nat) : Int)] 91) ∧ RowH 5 1 v' (pk (bs ++ idB t)).length ((pk (bs ++ idB t)).map bV) F')
  | .zero, _, _, _, _, _, _, _, _, ht, hc, hlen, h => putID_step ht hc hlen h (fun q => absurd rfl q) (fun q => absurd rfl q)
  | .one, _, _, _, _, _, _, _, _, ht, hc, hlen, h => putID_step ht hc hlen h (fun q => absurd rfl q) (fun q => absurd rfl q)
  | .node l r, _, _, _, _, _, _, _, _, ht, hc, hlen, h => putID_step ht hc hlen h (fun _ _ {J} {b1} {p1} {cnt} {bs} {v0} {F} a1 a2 a3 a4 => putID_c l a1 a2 a3 a4) (fun _ _ {J} {b1} {p1} {cnt} {bs} {v0} {F} a1 a2 a3 a4 => putID_c r a1 a2 a3 a4)

set_option maxHeartbeats 400000 in
theorem isNought_c {I : IM} {e : Ev.E} {be : Nat} {pe : Option Addr} (he : Ev.ERep I e be pe) (htop : e.top < 18446744073709551616) : Fun Try.prog 82 #[.agg #[.int .u64 ((be : Nat) : Int), .pointer pe]] I (fun v J => v = .bool (decide (e.top = 0))) := by
 refine enter_rule 6 [(0, .agg #[.int .u64 be, .pointer pe])] Try.func82 rfl (by kernel_rfl) ?_
 intro w s
 refine seqR ?_
 refine ops_rule (C := []) [] [] 2 [] 1 (fun φ1 => [(2, .bool false), (1, pB (φ1 0))]) (fun φ1 => [(φ1 0, .cells #[.int .u64 be, .pointer pe] 30)]) (fun φ1 => []) s trivial (fun φ1 => by kernel_rfl) ?_
 intro φ1 w1 s
 refine ops_done (by kernel_rfl) ?_
 refine seqR ?_
 refine ops_rule (C := []) _ [] 1 [.o 0, .o 0] 0 (fun φ2 => [(3, .agg #[.int .u64 be, .pointer pe])]) (fun φ2 => [(φ1 0, .cells #[.int .u64 be, .pointer pe] 30)]) (fun φ2 => [φ1 0, φ1 0]) s trivial (fun φ2 => by kernel_rfl) ?_
 intro φ2 w2 s
 refine call_rule (some 4) s (Ev.max_c he (htop)) (by kernel_rfl) ?_
 intro v3 I3 w3 le3 h3 s
 obtain rfl := h3
 refine ops_rule (C := []) _ [] 2 [] 0 (fun φ4 => [(2, .bool (((e.top : Nat) : Int) == ((0 : Nat) : Int))), (5, .bool (((e.top : Nat) : Int) == ((0 : Nat) : Int)))]) (fun φ4 => [(φ1 0, .cells #[.int .u64 be, .pointer pe] 30)]) (fun φ4 => []) s trivial (fun φ4 => by kernel_rfl) ?_
 intro φ4 w4 s
 rw [nat_eql (a := e.top) (b := 0)]
 refine ops_done (by kernel_rfl) ?_
 refine wp_ret ?_
 refine ret_rule (C := []) _ [] (.bool (decide (e.top = 0))) [] [] s trivial (by kernel_rfl) ?_
 exact ⟨_, _, _, rfl, s, rfl⟩

set_option maxHeartbeats 400000 in
theorem halvesKind_c {I : IM} {e e2 : Ev.E} {be be2 : Nat} {pe pe2 : Option Addr} (he : Ev.ERep I e be pe) (he2 : Ev.ERep I e2 be2 pe2) (htop : e.top < 18446744073709551616) (htop2 : e2.top < 18446744073709551616) : Fun Try.prog 51 #[.agg #[.int .u64 ((be : Nat) : Int), .pointer pe], .agg #[.int .u64 ((be2 : Nat) : Int), .pointer pe2]] I (fun v J => v = .int .u64 ((kindE e e2 : Nat) : Int)) := by
 refine enter_rule 11 [(0, .agg #[.int .u64 be, .pointer pe]), (1, .agg #[.int .u64 be2, .pointer pe2])] Try.func51 rfl (by kernel_rfl) ?_
 intro w s
 refine seqR ?_
 refine ops_rule (C := []) [] [] 3 [] 2 (fun φ1 => [(4, .int .u64 0), (3, pB (φ1 1)), (2, pB (φ1 0))]) (fun φ1 => [(φ1 0, .cells #[.int .u64 be, .pointer pe] 30), (φ1 1, .cells #[.int .u64 be2, .pointer pe2] 30)]) (fun φ1 => []) s trivial (fun φ1 => by kernel_rfl) ?_
 intro φ1 w1 s
 refine ops_done (by kernel_rfl) ?_
 refine wp_seq ?_
 refine wp_block ?_
 refine seqR ?_
 refine ops_rule (C := []) _ [] 1 [.o 0, .o 0] 0 (fun φ2 => [(6, .agg #[.int .u64 be, .pointer pe])]) (fun φ2 => [(φ1 0, .cells #[.int .u64 be, .pointer pe] 30), (φ1 1, .cells #[.int .u64 be2, .pointer pe2] 30)]) (fun φ2 => [φ1 0, φ1 0]) s trivial (fun φ2 => by kernel_rfl) ?_
 intro φ2 w2 s
 refine call_rule (some 7) s (isNought_c he (htop)) (by kernel_rfl) ?_
 intro v3 I3 w3 le3 h3 s
 replace he2 := Ev.ERep.mono le3 he2
 obtain rfl := h3
 refine ops_rule (C := []) _ [] 1 [] 0 (fun φ4 => [(5, .bool (decide (e.top = 0)))]) (fun φ4 => [(φ1 0, .cells #[.int .u64 be, .pointer pe] 30), (φ1 1, .cells #[.int .u64 be2, .pointer pe2] 30)]) (fun φ4 => []) s trivial (fun φ4 => by kernel_rfl) ?_
 intro φ4 w4 s
 refine ops_done (by kernel_rfl) ?_
 rcases Bool.eq_false_or_eq_true (decide (e.top = 0)) with hc5 | hc5
 ·
  rw [hc5]
  refine cond_true_rule (b := true) (by kernel_rfl) rfl ?_
  refine seqR ?_
  refine ops_rule (C := []) _ [] 1 [] 0 (fun φ6 => [(4, .int .u64 0)]) (fun φ6 => [(φ1 0, .cells #[.int .u64 be, .pointer pe] 30), (φ1 1, .cells #[.int .u64 be2, .pointer pe2] 30)]) (fun φ6 => []) s trivial (fun φ6 => by kernel_rfl) ?_
  intro φ6 w6 s
  refine ops_done (by kernel_rfl) ?_
  refine wp_ret ?_
  refine ret_rule (C := []) _ [] (.int .u64 0) [] [] s trivial (by kernel_rfl) ?_
  exact ⟨_, _, _, rfl, s, (by unfold kindE; rw [if_pos (of_decide_eq_true hc5)]; rfl)⟩
 ·
  rw [hc5]
  refine cond_false_rule (b := false) (by kernel_rfl) rfl ?_
  refine seqR ?_
  refine ops_rule (C := []) _ [] 1 [.o 1, .o 1] 0 (fun φ7 => [(9, .agg #[.int .u64 be2, .pointer pe2])]) (fun φ7 => [(φ1 0, .cells #[.int .u64 be, .pointer pe] 30), (φ1 1, .cells #[.int .u64 be2, .pointer pe2] 30)]) (fun φ7 => [φ1 1, φ1 1]) s trivial (fun φ7 => by kernel_rfl) ?_
  intro φ7 w7 s
  refine call_rule (some 10) s (isNought_c he2 (htop2)) (by kernel_rfl) ?_
  intro v8 I8 w8 le8 h8 s
  obtain rfl := h8
  refine ops_rule (C := []) _ [] 1 [] 0 (fun φ9 => [(8, .bool (decide (e2.top = 0)))]) (fun φ9 => [(φ1 0, .cells #[.int .u64 be, .pointer pe] 30), (φ1 1, .cells #[.int .u64 be2, .pointer pe2] 30)]) (fun φ9 => []) s trivial (fun φ9 => by kernel_rfl) ?_
  intro φ9 w9 s
  refine ops_done (by kernel_rfl) ?_
  rcases Bool.eq_false_or_eq_true (decide (e2.top = 0)) with hc10 | hc10
  ·
   rw [hc10]
   refine cond_true_rule (b := true) (by kernel_rfl) rfl ?_
   refine seqR ?_
   refine ops_rule (C := []) _ [] 1 [] 0 (fun φ11 => [(4, .int .u64 1)]) (fun φ11 => [(φ1 0, .cells #[.int .u64 be, .pointer pe] 30), (φ1 1, .cells #[.int .u64 be2, .pointer pe2] 30)]) (fun φ11 => []) s trivial (fun φ11 => by kernel_rfl) ?_
   intro φ11 w11 s
   refine ops_done (by kernel_rfl) ?_
   refine wp_ret ?_
   refine ret_rule (C := []) _ [] (.int .u64 1) [] [] s trivial (by kernel_rfl) ?_
   exact ⟨_, _, _, rfl, s, (by unfold kindE; rw [if_neg (of_decide_eq_false hc5)]; rw [if_pos (of_decide_eq_true hc10)]; rfl)⟩
  ·
   rw [hc10]
   refine cond_false_rule (b := false) (by kernel_rfl) rfl ?_
   refine wp_skip ?_
   refine seqR ?_
   refine ops_rule (C := []) _ [] 1 [] 0 (fun φ12 => [(4, .int .u64 2)]) (fun φ12 => [(φ1 0, .cells #[.int .u64 be, .pointer pe] 30), (φ1 1, .cells #[.int .u64 be2, .pointer pe2] 30)]) (fun φ12 => []) s trivial (fun φ12 => by kernel_rfl) ?_
   intro φ12 w12 s
   refine ops_done (by kernel_rfl) ?_
   refine wp_ret ?_
   refine ret_rule (C := []) _ [] (.int .u64 2) [] [] s trivial (by kernel_rfl) ?_
   exact ⟨_, _, _, rfl, s, (by unfold kindE; rw [if_neg (of_decide_eq_false hc5)]; rw [if_neg (of_decide_eq_false hc10)]; rfl)⟩

set_option maxHeartbeats 2000000 in
theorem putHead_c {I : IM} {b cnt : Nat} {bs : List Bool} {v0 : Value} {F : List OB} (hc : cnt = bs.length) (hlen : bs.length ≤ 750000) (h : RowH 5 1 v0 (pk bs).length ((pk bs).map bV) F) {k n : Nat} (hk : k < 3) (hn : n < 18446744073709551616) : FunM Try.prog 52 #[.pointer (some ⟨b, 0, none⟩), .int .u64 ((k : Nat) : Int), .int .u64 ((n : Nat) : Int)] I ((b, .cells #[v0, .int .i64 ((cnt : Nat) : Int)] 91) :: F) (fun v J H' => ∃ (b' : OB) (F' : List OB), H' = b' :: F' ∧ b'.1 = b ∧ ∃ v', v = .tuple #[] ∧ b' = (b, .cells #[v', .int .i64 ((cnt + (headB n k).length : Nat) : Int)] 91) ∧ RowH 5 1 v' (pk (bs ++ headB n k)).length ((pk (bs ++ headB n k)).map bV) F') := by
 refine enterM_rule 25 [(0, pB b), (1, .int .u64 k), (2, .int .u64 n)] Try.func52 rfl (by kernel_rfl) ?_
 intro w s
 refine wp_seq ?_
 refine seqR ?_
 refine ops_rule (C := []) [(b, .cells #[v0, .int .i64 cnt] 91)] F 2 [] 0 (fun φ1 => [(7, .bool (((n : Nat) : Int) == ((0 : Nat) : Int))), (6, .int .u64 n)]) (fun φ1 => [(b, .cells #[v0, .int .i64 cnt] 91)]) (fun φ1 => []) s trivial (fun φ1 => by kernel_rfl) ?_
 intro φ1 w1 s
 rw [nat_eql (a := n) (b := 0)]
 refine ops_done (by kernel_rfl) ?_
 rcases Bool.eq_false_or_eq_true (decide (n = 0)) with hc2 | hc2
 ·
  rw [hc2]
  refine cond_true_rule (b := true) (by kernel_rfl) rfl ?_
  refine seqR ?_
  refine ops_rule (C := []) _ F 2 [] 0 (fun φ3 => [(9, .int .u64 k), (8, pB b)]) (fun φ3 => [(b, .cells #[v0, .int .i64 cnt] 91)]) (fun φ3 => []) s trivial (fun φ3 => by kernel_rfl) ?_
  intro φ3 w3 s
  refine callH_rule (b := (b, .cells #[v0, .int .i64 cnt] 91)) (F := F) (Hr := []) (some 10) 0 s (by kernel_rfl) (by kernel_rfl) (put_c (b := b) (cnt := cnt) (bs := bs) (v0 := v0) (n := k) (k := 2) (by (try simp only [List.length_append, putBits_len]); omega) (by (try simp only [List.length_append, putBits_len]); omega) h (by  have hq0 := of_decide_eq_true hc2; omega) (by  have hq0 := of_decide_eq_true hc2; omega)) (by kernel_rfl) ?_
  rintro v4 I4 w4 b4 F4 le4 - h4 s
  obtain ⟨v4, rfl, rfl, hr4⟩ := h4
  refine ops_done (by kernel_rfl) ?_
  refine wp_ret ?_
  refine ret_rule (C := []) _ F4 (.tuple #[]) [] [] s trivial (by kernel_rfl) ?_
  replace s := s.drop (List.Sublist.append (List.Sublist.cons₂ _ List.Sublist.slnil) (List.Sublist.refl F4))
  have hz9 : (bs ++ putBits k 2) = bs ++ headB n k := (by unfold headB; rw [if_pos (of_decide_eq_true hc2)]; (try simp only [List.append_assoc]))
  have hL9 := congrArg List.length hz9
  simp only [List.length_append, putBits_len] at hL9
  have hc9 : cnt + 2 = cnt + (headB n k).length := (by omega)
  exact ⟨_, _, _, rfl, s, ⟨_, _, rfl, rfl, _, rfl, by rw [hc9], row_cast hr4 (congrArg pk hz9)⟩⟩
 ·
  rw [hc2]
  refine cond_false_rule (b := false) (by kernel_rfl) rfl ?_
  refine wp_skip ?_
  refine seqR ?_
  refine ops_rule (C := []) _ F 1 [] 0 (fun φ5 => [(11, pB b)]) (fun φ5 => [(b, .cells #[v0, .int .i64 cnt] 91)]) (fun φ5 => []) s trivial (fun φ5 => by kernel_rfl) ?_
  intro φ5 w5 s
  refine callH_rule (b := (b, .cells #[v0, .int .i64 cnt] 91)) (F := F) (Hr := []) (some 12) 0 s (by kernel_rfl) (by kernel_rfl) (put_c (b := b) (cnt := cnt) (bs := bs) (v0 := v0) (n := 3) (k := 2) (by (try simp only [List.length_append, putBits_len]); omega) (by (try simp only [List.length_append, putBits_len]); omega) h (by  have hq0 := of_decide_eq_false hc2; omega) (by  have hq0 := of_decide_eq_false hc2; omega)) (by kernel_rfl) ?_
  rintro v6 I6 w6 b6 F6 le6 - h6 s
  obtain ⟨v6, rfl, rfl, hr6⟩ := h6
  refine ops_done (by kernel_rfl) ?_
  refine wp_seq ?_
  refine seqR ?_
  refine ops_rule (C := []) _ F6 2 [] 0 (fun φ7 => [(14, .bool (((k : Nat) : Int) == ((2 : Nat) : Int))), (13, .int .u64 k)]) (fun φ7 => [(b, .cells #[v6, .int .i64 ((cnt + 2 : Nat) : Int)] 91)]) (fun φ7 => []) s trivial (fun φ7 => by kernel_rfl) ?_
  intro φ7 w7 s
  rw [nat_eql (a := k) (b := 2)]
  refine ops_done (by kernel_rfl) ?_
  rcases Bool.eq_false_or_eq_true (decide (k = 2)) with hc8 | hc8
  ·
   rw [hc8]
   refine cond_true_rule (b := true) (by kernel_rfl) rfl ?_
   refine region_rule ?_
   refine ops_rule (C := []) _ F6 1 [] 0 (fun φ9 => [(15, pB b)]) (fun φ9 => [(b, .cells #[v6, .int .i64 ((cnt + 2 : Nat) : Int)] 91)]) (fun φ9 => []) s trivial (fun φ9 => by kernel_rfl) ?_
   intro φ9 w9 s
   refine callH_rule (b := (b, .cells #[v6, .int .i64 ((cnt + 2 : Nat) : Int)] 91)) (F := F6) (Hr := []) (some 16) 0 s (by kernel_rfl) (by kernel_rfl) (put_c (b := b) (cnt := cnt + 2) (bs := (bs ++ putBits 3 2)) (v0 := v6) (n := 1) (k := 1) (by (try simp only [List.length_append, putBits_len]); omega) (by (try simp only [List.length_append, putBits_len]); omega) hr6 (by  have hq0 := of_decide_eq_false hc2; have hq1 := of_decide_eq_true hc8; omega) (by  have hq0 := of_decide_eq_false hc2; have hq1 := of_decide_eq_true hc8; omega)) (by kernel_rfl) ?_
   rintro v10 I10 w10 b10 F10 le10 - h10 s
   obtain ⟨v10, rfl, rfl, hr10⟩ := h10
   refine ops_done (by kernel_rfl) ?_
   refine region_rule ?_
   refine ops_rule (C := []) _ F10 2 [] 0 (fun φ11 => [(23, .int .u64 n), (22, pB b)]) (fun φ11 => [(b, .cells #[v10, .int .i64 ((cnt + 2 + 1 : Nat) : Int)] 91)]) (fun φ11 => []) s trivial (fun φ11 => by kernel_rfl) ?_
   intro φ11 w11 s
   refine callH_rule (b := (b, .cells #[v10, .int .i64 ((cnt + 2 + 1 : Nat) : Int)] 91)) (F := F10) (Hr := []) (some 24) 0 s (by kernel_rfl) (by kernel_rfl) (num_c (b := b) (cnt := cnt + 2 + 1) (bs := ((bs ++ putBits 3 2) ++ putBits 1 1)) (v0 := v10) (n := n) (by (try simp only [List.length_append, putBits_len]); omega) (by (try simp only [List.length_append, putBits_len]); omega) hr10 (hn)) (by kernel_rfl) ?_
   rintro v12 I12 w12 b12 F12 le12 - h12 s
   obtain ⟨v12, rfl, rfl, hr12⟩ := h12
   refine ops_done (by kernel_rfl) ?_
   refine end_rule (C := []) _ F12 (.tuple #[]) [] [] s trivial (by kernel_rfl) ?_
   replace s := s.drop (List.Sublist.append (List.Sublist.cons₂ _ List.Sublist.slnil) (List.Sublist.refl F12))
   have hz9 : (((bs ++ putBits 3 2) ++ putBits 1 1) ++ numW 62 2 n) = bs ++ headB n k := (by unfold headB; rw [if_neg (of_decide_eq_false hc2)]; rw [if_pos (of_decide_eq_true hc8)]; (try simp only [List.append_assoc]))
   have hL9 := congrArg List.length hz9
   simp only [List.length_append, putBits_len] at hL9
   have hc9 : cnt + 2 + 1 + (numW 62 2 n).length = cnt + (headB n k).length := (by omega)
   exact ⟨_, _, _, rfl, s, ⟨_, _, rfl, rfl, _, rfl, by rw [hc9], row_cast hr12 (congrArg pk hz9)⟩⟩
  ·
   rw [hc8]
   refine cond_false_rule (b := false) (by kernel_rfl) rfl ?_
   refine seqR ?_
   refine ops_rule (C := []) _ F6 1 [] 0 (fun φ13 => [(17, pB b)]) (fun φ13 => [(b, .cells #[v6, .int .i64 ((cnt + 2 : Nat) : Int)] 91)]) (fun φ13 => []) s trivial (fun φ13 => by kernel_rfl) ?_
   intro φ13 w13 s
   refine callH_rule (b := (b, .cells #[v6, .int .i64 ((cnt + 2 : Nat) : Int)] 91)) (F := F6) (Hr := []) (some 18) 0 s (by kernel_rfl) (by kernel_rfl) (put_c (b := b) (cnt := cnt + 2) (bs := (bs ++ putBits 3 2)) (v0 := v6) (n := 0) (k := 1) (by (try simp only [List.length_append, putBits_len]); omega) (by (try simp only [List.length_append, putBits_len]); omega) hr6 (by  have hq0 := of_decide_eq_false hc2; have hq1 := of_decide_eq_false hc8; omega) (by  have hq0 := of_decide_eq_false hc2; have hq1 := of_decide_eq_false hc8; omega)) (by kernel_rfl) ?_
   rintro v14 I14 w14 b14 F14 le14 - h14 s
   obtain ⟨v14, rfl, rfl, hr14⟩ := h14
   refine ops_done (by kernel_rfl) ?_
   refine region_rule ?_
   refine ops_rule (C := []) _ F14 2 [] 0 (fun φ15 => [(20, .int .u64 k), (19, pB b)]) (fun φ15 => [(b, .cells #[v14, .int .i64 ((cnt + 2 + 1 : Nat) : Int)] 91)]) (fun φ15 => []) s trivial (fun φ15 => by kernel_rfl) ?_
   intro φ15 w15 s
   refine callH_rule (b := (b, .cells #[v14, .int .i64 ((cnt + 2 + 1 : Nat) : Int)] 91)) (F := F14) (Hr := []) (some 21) 0 s (by kernel_rfl) (by kernel_rfl) (put_c (b := b) (cnt := cnt + 2 + 1) (bs := ((bs ++ putBits 3 2) ++ putBits 0 1)) (v0 := v14) (n := k) (k := 1) (by (try simp only [List.length_append, putBits_len]); omega) (by (try simp only [List.length_append, putBits_len]); omega) hr14 (by  have hq0 := of_decide_eq_false hc2; have hq1 := of_decide_eq_false hc8; omega) (by  have hq0 := of_decide_eq_false hc2; have hq1 := of_decide_eq_false hc8; omega)) (by kernel_rfl) ?_
   rintro v16 I16 w16 b16 F16 le16 - h16 s
   obtain ⟨v16, rfl, rfl, hr16⟩ := h16
   refine ops_done (by kernel_rfl) ?_
   refine region_rule ?_
   refine ops_rule (C := []) _ F16 2 [] 0 (fun φ17 => [(23, .int .u64 n), (22, pB b)]) (fun φ17 => [(b, .cells #[v16, .int .i64 ((cnt + 2 + 1 + 1 : Nat) : Int)] 91)]) (fun φ17 => []) s trivial (fun φ17 => by kernel_rfl) ?_
   intro φ17 w17 s
   refine callH_rule (b := (b, .cells #[v16, .int .i64 ((cnt + 2 + 1 + 1 : Nat) : Int)] 91)) (F := F16) (Hr := []) (some 24) 0 s (by kernel_rfl) (by kernel_rfl) (num_c (b := b) (cnt := cnt + 2 + 1 + 1) (bs := (((bs ++ putBits 3 2) ++ putBits 0 1) ++ putBits k 1)) (v0 := v16) (n := n) (by (try simp only [List.length_append, putBits_len]); omega) (by (try simp only [List.length_append, putBits_len]); omega) hr16 (hn)) (by kernel_rfl) ?_
   rintro v18 I18 w18 b18 F18 le18 - h18 s
   obtain ⟨v18, rfl, rfl, hr18⟩ := h18
   refine ops_done (by kernel_rfl) ?_
   refine end_rule (C := []) _ F18 (.tuple #[]) [] [] s trivial (by kernel_rfl) ?_
   replace s := s.drop (List.Sublist.append (List.Sublist.cons₂ _ List.Sublist.slnil) (List.Sublist.refl F18))
   have hz9 : ((((bs ++ putBits 3 2) ++ putBits 0 1) ++ putBits k 1) ++ numW 62 2 n) = bs ++ headB n k := (by unfold headB; rw [if_neg (of_decide_eq_false hc2)]; rw [if_neg (of_decide_eq_false hc8)]; (try simp only [List.append_assoc]))
   have hL9 := congrArg List.length hz9
   simp only [List.length_append, putBits_len] at hL9
   have hc9 : cnt + 2 + 1 + 1 + (numW 62 2 n).length = cnt + (headB n k).length := (by omega)
   exact ⟨_, _, _, rfl, s, ⟨_, _, rfl, rfl, _, rfl, by rw [hc9], row_cast hr18 (congrArg pk hz9)⟩⟩

theorem half_lt {e : Ev.E} (h : e.top < 18446744073709551616) : e.left.top < 18446744073709551616 ∧ e.right.top < 18446744073709551616 ∧ e.base < 18446744073709551616 := by
  cases e with
  | leaf n => exact ⟨show 0 < _ by omega, show 0 < _ by omega, h⟩
  | node n l r => have h1 : n + max l.top r.top < 18446744073709551616 := h; exact ⟨show l.top < _ by omega, show r.top < _ by omega, show n < _ by omega⟩

set_option maxHeartbeats 2000000 in
theorem putEvent_step {I : IM} {e : Ev.E} {be : Nat} {pe : Option Addr} (he : Ev.ERep I e be pe) (htop : e.top < 18446744073709551616) {b cnt : Nat} {bs : List Bool} {v0 : Value} {F : List OB} (hc : cnt = bs.length) (hlen : bs.length + (evB e).length ≤ 700000) (h : RowH 5 1 v0 (pk bs).length ((pk bs).map bV) F) (ihl : (e.isLeaf = false → kindE e.left e.right ≠ 0 → ∀ {J : IM} {b1 : Nat} {p1 : Option Addr} {cnt : Nat} {bs : List Bool} {v0 : Value} {F : List OB}, Ev.ERep J e.left b1 p1 → cnt = bs.length → bs.length + (evB e.left).length ≤ 700000 → RowH 5 1 v0 (pk bs).length ((pk bs).map bV) F → FunM Try.prog 23 #[.pointer (some ⟨b, 0, none⟩), .agg #[.int .u64 ((b1 : Nat) : Int), .pointer p1]] J ((b, .cells #[v0, .int .i64 ((cnt : Nat) : Int)] 91) :: F) (fun v J H' => ∃ (b' : OB) (F' : List OB), H' = b' :: F' ∧ b'.1 = b ∧ ∃ v', v = .tuple #[] ∧ b' = (b, .cells #[v', .int .i64 ((cnt + (evB e.left).length : Nat) : Int)] 91) ∧ RowH 5 1 v' (pk (bs ++ evB e.left)).length ((pk (bs ++ evB e.left)).map bV) F'))) (ihr : (e.isLeaf = false → kindE e.left e.right ≠ 1 → ∀ {J : IM} {b1 : Nat} {p1 : Option Addr} {cnt : Nat} {bs : List Bool} {v0 : Value} {F : List OB}, Ev.ERep J e.right b1 p1 → cnt = bs.length → bs.length + (evB e.right).length ≤ 700000 → RowH 5 1 v0 (pk bs).length ((pk bs).map bV) F → FunM Try.prog 23 #[.pointer (some ⟨b, 0, none⟩), .agg #[.int .u64 ((b1 : Nat) : Int), .pointer p1]] J ((b, .cells #[v0, .int .i64 ((cnt : Nat) : Int)] 91) :: F) (fun v J H' => ∃ (b' : OB) (F' : List OB), H' = b' :: F' ∧ b'.1 = b ∧ ∃ v', v = .tuple #[] ∧ b' = (b, .cells #[v', .int .i64 ((cnt + (evB e.right).length : Nat) : Int)] 91) ∧ RowH 5 1 v' (pk (bs ++ evB e.right)).length ((pk (bs ++ evB e.right)).map bV) F'))) : FunM Try.prog 23 #[.pointer (some ⟨b, 0, none⟩), .agg #[.int .u64 ((be : Nat) : Int), .pointer pe]] I ((b, .cells #[v0, .int .i64 ((cnt : Nat) : Int)] 91) :: F) (fun v J H' => ∃ (b' : OB) (F' : List OB), H' = b' :: F' ∧ b'.1 = b ∧ ∃ v', v = .tuple #[] ∧ b' = (b, .cells #[v', .int .i64 ((cnt + (evB e).length : Nat) : Int)] 91) ∧ RowH 5 1 v' (pk (bs ++ evB e)).length ((pk (bs ++ evB e)).map bV) F') := by
 have hbe := Ev.ERep.base he
 obtain ⟨htl, htr, hbn⟩ := half_lt htop
 rw [← hbe] at hbn
 refine enterM_rule 39 [(0, pB b), (1, .agg #[.int .u64 be, .pointer pe])] Try.func23 rfl (by kernel_rfl) ?_
 intro w s
 refine seqR ?_
 refine ops_rule (C := []) [(b, .cells #[v0, .int .i64 cnt] 91)] F 1 [] 1 (fun φ1 => [(3, pB (φ1 0))]) (fun φ1 => [(b, .cells #[v0, .int .i64 cnt] 91), (φ1 0, .cells #[.int .u64 be, .pointer pe] 30)]) (fun φ1 => []) s trivial (fun φ1 => by kernel_rfl) ?_
 intro φ1 w1 s
 refine ops_done (by kernel_rfl) ?_
 refine wp_seq ?_
 refine seqR ?_
 refine ops_rule (C := []) _ F 1 [.o 1, .o 1] 0 (fun φ2 => [(7, .agg #[.int .u64 be, .pointer pe])]) (fun φ2 => [(b, .cells #[v0, .int .i64 cnt] 91), (φ1 0, .cells #[.int .u64 be, .pointer pe] 30)]) (fun φ2 => [φ1 0, φ1 0]) s trivial (fun φ2 => by kernel_rfl) ?_
 intro φ2 w2 s
 refine call_rule (some 8) s (Ev.isLeaf_c he) (by kernel_rfl) ?_
 intro v3 I3 w3 le3 h3 s
 replace he := Ev.ERep.mono le3 he
 obtain rfl := h3
 refine ops_done (by kernel_rfl) ?_
 rcases Bool.eq_false_or_eq_true (e.isLeaf) with hc4 | hc4
 ·
  rw [hc4]
  refine cond_true_rule (b := true) (by kernel_rfl) rfl ?_
  refine seqR ?_
  refine ops_rule (C := []) _ F 1 [] 0 (fun φ5 => [(9, pB b)]) (fun φ5 => [(b, .cells #[v0, .int .i64 cnt] 91), (φ1 0, .cells #[.int .u64 be, .pointer pe] 30)]) (fun φ5 => []) s trivial (fun φ5 => by kernel_rfl) ?_
  intro φ5 w5 s
  refine callH_rule (b := (b, .cells #[v0, .int .i64 cnt] 91)) (F := F) (Hr := [(φ1 0, .cells #[.int .u64 be, .pointer pe] 30)]) (some 10) 0 s (by kernel_rfl) (by kernel_rfl) (put_c (b := b) (cnt := cnt) (bs := bs) (v0 := v0) (n := 1) (k := 1) (by (try simp only [List.length_append, putBits_len]); omega) (by have h7 := hlen; have h6 := congrArg List.length (evB_leaf hc4); (try rw [← hbe] at h6); simp only [List.length_append, putBits_len] at h6; (try simp only [List.length_append, putBits_len]); omega) h (by   omega) (by   omega)) (by kernel_rfl) ?_
  rintro v6 I6 w6 b6 F6 le6 - h6 s
  replace he := Ev.ERep.mono le6 he
  obtain ⟨v6, rfl, rfl, hr6⟩ := h6
  refine ops_done (by kernel_rfl) ?_
  refine seqR ?_
  refine ops_rule (C := []) _ F6 2 [.o 1, .o 1] 0 (fun φ7 => [(12, .agg #[.int .u64 be, .pointer pe]), (11, pB b)]) (fun φ7 => [(b, .cells #[v6, .int .i64 ((cnt + 1 : Nat) : Int)] 91), (φ1 0, .cells #[.int .u64 be, .pointer pe] 30)]) (fun φ7 => [φ1 0, φ1 0]) s trivial (fun φ7 => by kernel_rfl) ?_
  intro φ7 w7 s
  refine call_rule (some 13) s (Ev.base_c he) (by kernel_rfl) ?_
  intro v8 I8 w8 le8 h8 s
  replace he := Ev.ERep.mono le8 he
  obtain rfl := h8
  refine callH_rule (b := (b, .cells #[v6, .int .i64 ((cnt + 1 : Nat) : Int)] 91)) (F := F6) (Hr := [(φ1 0, .cells #[.int .u64 be, .pointer pe] 30)]) (some 14) 0 s (by kernel_rfl) (by kernel_rfl) (num_c (b := b) (cnt := cnt + 1) (bs := (bs ++ putBits 1 1)) (v0 := v6) (n := be) (by (try simp only [List.length_append, putBits_len]); omega) (by have h7 := hlen; have h6 := congrArg List.length (evB_leaf hc4); (try rw [← hbe] at h6); simp only [List.length_append, putBits_len] at h6; (try simp only [List.length_append, putBits_len]); omega) hr6 (hbn)) (by kernel_rfl) ?_
  rintro v9 I9 w9 b9 F9 le9 - h9 s
  replace he := Ev.ERep.mono le9 he
  obtain ⟨v9, rfl, rfl, hr9⟩ := h9
  refine ops_done (by kernel_rfl) ?_
  refine wp_ret ?_
  refine ret_rule (C := []) _ F9 (.tuple #[]) [] [] s trivial (by kernel_rfl) ?_
  replace s := s.drop (List.Sublist.append (List.Sublist.cons₂ _ (List.Sublist.cons _ List.Sublist.slnil)) (List.Sublist.refl F9))
  have hz9 : ((bs ++ putBits 1 1) ++ numW 62 2 be) = bs ++ evB e := by
   rw [evB_leaf hc4]
   simp [hbe]
  have hL9 := congrArg List.length hz9
  simp only [List.length_append, putBits_len] at hL9
  have hc9 : cnt + 1 + (numW 62 2 be).length = cnt + (evB e).length := (by omega)
  exact ⟨_, _, _, rfl, s, ⟨_, _, rfl, rfl, _, rfl, by rw [hc9], row_cast hr9 (congrArg pk hz9)⟩⟩
 ·
  rw [hc4]
  refine cond_false_rule (b := false) (by kernel_rfl) rfl ?_
  refine wp_skip ?_
  refine wp_seq ?_
  refine drawK_rule (C := []) ⟨(fun φ10 xs10 => [.look 0 [.o 1, .o 1] [φ1 0, φ1 0], .call 49 #[.agg #[.int .u64 be, .pointer pe]], .look 0 [.o 1, .o 1] [φ1 0, φ1 0], .call 50 #[.agg #[.int .u64 be, .pointer pe]], .new, .new, .store 0 [.o 2, .o 2] [φ10 4, φ10 4], .store 1 [.o 3, .o 3] [φ10 5, φ10 5]]), (fun φ10 xs10 => [.agg #[.int .u64 be, .pointer pe], .agg #[.int .u64 (((xs10 1).n 0 : Nat) : Int), .pointer ((xs10 1).p 0)], .agg #[.int .u64 be, .pointer pe], .agg #[.int .u64 (((xs10 3).n 0 : Nat) : Int), .pointer ((xs10 3).p 0)], pB (φ10 4), pB (φ10 5), undef, undef]), (fun φ10 xs10 => [[(b, .cells #[v0, .int .i64 cnt] 91), (φ1 0, .cells #[.int .u64 be, .pointer pe] 30)], [(b, .cells #[v0, .int .i64 cnt] 91), (φ1 0, .cells #[.int .u64 be, .pointer pe] 30)], [(b, .cells #[v0, .int .i64 cnt] 91), (φ1 0, .cells #[.int .u64 be, .pointer pe] 30)]]), (fun φ10 xs10 => [[default, default, default, default, .cells #[.int .u64 0, .pointer none] 30, .cells #[.int .u64 0, .pointer none] 30, default, default], [default, default, default, default, .cells #[.int .u64 (((xs10 1).n 0 : Nat) : Int), .pointer ((xs10 1).p 0)] 30, .cells #[.int .u64 0, .pointer none] 30, default, default], [default, default, default, default, .cells #[.int .u64 (((xs10 1).n 0 : Nat) : Int), .pointer ((xs10 1).p 0)] 30, .cells #[.int .u64 (((xs10 3).n 0 : Nat) : Int), .pointer ((xs10 3).p 0)] 30, default, default]]), [6, 7], [1, 3, 1, 3, 2, 2, 4, 4]⟩ (fun j => ([MP.any, ⟨fun x J => Ev.ERep J e.left (x.n 0) (x.p 0), fun le h => Ev.ERep.mono le h⟩, MP.any, ⟨fun x J => Ev.ERep J e.right (x.n 0) (x.p 0), fun le h => Ev.ERep.mono le h⟩] : List MP).getD j MP.any) F [1, 3] [] [] (fun φ10 xs10 => [[none, none, none, none, none, none, none, none], [none, none, none, none, none, none, none, none]]) (fun φ10 xs10 => [(15, .agg #[.int .u64 be, .pointer pe]), (16, .agg #[.int .u64 (((xs10 1).n 0 : Nat) : Int), .pointer ((xs10 1).p 0)]), (17, .agg #[.int .u64 be, .pointer pe]), (18, .agg #[.int .u64 (((xs10 3).n 0 : Nat) : Int), .pointer ((xs10 3).p 0)]), (4, pB (φ10 4)), (5, pB (φ10 5))]) (fun φ10 xs10 => [(b, .cells #[v0, .int .i64 cnt] 91), (φ1 0, .cells #[.int .u64 be, .pointer pe] 30), (φ10 4, .cells #[.int .u64 (((xs10 1).n 0 : Nat) : Int), .pointer ((xs10 1).p 0)] 30), (φ10 5, .cells #[.int .u64 (((xs10 3).n 0 : Nat) : Int), .pointer ((xs10 3).p 0)] 30)]) s trivial (by kernel_rfl) (by kernel_rfl) (fun _ _ => by kernel_rfl) (fun _ _ => by kernel_rfl) ⟨fun _ _ => by kernel_rfl, fun _ _ => by kernel_rfl, fun _ _ => by kernel_rfl, fun _ _ => by kernel_rfl⟩ (fun _ _ _ => by kernel_rfl) (fun _ _ => by kernel_rfl) (fun _ _ => by kernel_rfl) (fun _ _ => by kernel_rfl) (fun _ _ => by kernel_rfl) (fun _ _ => by kernel_rfl) trivial trivial (by kernel_rfl) ⟨?c10_1, ?c10_3, trivial⟩ ?k10
  case c10_1 =>
   refine kcast (A := ∀ (φ10 : Nat → Nat) (xs10 : Xs) (J1_10 : IM), I3.Le J1_10 → Fun Try.prog 49 #[.agg #[.int .u64 be, .pointer pe]] J1_10 (fun v J' => ∃ x : UX, v = .agg #[.int .u64 (x.n 0), .pointer (x.p 0)] ∧ (Ev.ERep J' e.left (x.n 0) (x.p 0)))) (by kernel_rfl) ?_
   intro φ10 xs10 J1_10 leJ
   have he := Ev.ERep.mono leJ he
   exact Fun.mono (Ev.left_c he) (fun v J' _ ⟨y0, y1, hv, g0⟩ => ⟨{ UX.d with n := fun j => y0, p := fun j => y1 }, hv, g0⟩)
  case c10_3 =>
   refine kcast (A := ∀ (φ10 : Nat → Nat) (xs10 : Xs) (J3_10 : IM), I3.Le J3_10 → (Ev.ERep J3_10 e.left ((xs10 1).n 0) ((xs10 1).p 0)) → Fun Try.prog 50 #[.agg #[.int .u64 be, .pointer pe]] J3_10 (fun v J' => ∃ x : UX, v = .agg #[.int .u64 (x.n 0), .pointer (x.p 0)] ∧ (Ev.ERep J' e.right (x.n 0) (x.p 0)))) (by kernel_rfl) ?_
   intro φ10 xs10 J3_10 leJ
   rintro h10_1_0
   have he := Ev.ERep.mono leJ he
   exact Fun.mono (Ev.right_c he) (fun v J' _ ⟨y0, y1, hv, g0⟩ => ⟨{ UX.d with n := fun j => y0, p := fun j => y1 }, hv, g0⟩)
  case k10 =>
   rintro φ10 xs10 I10 w10 le10 s h10_1_0 h10_3_0
   replace he := Ev.ERep.mono le10 he
   refine seqR ?_
   refine ops_rule (C := []) _ F 2 [.o 2, .o 2, .o 3, .o 3] 0 (fun φ11 => [(20, .agg #[.int .u64 (((xs10 3).n 0 : Nat) : Int), .pointer ((xs10 3).p 0)]), (19, .agg #[.int .u64 (((xs10 1).n 0 : Nat) : Int), .pointer ((xs10 1).p 0)])]) (fun φ11 => [(b, .cells #[v0, .int .i64 cnt] 91), (φ1 0, .cells #[.int .u64 be, .pointer pe] 30), (φ10 4, .cells #[.int .u64 (((xs10 1).n 0 : Nat) : Int), .pointer ((xs10 1).p 0)] 30), (φ10 5, .cells #[.int .u64 (((xs10 3).n 0 : Nat) : Int), .pointer ((xs10 3).p 0)] 30)]) (fun φ11 => [φ10 4, φ10 4, φ10 5, φ10 5]) s trivial (fun φ11 => by kernel_rfl) ?_
   intro φ11 w11 s
   refine call_rule (some 21) s (halvesKind_c h10_1_0 h10_3_0 (htl) (htr)) (by kernel_rfl) ?_
   intro v12 I12 w12 le12 h12 s
   replace he := Ev.ERep.mono le12 he
   replace h10_1_0 := Ev.ERep.mono le12 h10_1_0
   replace h10_3_0 := Ev.ERep.mono le12 h10_3_0
   obtain rfl := h12
   refine ops_rule (C := []) _ F 1 [] 0 (fun φ13 => [(6, .int .u64 (kindE e.left e.right))]) (fun φ13 => [(b, .cells #[v0, .int .i64 cnt] 91), (φ1 0, .cells #[.int .u64 be, .pointer pe] 30), (φ10 4, .cells #[.int .u64 (((xs10 1).n 0 : Nat) : Int), .pointer ((xs10 1).p 0)] 30), (φ10 5, .cells #[.int .u64 (((xs10 3).n 0 : Nat) : Int), .pointer ((xs10 3).p 0)] 30)]) (fun φ13 => []) s trivial (fun φ13 => by kernel_rfl) ?_
   intro φ13 w13 s
   refine ops_done (by kernel_rfl) ?_
   refine seqR ?_
   refine ops_rule (C := []) _ F 1 [] 0 (fun φ14 => [(22, pB b)]) (fun φ14 => [(b, .cells #[v0, .int .i64 cnt] 91), (φ1 0, .cells #[.int .u64 be, .pointer pe] 30), (φ10 4, .cells #[.int .u64 (((xs10 1).n 0 : Nat) : Int), .pointer ((xs10 1).p 0)] 30), (φ10 5, .cells #[.int .u64 (((xs10 3).n 0 : Nat) : Int), .pointer ((xs10 3).p 0)] 30)]) (fun φ14 => []) s trivial (fun φ14 => by kernel_rfl) ?_
   intro φ14 w14 s
   refine callH_rule (b := (b, .cells #[v0, .int .i64 cnt] 91)) (F := F) (Hr := [(φ1 0, .cells #[.int .u64 be, .pointer pe] 30), (φ10 4, .cells #[.int .u64 (((xs10 1).n 0 : Nat) : Int), .pointer ((xs10 1).p 0)] 30), (φ10 5, .cells #[.int .u64 (((xs10 3).n 0 : Nat) : Int), .pointer ((xs10 3).p 0)] 30)]) (some 23) 0 s (by kernel_rfl) (by kernel_rfl) (put_c (b := b) (cnt := cnt) (bs := bs) (v0 := v0) (n := 0) (k := 1) (by (try simp only [List.length_append, putBits_len]); omega) (by have h7 := hlen; have h6 := congrArg List.length (evB_nd hc4); (try rw [← hbe] at h6); simp only [List.length_append, putBits_len] at h6; (try simp only [List.length_append, putBits_len]); omega) h (by   omega) (by   omega)) (by kernel_rfl) ?_
   rintro v15 I15 w15 b15 F15 le15 - h15 s
   replace he := Ev.ERep.mono le15 he
   replace h10_1_0 := Ev.ERep.mono le15 h10_1_0
   replace h10_3_0 := Ev.ERep.mono le15 h10_3_0
   obtain ⟨v15, rfl, rfl, hr15⟩ := h15
   refine ops_done (by kernel_rfl) ?_
   refine seqR ?_
   refine ops_rule (C := []) _ F15 3 [.o 1, .o 1] 0 (fun φ16 => [(26, .agg #[.int .u64 be, .pointer pe]), (25, .int .u64 (kindE e.left e.right)), (24, pB b)]) (fun φ16 => [(b, .cells #[v15, .int .i64 ((cnt + 1 : Nat) : Int)] 91), (φ1 0, .cells #[.int .u64 be, .pointer pe] 30), (φ10 4, .cells #[.int .u64 (((xs10 1).n 0 : Nat) : Int), .pointer ((xs10 1).p 0)] 30), (φ10 5, .cells #[.int .u64 (((xs10 3).n 0 : Nat) : Int), .pointer ((xs10 3).p 0)] 30)]) (fun φ16 => [φ1 0, φ1 0]) s trivial (fun φ16 => by kernel_rfl) ?_
   intro φ16 w16 s
   refine call_rule (some 27) s (Ev.base_c he) (by kernel_rfl) ?_
   intro v17 I17 w17 le17 h17 s
   replace h10_1_0 := Ev.ERep.mono le17 h10_1_0
   replace h10_3_0 := Ev.ERep.mono le17 h10_3_0
   obtain rfl := h17
   refine callH_rule (b := (b, .cells #[v15, .int .i64 ((cnt + 1 : Nat) : Int)] 91)) (F := F15) (Hr := [(φ1 0, .cells #[.int .u64 be, .pointer pe] 30), (φ10 4, .cells #[.int .u64 (((xs10 1).n 0 : Nat) : Int), .pointer ((xs10 1).p 0)] 30), (φ10 5, .cells #[.int .u64 (((xs10 3).n 0 : Nat) : Int), .pointer ((xs10 3).p 0)] 30)]) (some 28) 0 s (by kernel_rfl) (by kernel_rfl) (putHead_c (b := b) (cnt := cnt + 1) (bs := (bs ++ putBits 0 1)) (v0 := v15) (k := kindE e.left e.right) (n := be) (by (try simp only [List.length_append, putBits_len]); omega) (by have h7 := hlen; have h6 := congrArg List.length (evB_nd hc4); (try rw [← hbe] at h6); simp only [List.length_append, putBits_len] at h6; (try simp only [List.length_append, putBits_len]); omega) hr15 (kindE_lt _ _) (hbn)) (by kernel_rfl) ?_
   rintro v18 I18 w18 b18 F18 le18 - h18 s
   replace h10_1_0 := Ev.ERep.mono le18 h10_1_0
   replace h10_3_0 := Ev.ERep.mono le18 h10_3_0
   obtain ⟨v18, rfl, rfl, hr18⟩ := h18
   refine ops_done (by kernel_rfl) ?_
   refine wp_seq ?_
   refine seqR ?_
   refine ops_rule (C := []) _ F18 2 [] 0 (fun φ19 => [(30, .bool (((kindE e.left e.right : Nat) : Int) != ((0 : Nat) : Int))), (29, .int .u64 (kindE e.left e.right))]) (fun φ19 => [(b, .cells #[v18, .int .i64 ((cnt + 1 + (headB be (kindE e.left e.right)).length : Nat) : Int)] 91), (φ1 0, .cells #[.int .u64 be, .pointer pe] 30), (φ10 4, .cells #[.int .u64 (((xs10 1).n 0 : Nat) : Int), .pointer ((xs10 1).p 0)] 30), (φ10 5, .cells #[.int .u64 (((xs10 3).n 0 : Nat) : Int), .pointer ((xs10 3).p 0)] 30)]) (fun φ19 => []) s trivial (fun φ19 => by kernel_rfl) ?_
   intro φ19 w19 s
   rw [nat_neq (a := (kindE e.left e.right)) (b := 0)]
   refine ops_done (by kernel_rfl) ?_
   rcases Bool.eq_false_or_eq_true (decide ((kindE e.left e.right) ≠ 0)) with hc20 | hc20
   ·
    rw [hc20]
    refine cond_true_rule (b := true) (by kernel_rfl) rfl ?_
    refine region_rule ?_
    refine ops_rule (C := []) _ F18 2 [.o 2, .o 2] 0 (fun φ21 => [(32, .agg #[.int .u64 (((xs10 1).n 0 : Nat) : Int), .pointer ((xs10 1).p 0)]), (31, pB b)]) (fun φ21 => [(b, .cells #[v18, .int .i64 ((cnt + 1 + (headB be (kindE e.left e.right)).length : Nat) : Int)] 91), (φ1 0, .cells #[.int .u64 be, .pointer pe] 30), (φ10 4, .cells #[.int .u64 (((xs10 1).n 0 : Nat) : Int), .pointer ((xs10 1).p 0)] 30), (φ10 5, .cells #[.int .u64 (((xs10 3).n 0 : Nat) : Int), .pointer ((xs10 3).p 0)] 30)]) (fun φ21 => [φ10 4, φ10 4]) s trivial (fun φ21 => by kernel_rfl) ?_
    intro φ21 w21 s
    refine callH_rule (b := (b, .cells #[v18, .int .i64 ((cnt + 1 + (headB be (kindE e.left e.right)).length : Nat) : Int)] 91)) (F := F18) (Hr := [(φ1 0, .cells #[.int .u64 be, .pointer pe] 30), (φ10 4, .cells #[.int .u64 (((xs10 1).n 0 : Nat) : Int), .pointer ((xs10 1).p 0)] 30), (φ10 5, .cells #[.int .u64 (((xs10 3).n 0 : Nat) : Int), .pointer ((xs10 3).p 0)] 30)]) (some 33) 0 s (by kernel_rfl) (by kernel_rfl) (ihl hc4 (of_decide_eq_true hc20) (cnt := cnt + 1 + (headB be (kindE e.left e.right)).length) (bs := ((bs ++ putBits 0 1) ++ headB be (kindE e.left e.right))) (v0 := v18) h10_1_0 (by (try simp only [List.length_append, putBits_len]); omega) (by have h7 := hlen; have h6 := congrArg List.length (evB_nd hc4); rw [if_neg (of_decide_eq_true hc20)] at h6; (try rw [← hbe] at h6); simp only [List.length_append, putBits_len] at h6; (try simp only [List.length_append, putBits_len]); omega) hr18) (by kernel_rfl) ?_
    rintro v22 I22 w22 b22 F22 le22 - h22 s
    replace h10_3_0 := Ev.ERep.mono le22 h10_3_0
    obtain ⟨v22, rfl, rfl, hr22⟩ := h22
    refine ops_done (by kernel_rfl) ?_
    refine seqR ?_
    refine ops_rule (C := []) _ F22 2 [] 0 (fun φ23 => [(35, .bool (((kindE e.left e.right : Nat) : Int) != ((1 : Nat) : Int))), (34, .int .u64 (kindE e.left e.right))]) (fun φ23 => [(b, .cells #[v22, .int .i64 ((cnt + 1 + (headB be (kindE e.left e.right)).length + (evB e.left).length : Nat) : Int)] 91), (φ1 0, .cells #[.int .u64 be, .pointer pe] 30), (φ10 4, .cells #[.int .u64 (((xs10 1).n 0 : Nat) : Int), .pointer ((xs10 1).p 0)] 30), (φ10 5, .cells #[.int .u64 (((xs10 3).n 0 : Nat) : Int), .pointer ((xs10 3).p 0)] 30)]) (fun φ23 => []) s trivial (fun φ23 => by kernel_rfl) ?_
    intro φ23 w23 s
    rw [nat_neq (a := (kindE e.left e.right)) (b := 1)]
    refine ops_done (by kernel_rfl) ?_
    rcases Bool.eq_false_or_eq_true (decide ((kindE e.left e.right) ≠ 1)) with hc24 | hc24
    ·
     rw [hc24]
     refine cond_true_rule (b := true) (by kernel_rfl) rfl ?_
     refine region_rule ?_
     refine ops_rule (C := []) _ F22 2 [.o 3, .o 3] 0 (fun φ25 => [(37, .agg #[.int .u64 (((xs10 3).n 0 : Nat) : Int), .pointer ((xs10 3).p 0)]), (36, pB b)]) (fun φ25 => [(b, .cells #[v22, .int .i64 ((cnt + 1 + (headB be (kindE e.left e.right)).length + (evB e.left).length : Nat) : Int)] 91), (φ1 0, .cells #[.int .u64 be, .pointer pe] 30), (φ10 4, .cells #[.int .u64 (((xs10 1).n 0 : Nat) : Int), .pointer ((xs10 1).p 0)] 30), (φ10 5, .cells #[.int .u64 (((xs10 3).n 0 : Nat) : Int), .pointer ((xs10 3).p 0)] 30)]) (fun φ25 => [φ10 5, φ10 5]) s trivial (fun φ25 => by kernel_rfl) ?_
     intro φ25 w25 s
     refine callH_rule (b := (b, .cells #[v22, .int .i64 ((cnt + 1 + (headB be (kindE e.left e.right)).length + (evB e.left).length : Nat) : Int)] 91)) (F := F22) (Hr := [(φ1 0, .cells #[.int .u64 be, .pointer pe] 30), (φ10 4, .cells #[.int .u64 (((xs10 1).n 0 : Nat) : Int), .pointer ((xs10 1).p 0)] 30), (φ10 5, .cells #[.int .u64 (((xs10 3).n 0 : Nat) : Int), .pointer ((xs10 3).p 0)] 30)]) (some 38) 0 s (by kernel_rfl) (by kernel_rfl) (ihr hc4 (of_decide_eq_true hc24) (cnt := cnt + 1 + (headB be (kindE e.left e.right)).length + (evB e.left).length) (bs := (((bs ++ putBits 0 1) ++ headB be (kindE e.left e.right)) ++ evB e.left)) (v0 := v22) h10_3_0 (by (try simp only [List.length_append, putBits_len]); omega) (by have h7 := hlen; have h6 := congrArg List.length (evB_nd hc4); rw [if_neg (of_decide_eq_true hc20), if_neg (of_decide_eq_true hc24)] at h6; (try rw [← hbe] at h6); simp only [List.length_append, putBits_len] at h6; (try simp only [List.length_append, putBits_len]); omega) hr22) (by kernel_rfl) ?_
     rintro v26 I26 w26 b26 F26 le26 - h26 s
     replace h10_3_0 := Ev.ERep.mono le26 h10_3_0
     obtain ⟨v26, rfl, rfl, hr26⟩ := h26
     refine ops_done (by kernel_rfl) ?_
     refine end_rule (C := []) _ F26 (.tuple #[]) [] [] s trivial (by kernel_rfl) ?_
     replace s := s.drop (List.Sublist.append (List.Sublist.cons₂ _ (List.Sublist.cons _ (List.Sublist.cons _ (List.Sublist.cons _ List.Sublist.slnil)))) (List.Sublist.refl F26))
     have hz9 : ((((bs ++ putBits 0 1) ++ headB be (kindE e.left e.right)) ++ evB e.left) ++ evB e.right) = bs ++ evB e := by
      rw [evB_nd hc4, if_neg (of_decide_eq_true hc20), if_neg (of_decide_eq_true hc24)]
      simp [hbe]
     have hL9 := congrArg List.length hz9
     simp only [List.length_append, putBits_len] at hL9
     have hc9 : cnt + 1 + (headB be (kindE e.left e.right)).length + (evB e.left).length + (evB e.right).length = cnt + (evB e).length := (by omega)
     exact ⟨_, _, _, rfl, s, ⟨_, _, rfl, rfl, _, rfl, by rw [hc9], row_cast hr26 (congrArg pk hz9)⟩⟩
    ·
     rw [hc24]
     refine cond_false_rule (b := false) (by kernel_rfl) rfl ?_
     refine wp_skip ?_
     refine end_rule (C := []) _ F22 (.tuple #[]) [] [] s trivial (by kernel_rfl) ?_
     replace s := s.drop (List.Sublist.append (List.Sublist.cons₂ _ (List.Sublist.cons _ (List.Sublist.cons _ (List.Sublist.cons _ List.Sublist.slnil)))) (List.Sublist.refl F22))
     have hz9 : (((bs ++ putBits 0 1) ++ headB be (kindE e.left e.right)) ++ evB e.left) = bs ++ evB e := by
      rw [evB_nd hc4, if_neg (of_decide_eq_true hc20), if_pos (Decidable.not_not.1 (of_decide_eq_false hc24))]
      simp [hbe]
     have hL9 := congrArg List.length hz9
     simp only [List.length_append, putBits_len] at hL9
     have hc9 : cnt + 1 + (headB be (kindE e.left e.right)).length + (evB e.left).length = cnt + (evB e).length := (by omega)
     exact ⟨_, _, _, rfl, s, ⟨_, _, rfl, rfl, _, rfl, by rw [hc9], row_cast hr22 (congrArg pk hz9)⟩⟩
   ·
    rw [hc20]
    refine cond_false_rule (b := false) (by kernel_rfl) rfl ?_
    refine wp_skip ?_
    refine seqR ?_
    refine ops_rule (C := []) _ F18 2 [] 0 (fun φ27 => [(35, .bool (((kindE e.left e.right : Nat) : Int) != ((1 : Nat) : Int))), (34, .int .u64 (kindE e.left e.right))]) (fun φ27 => [(b, .cells #[v18, .int .i64 ((cnt + 1 + (headB be (kindE e.left e.right)).length : Nat) : Int)] 91), (φ1 0, .cells #[.int .u64 be, .pointer pe] 30), (φ10 4, .cells #[.int .u64 (((xs10 1).n 0 : Nat) : Int), .pointer ((xs10 1).p 0)] 30), (φ10 5, .cells #[.int .u64 (((xs10 3).n 0 : Nat) : Int), .pointer ((xs10 3).p 0)] 30)]) (fun φ27 => []) s trivial (fun φ27 => by kernel_rfl) ?_
    intro φ27 w27 s
    rw [nat_neq (a := (kindE e.left e.right)) (b := 1)]
    refine ops_done (by kernel_rfl) ?_
    rcases Bool.eq_false_or_eq_true (decide ((kindE e.left e.right) ≠ 1)) with hc28 | hc28
    ·
     rw [hc28]
     refine cond_true_rule (b := true) (by kernel_rfl) rfl ?_
     refine region_rule ?_
     refine ops_rule (C := []) _ F18 2 [.o 3, .o 3] 0 (fun φ29 => [(37, .agg #[.int .u64 (((xs10 3).n 0 : Nat) : Int), .pointer ((xs10 3).p 0)]), (36, pB b)]) (fun φ29 => [(b, .cells #[v18, .int .i64 ((cnt + 1 + (headB be (kindE e.left e.right)).length : Nat) : Int)] 91), (φ1 0, .cells #[.int .u64 be, .pointer pe] 30), (φ10 4, .cells #[.int .u64 (((xs10 1).n 0 : Nat) : Int), .pointer ((xs10 1).p 0)] 30), (φ10 5, .cells #[.int .u64 (((xs10 3).n 0 : Nat) : Int), .pointer ((xs10 3).p 0)] 30)]) (fun φ29 => [φ10 5, φ10 5]) s trivial (fun φ29 => by kernel_rfl) ?_
     intro φ29 w29 s
     refine callH_rule (b := (b, .cells #[v18, .int .i64 ((cnt + 1 + (headB be (kindE e.left e.right)).length : Nat) : Int)] 91)) (F := F18) (Hr := [(φ1 0, .cells #[.int .u64 be, .pointer pe] 30), (φ10 4, .cells #[.int .u64 (((xs10 1).n 0 : Nat) : Int), .pointer ((xs10 1).p 0)] 30), (φ10 5, .cells #[.int .u64 (((xs10 3).n 0 : Nat) : Int), .pointer ((xs10 3).p 0)] 30)]) (some 38) 0 s (by kernel_rfl) (by kernel_rfl) (ihr hc4 (of_decide_eq_true hc28) (cnt := cnt + 1 + (headB be (kindE e.left e.right)).length) (bs := ((bs ++ putBits 0 1) ++ headB be (kindE e.left e.right))) (v0 := v18) h10_3_0 (by (try simp only [List.length_append, putBits_len]); omega) (by have h7 := hlen; have h6 := congrArg List.length (evB_nd hc4); rw [if_pos (Decidable.not_not.1 (of_decide_eq_false hc20)), if_neg (of_decide_eq_true hc28)] at h6; (try rw [← hbe] at h6); simp only [List.length_append, putBits_len] at h6; (try simp only [List.length_append, putBits_len]); omega) hr18) (by kernel_rfl) ?_
     rintro v30 I30 w30 b30 F30 le30 - h30 s
     obtain ⟨v30, rfl, rfl, hr30⟩ := h30
     refine ops_done (by kernel_rfl) ?_
     refine end_rule (C := []) _ F30 (.tuple #[]) [] [] s trivial (by kernel_rfl) ?_
     replace s := s.drop (List.Sublist.append (List.Sublist.cons₂ _ (List.Sublist.cons _ (List.Sublist.cons _ (List.Sublist.cons _ List.Sublist.slnil)))) (List.Sublist.refl F30))
     have hz9 : (((bs ++ putBits 0 1) ++ headB be (kindE e.left e.right)) ++ evB e.right) = bs ++ evB e := by
      rw [evB_nd hc4, if_pos (Decidable.not_not.1 (of_decide_eq_false hc20)), if_neg (of_decide_eq_true hc28)]
      simp [hbe]
     have hL9 := congrArg List.length hz9
     simp only [List.length_append, putBits_len] at hL9
     have hc9 : cnt + 1 + (headB be (kindE e.left e.right)).length + (evB e.right).length = cnt + (evB e).length := (by omega)
     exact ⟨_, _, _, rfl, s, ⟨_, _, rfl, rfl, _, rfl, by rw [hc9], row_cast hr30 (congrArg pk hz9)⟩⟩
    ·
     rw [hc28]
     refine cond_false_rule (b := false) (by kernel_rfl) rfl ?_
     refine wp_skip ?_
     refine end_rule (C := []) _ F18 (.tuple #[]) [] [] s trivial (by kernel_rfl) ?_
     replace s := s.drop (List.Sublist.append (List.Sublist.cons₂ _ (List.Sublist.cons _ (List.Sublist.cons _ (List.Sublist.cons _ List.Sublist.slnil)))) (List.Sublist.refl F18))
     have hz9 : ((bs ++ putBits 0 1) ++ headB be (kindE e.left e.right)) = bs ++ evB e := by
      rw [evB_nd hc4, if_pos (Decidable.not_not.1 (of_decide_eq_false hc20)), if_pos (Decidable.not_not.1 (of_decide_eq_false hc28))]
      simp [hbe]
     have hL9 := congrArg List.length hz9
     simp only [List.length_append, putBits_len] at hL9
     have hc9 : cnt + 1 + (headB be (kindE e.left e.right)).length = cnt + (evB e).length := (by omega)
     exact ⟨_, _, _, rfl, s, ⟨_, _, rfl, rfl, _, rfl, by rw [hc9], row_cast hr18 (congrArg pk hz9)⟩⟩

theorem putEvent_c : ∀ (e : Ev.E) {I : IM} {be : Nat} {pe : Option Addr} {b cnt : Nat} {bs : List Bool} {v0 : Value} {F : List OB}, Ev.ERep I e be pe → e.top < 18446744073709551616 → cnt = bs.length → bs.length + (evB e).length ≤ 700000 → RowH 5 1 v0 (pk bs).length ((pk bs).map bV) F → FunM Try.prog 23 #[.pointer (some ⟨b, 0, none⟩), .agg #[.int .u64 ((be : Nat) : Int), .pointer pe]] I ((b, .cells #[v0, .int .i64 ((cnt : Nat) : Int)] 91) :: F) (fun v J H' => ∃ (b' : OB) (F' : List OB), H' = b' :: F' ∧ b'.1 = b ∧ ∃ v', v = .tuple #[] ∧ b' = (b, .cells #[v', .int .i64 ((cnt + (evB e).length : Nat) : Int)] 91) ∧ RowH 5 1 v' (pk (bs ++ evB e)).length ((pk (bs ++ evB e)).map bV) F')
  | .leaf n, _, _, _, _, _, _, _, _, ht, htop, hc, hlen, h => putEvent_step ht htop hc hlen h (fun q => absurd q (by simp [Ev.E.isLeaf])) (fun q => absurd q (by simp [Ev.E.isLeaf]))
  | .node n l r, _, _, _, _, _, _, _, _, ht, htop, hc, hlen, h => putEvent_step ht htop hc hlen h (fun _ _ {J} {b1} {p1} {cnt} {bs} {v0} {F} a1 a2 a3 a4 => putEvent_c l a1 (half_lt htop).1 a2 a3 a4) (fun _ _ {J} {b1} {p1} {cnt} {bs} {v0} {F} a1 a2 a3 a4 => putEvent_c r a1 (half_lt htop).2.1 a2 a3 a4)

end Go.Proofs.Ytgmigcmhnmmdkaa
/- Stamps are written. -/
set_option linter.all false
set_option maxRecDepth 100000
namespace Go.Proofs.Ytgmigcmhnmmdkaa
open Go.RowKit Go.Sep
attribute [local irreducible] Go.wpList Go.Code.wp

set_option maxHeartbeats 400000 in
theorem codeID_c {I : IM} {t : Ev.T} {bi : Bool} {pi : Option Addr} (ht : Ev.TRep I t bi pi) (hlen : (idB t).length ≤ 700000) : Fun Try.prog 11 #[.agg #[.bool bi, .pointer pi]] I (fun v J => ∃ (a : Option Addr) (c : Nat), v = .slice a (List.length (pk (idB t))) c ∧ BSl J (pk (idB t)) (.slice a (List.length (pk (idB t))) c)) := by
 refine enter_rule 10 [(0, .agg #[.bool bi, .pointer pi])] Try.func11 rfl (by kernel_rfl) ?_
 intro w s
 refine seqR ?_
 refine ops_rule (C := []) [] [] 2 [] 1 (fun φ1 => [(2, .slice none 0 0), (1, pB (φ1 0))]) (fun φ1 => [(φ1 0, .cells #[.bool bi, .pointer pi] 26)]) (fun φ1 => []) s trivial (fun φ1 => by kernel_rfl) ?_
 intro φ1 w1 s
 refine ops_done (by kernel_rfl) ?_
 refine seqR ?_
 refine callF_rule (F := []) (some 4) s (newWriter_c) (by kernel_rfl) ?_
 rintro v2 I2 w2 F2 le2 ⟨b2, rfl, rfl⟩ s
 replace ht := Ev.TRep.mono le2 ht
 refine ops_rule (C := []) [(φ1 0, .cells #[.bool bi, .pointer pi] 26), (b2, .cells #[.slice none 0 0, .int .i64 0] 91)] [] 1 [] 0 (fun φ3 => [(3, pB b2)]) (fun φ3 => [(φ1 0, .cells #[.bool bi, .pointer pi] 26), (b2, .cells #[.slice none 0 0, .int .i64 0] 91)]) (fun φ3 => []) s trivial (fun φ3 => by kernel_rfl) ?_
 intro φ3 w3 s
 refine ops_done (by kernel_rfl) ?_
 refine seqR ?_
 refine ops_rule (C := []) _ [] 2 [.o 0, .o 0] 0 (fun φ4 => [(6, .agg #[.bool bi, .pointer pi]), (5, pB b2)]) (fun φ4 => [(φ1 0, .cells #[.bool bi, .pointer pi] 26), (b2, .cells #[.slice none 0 0, .int .i64 0] 91)]) (fun φ4 => [φ1 0, φ1 0]) s trivial (fun φ4 => by kernel_rfl) ?_
 intro φ4 w4 s
 refine callH_rule (b := (b2, .cells #[.slice none 0 0, .int .i64 0] 91)) (F := []) (Hr := [(φ1 0, .cells #[.bool bi, .pointer pi] 26)]) (some 7) 1 s (by kernel_rfl) (by kernel_rfl) (putID_c t (b := b2) (cnt := 0) (bs := ([] : List Bool)) (v0 := .slice none 0 0) ht (rfl) (by have h7 := hlen; (try simp only [List.length_append, List.length_nil] at h7 ⊢); omega) (row_nilB : RowH 5 1 (.slice none 0 0) (pk []).length ((pk []).map bV) [])) (by kernel_rfl) ?_
 rintro v5 I5 w5 b5 F5 le5 - h5 s
 obtain ⟨v5, rfl, rfl, hr5⟩ := h5
 refine ops_done (by kernel_rfl) ?_
 refine seqR ?_
 refine ops_rule (C := []) _ F5 1 [] 0 (fun φ6 => [(8, pB b2)]) (fun φ6 => [(b2, .cells #[v5, .int .i64 ((0 + (idB t).length : Nat) : Int)] 91), (φ1 0, .cells #[.bool bi, .pointer pi] 26)]) (fun φ6 => []) s trivial (fun φ6 => by kernel_rfl) ?_
 intro φ6 w6 s
 refine callH_rule (b := (b2, .cells #[v5, .int .i64 ((0 + (idB t).length : Nat) : Int)] 91)) (F := F5) (Hr := [(φ1 0, .cells #[.bool bi, .pointer pi] 26)]) (some 9) 0 s (by kernel_rfl) (by kernel_rfl) (bytesA_c (b := b2) (cnt := 0 + (idB t).length) (bs := idB t) (v0 := v5) (by have h7 := hlen; (try simp only [List.length_append, List.length_nil] at h7 ⊢); omega) hr5) (by kernel_rfl) ?_
 rintro v7 I7 w7 b7 F7 le7 - h7 s
 obtain ⟨a7, c7, rfl, rfl, hr7, h7_0⟩ := h7
 refine ops_rule (C := []) _ F7 1 [] 0 (fun φ8 => [(2, .slice a7 (List.length (pk (idB t))) c7)]) (fun φ8 => [(b2, .cells #[v5, .int .i64 ((0 + (idB t).length : Nat) : Int)] 91), (φ1 0, .cells #[.bool bi, .pointer pi] 26)]) (fun φ8 => []) s trivial (fun φ8 => by kernel_rfl) ?_
 intro φ8 w8 s
 refine ops_done (by kernel_rfl) ?_
 refine wp_ret ?_
 refine ret_rule (C := []) _ F7 (.slice a7 (List.length (pk (idB t))) c7) [] [] s trivial (by kernel_rfl) ?_
 exact ⟨_, _, _, rfl, s, ⟨_, _, rfl, h7_0⟩⟩

set_option maxHeartbeats 400000 in
theorem codeEvent_c {I : IM} {e : Ev.E} {be : Nat} {pe : Option Addr} (he : Ev.ERep I e be pe) (htop : e.top < 18446744073709551616) (hlen : (evB e).length ≤ 700000) : Fun Try.prog 13 #[.agg #[.int .u64 ((be : Nat) : Int), .pointer pe]] I (fun v J => ∃ (a : Option Addr) (c : Nat), v = .slice a (List.length (pk (evB e))) c ∧ BSl J (pk (evB e)) (.slice a (List.length (pk (evB e))) c)) := by
 refine enter_rule 10 [(0, .agg #[.int .u64 be, .pointer pe])] Try.func13 rfl (by kernel_rfl) ?_
 intro w s
 refine seqR ?_
 refine ops_rule (C := []) [] [] 2 [] 1 (fun φ1 => [(2, .slice none 0 0), (1, pB (φ1 0))]) (fun φ1 => [(φ1 0, .cells #[.int .u64 be, .pointer pe] 30)]) (fun φ1 => []) s trivial (fun φ1 => by kernel_rfl) ?_
 intro φ1 w1 s
 refine ops_done (by kernel_rfl) ?_
 refine seqR ?_
 refine callF_rule (F := []) (some 4) s (newWriter_c) (by kernel_rfl) ?_
 rintro v2 I2 w2 F2 le2 ⟨b2, rfl, rfl⟩ s
 replace he := Ev.ERep.mono le2 he
 refine ops_rule (C := []) [(φ1 0, .cells #[.int .u64 be, .pointer pe] 30), (b2, .cells #[.slice none 0 0, .int .i64 0] 91)] [] 1 [] 0 (fun φ3 => [(3, pB b2)]) (fun φ3 => [(φ1 0, .cells #[.int .u64 be, .pointer pe] 30), (b2, .cells #[.slice none 0 0, .int .i64 0] 91)]) (fun φ3 => []) s trivial (fun φ3 => by kernel_rfl) ?_
 intro φ3 w3 s
 refine ops_done (by kernel_rfl) ?_
 refine seqR ?_
 refine ops_rule (C := []) _ [] 2 [.o 0, .o 0] 0 (fun φ4 => [(6, .agg #[.int .u64 be, .pointer pe]), (5, pB b2)]) (fun φ4 => [(φ1 0, .cells #[.int .u64 be, .pointer pe] 30), (b2, .cells #[.slice none 0 0, .int .i64 0] 91)]) (fun φ4 => [φ1 0, φ1 0]) s trivial (fun φ4 => by kernel_rfl) ?_
 intro φ4 w4 s
 refine callH_rule (b := (b2, .cells #[.slice none 0 0, .int .i64 0] 91)) (F := []) (Hr := [(φ1 0, .cells #[.int .u64 be, .pointer pe] 30)]) (some 7) 1 s (by kernel_rfl) (by kernel_rfl) (putEvent_c e (b := b2) (cnt := 0) (bs := ([] : List Bool)) (v0 := .slice none 0 0) he (htop) (rfl) (by have h7 := hlen; (try simp only [List.length_append, List.length_nil] at h7 ⊢); omega) (row_nilB : RowH 5 1 (.slice none 0 0) (pk []).length ((pk []).map bV) [])) (by kernel_rfl) ?_
 rintro v5 I5 w5 b5 F5 le5 - h5 s
 obtain ⟨v5, rfl, rfl, hr5⟩ := h5
 refine ops_done (by kernel_rfl) ?_
 refine seqR ?_
 refine ops_rule (C := []) _ F5 1 [] 0 (fun φ6 => [(8, pB b2)]) (fun φ6 => [(b2, .cells #[v5, .int .i64 ((0 + (evB e).length : Nat) : Int)] 91), (φ1 0, .cells #[.int .u64 be, .pointer pe] 30)]) (fun φ6 => []) s trivial (fun φ6 => by kernel_rfl) ?_
 intro φ6 w6 s
 refine callH_rule (b := (b2, .cells #[v5, .int .i64 ((0 + (evB e).length : Nat) : Int)] 91)) (F := F5) (Hr := [(φ1 0, .cells #[.int .u64 be, .pointer pe] 30)]) (some 9) 0 s (by kernel_rfl) (by kernel_rfl) (bytesA_c (b := b2) (cnt := 0 + (evB e).length) (bs := evB e) (v0 := v5) (by have h7 := hlen; (try simp only [List.length_append, List.length_nil] at h7 ⊢); omega) hr5) (by kernel_rfl) ?_
 rintro v7 I7 w7 b7 F7 le7 - h7 s
 obtain ⟨a7, c7, rfl, rfl, hr7, h7_0⟩ := h7
 refine ops_rule (C := []) _ F7 1 [] 0 (fun φ8 => [(2, .slice a7 (List.length (pk (evB e))) c7)]) (fun φ8 => [(b2, .cells #[v5, .int .i64 ((0 + (evB e).length : Nat) : Int)] 91), (φ1 0, .cells #[.int .u64 be, .pointer pe] 30)]) (fun φ8 => []) s trivial (fun φ8 => by kernel_rfl) ?_
 intro φ8 w8 s
 refine ops_done (by kernel_rfl) ?_
 refine wp_ret ?_
 refine ret_rule (C := []) _ F7 (.slice a7 (List.length (pk (evB e))) c7) [] [] s trivial (by kernel_rfl) ?_
 exact ⟨_, _, _, rfl, s, ⟨_, _, rfl, h7_0⟩⟩

set_option maxHeartbeats 400000 in
theorem codeStamp_c {I : IM} {t : Ev.T} {bi : Bool} {pi : Option Addr} (ht : Ev.TRep I t bi pi) {e : Ev.E} {be : Nat} {pe : Option Addr} (he : Ev.ERep I e be pe) (htop : e.top < 18446744073709551616) (hlen : (idB t).length + (evB e).length ≤ 700000) : Fun Try.prog 8 #[.agg #[.bool bi, .pointer pi, .int .u64 ((be : Nat) : Int), .pointer pe]] I (fun v J => ∃ (a : Option Addr) (c : Nat), v = .slice a (List.length (pk (idB t ++ evB e))) c ∧ BSl J (pk (idB t ++ evB e)) (.slice a (List.length (pk (idB t ++ evB e))) c)) := by
 refine enter_rule 15 [(0, .agg #[.bool bi, .pointer pi, .int .u64 be, .pointer pe])] Try.func8 rfl (by kernel_rfl) ?_
 intro w s
 refine seqR ?_
 refine ops_rule (C := []) [] [] 2 [] 1 (fun φ1 => [(2, .slice none 0 0), (1, pB (φ1 0))]) (fun φ1 => [(φ1 0, .cells #[.bool bi, .pointer pi, .int .u64 be, .pointer pe] 32)]) (fun φ1 => []) s trivial (fun φ1 => by kernel_rfl) ?_
 intro φ1 w1 s
 refine ops_done (by kernel_rfl) ?_
 refine seqR ?_
 refine callF_rule (F := []) (some 4) s (newWriter_c) (by kernel_rfl) ?_
 rintro v2 I2 w2 F2 le2 ⟨b2, rfl, rfl⟩ s
 replace ht := Ev.TRep.mono le2 ht
 replace he := Ev.ERep.mono le2 he
 refine ops_rule (C := []) [(φ1 0, .cells #[.bool bi, .pointer pi, .int .u64 be, .pointer pe] 32), (b2, .cells #[.slice none 0 0, .int .i64 0] 91)] [] 1 [] 0 (fun φ3 => [(3, pB b2)]) (fun φ3 => [(φ1 0, .cells #[.bool bi, .pointer pi, .int .u64 be, .pointer pe] 32), (b2, .cells #[.slice none 0 0, .int .i64 0] 91)]) (fun φ3 => []) s trivial (fun φ3 => by kernel_rfl) ?_
 intro φ3 w3 s
 refine ops_done (by kernel_rfl) ?_
 refine seqR ?_
 refine ops_rule (C := []) _ [] 3 [.o 0, .o 0] 0 (fun φ4 => [(7, .agg #[.bool bi, .pointer pi]), (6, pB (φ1 0)), (5, pB b2)]) (fun φ4 => [(φ1 0, .cells #[.bool bi, .pointer pi, .int .u64 be, .pointer pe] 32), (b2, .cells #[.slice none 0 0, .int .i64 0] 91)]) (fun φ4 => [φ1 0, φ1 0]) s trivial (fun φ4 => by kernel_rfl) ?_
 intro φ4 w4 s
 refine callH_rule (b := (b2, .cells #[.slice none 0 0, .int .i64 0] 91)) (F := []) (Hr := [(φ1 0, .cells #[.bool bi, .pointer pi, .int .u64 be, .pointer pe] 32)]) (some 8) 1 s (by kernel_rfl) (by kernel_rfl) (putID_c t (b := b2) (cnt := 0) (bs := ([] : List Bool)) (v0 := .slice none 0 0) ht (rfl) (by have h7 := hlen; (try simp only [List.length_append, List.length_nil] at h7 ⊢); omega) (row_nilB : RowH 5 1 (.slice none 0 0) (pk []).length ((pk []).map bV) [])) (by kernel_rfl) ?_
 rintro v5 I5 w5 b5 F5 le5 - h5 s
 replace he := Ev.ERep.mono le5 he
 obtain ⟨v5, rfl, rfl, hr5⟩ := h5
 refine ops_done (by kernel_rfl) ?_
 refine seqR ?_
 refine ops_rule (C := []) _ F5 3 [.o 1, .o 1] 0 (fun φ6 => [(11, .agg #[.int .u64 be, .pointer pe]), (10, .pointer (some ⟨(φ1 0), 2, none⟩)), (9, pB b2)]) (fun φ6 => [(b2, .cells #[v5, .int .i64 ((0 + (idB t).length : Nat) : Int)] 91), (φ1 0, .cells #[.bool bi, .pointer pi, .int .u64 be, .pointer pe] 32)]) (fun φ6 => [φ1 0, φ1 0]) s trivial (fun φ6 => by kernel_rfl) ?_
 intro φ6 w6 s
 refine callH_rule (b := (b2, .cells #[v5, .int .i64 ((0 + (idB t).length : Nat) : Int)] 91)) (F := F5) (Hr := [(φ1 0, .cells #[.bool bi, .pointer pi, .int .u64 be, .pointer pe] 32)]) (some 12) 0 s (by kernel_rfl) (by kernel_rfl) (putEvent_c e (b := b2) (cnt := 0 + (idB t).length) (bs := idB t) (v0 := v5) he (htop) (by (try simp only [List.length_append, putBits_len]); omega) (by have h7 := hlen; (try simp only [List.length_append, List.length_nil] at h7 ⊢); omega) hr5) (by kernel_rfl) ?_
 rintro v7 I7 w7 b7 F7 le7 - h7 s
 obtain ⟨v7, rfl, rfl, hr7⟩ := h7
 refine ops_done (by kernel_rfl) ?_
 refine seqR ?_
 refine ops_rule (C := []) _ F7 1 [] 0 (fun φ8 => [(13, pB b2)]) (fun φ8 => [(b2, .cells #[v7, .int .i64 ((0 + (idB t).length + (evB e).length : Nat) : Int)] 91), (φ1 0, .cells #[.bool bi, .pointer pi, .int .u64 be, .pointer pe] 32)]) (fun φ8 => []) s trivial (fun φ8 => by kernel_rfl) ?_
 intro φ8 w8 s
 refine callH_rule (b := (b2, .cells #[v7, .int .i64 ((0 + (idB t).length + (evB e).length : Nat) : Int)] 91)) (F := F7) (Hr := [(φ1 0, .cells #[.bool bi, .pointer pi, .int .u64 be, .pointer pe] 32)]) (some 14) 0 s (by kernel_rfl) (by kernel_rfl) (bytesA_c (b := b2) (cnt := 0 + (idB t).length + (evB e).length) (bs := (idB t ++ evB e)) (v0 := v7) (by have h7 := hlen; (try simp only [List.length_append, List.length_nil] at h7 ⊢); omega) hr7) (by kernel_rfl) ?_
 rintro v9 I9 w9 b9 F9 le9 - h9 s
 obtain ⟨a9, c9, rfl, rfl, hr9, h9_0⟩ := h9
 refine ops_rule (C := []) _ F9 1 [] 0 (fun φ10 => [(2, .slice a9 (List.length (pk (idB t ++ evB e))) c9)]) (fun φ10 => [(b2, .cells #[v7, .int .i64 ((0 + (idB t).length + (evB e).length : Nat) : Int)] 91), (φ1 0, .cells #[.bool bi, .pointer pi, .int .u64 be, .pointer pe] 32)]) (fun φ10 => []) s trivial (fun φ10 => by kernel_rfl) ?_
 intro φ10 w10 s
 refine ops_done (by kernel_rfl) ?_
 refine wp_ret ?_
 refine ret_rule (C := []) _ F9 (.slice a9 (List.length (pk (idB t ++ evB e))) c9) [] [] s trivial (by kernel_rfl) ?_
 exact ⟨_, _, _, rfl, s, ⟨_, _, rfl, h9_0⟩⟩

theorem strL_beq (x y : List UInt8) : ((⟨x.toArray⟩ : ByteArray).toList == (⟨y.toArray⟩ : ByteArray).toList) = decide (x = y) := by
  have hx : ∀ l : List UInt8, (⟨l.toArray⟩ : ByteArray).toList = l := fun l => by rw [Go.ByteArray.toList_eq]
  rw [hx, hx]
  exact Bool.beq_eq_decide_eq x y

theorem equalD_c {I : IM} {l l2 : List UInt8} {a a2 : Option Addr} {n c n2 c2 : Nat} (hl : BSl I l (.slice a n c)) (hl2 : BSl I l2 (.slice a2 n2 c2)) : Fun Try.prog 14 #[.slice a n c, .slice a2 n2 c2] I (fun v J => v = .bool (decide (l = l2))) := by
 obtain ⟨rfl, -⟩ := hl.cap
 obtain ⟨rfl, -⟩ := hl2.cap
 refine enter_rule 10 [(0, .slice a l.length c), (1, .slice a2 l2.length c2)] Try.func14 rfl (by kernel_rfl) ?_
 intro w s
 refine seqR ?_
 refine ops_rule (C := []) [] [] 1 [] 0 (fun φ1 => [(4, .bool false)]) (fun φ1 => []) (fun φ1 => []) s trivial (fun φ1 => by kernel_rfl) ?_
 intro φ1 w1 s
 refine ops_done (by kernel_rfl) ?_
 refine seqR ?_
 refine ops_rule (C := []) [] [] 1 [] 0 (fun φ2 => [(5, .slice a l.length c)]) (fun φ2 => []) (fun φ2 => []) s trivial (fun φ2 => by kernel_rfl) ?_
 intro φ2 w2 s
 refine sem_rule (convert 22 9 (.slice a l.length c)) (some 6) (.string ⟨(l).toArray⟩) (by kernel_rfl) (run_b2s s.sub hl) ?_
 refine ops_rule (C := []) [] [] 1 [] 0 (fun φ3 => [(7, .slice a2 l2.length c2)]) (fun φ3 => []) (fun φ3 => []) s trivial (fun φ3 => by kernel_rfl) ?_
 intro φ3 w3 s
 refine sem_rule (convert 22 9 (.slice a2 l2.length c2)) (some 8) (.string ⟨(l2).toArray⟩) (by kernel_rfl) (run_b2s s.sub hl2) ?_
 refine ops_rule (C := []) [] [] 2 [] 0 (fun φ4 => [(4, .bool ((⟨(l).toArray⟩ : ByteArray).toList == (⟨(l2).toArray⟩ : ByteArray).toList)), (9, .bool ((⟨(l).toArray⟩ : ByteArray).toList == (⟨(l2).toArray⟩ : ByteArray).toList))]) (fun φ4 => []) (fun φ4 => []) s trivial (fun φ4 => by kernel_rfl) ?_
 intro φ4 w4 s
 refine ops_done (by kernel_rfl) ?_
 refine wp_ret ?_
 refine ret_rule (C := []) [] [] (.bool ((⟨(l).toArray⟩ : ByteArray).toList == (⟨(l2).toArray⟩ : ByteArray).toList)) [] [] s trivial (by kernel_rfl) ?_
 exact ⟨_, _, _, rfl, s, (congrArg Value.bool (strL_beq l l2))⟩

set_option maxHeartbeats 400000 in
theorem seed_c {I : IM} : Fun Try.prog 32 #[] I (fun v J => v = .agg #[.bool true, .pointer none, .int .u64 0, .pointer none]) := by
 refine enter_rule 3 [] Try.func32 rfl (by kernel_rfl) ?_
 intro w s
 refine seqR ?_
 refine ops_rule (C := []) [] [] 1 [] 1 (fun φ1 => [(0, pB (φ1 0))]) (fun φ1 => [(φ1 0, .cells #[.bool false, .pointer none, .int .u64 0, .pointer none] 32)]) (fun φ1 => []) s trivial (fun φ1 => by kernel_rfl) ?_
 intro φ1 w1 s
 refine ops_done (by kernel_rfl) ?_
 refine seqR ?_
 refine call_rule (some 1) s (Ev.tone_c) (by kernel_rfl) ?_
 intro v2 I2 w2 le2 h2 s
 obtain rfl := h2
 refine ops_rule (C := []) _ [] 2 [.o 0, .o 0, .o 0, .o 0] 0 (fun φ3 => [(2, .agg #[.bool true, .pointer none, .int .u64 0, .pointer none])]) (fun φ3 => [(φ1 0, .cells #[.bool true, .pointer none, .int .u64 0, .pointer none] 32)]) (fun φ3 => [φ1 0, φ1 0, φ1 0, φ1 0]) s trivial (fun φ3 => by kernel_rfl) ?_
 intro φ3 w3 s
 refine ops_done (by kernel_rfl) ?_
 refine wp_ret ?_
 refine ret_rule (C := []) _ [] (.agg #[.bool true, .pointer none, .int .u64 0, .pointer none]) [.o 0, .o 0, .o 0, .o 0] [φ1 0, φ1 0, φ1 0, φ1 0] s trivial (by kernel_rfl) ?_
 exact ⟨_, _, _, rfl, s, rfl⟩

end Go.Proofs.Ytgmigcmhnmmdkaa
/- What is the same. -/
set_option linter.all false
set_option maxRecDepth 100000
namespace Go.Proofs.Ytgmigcmhnmmdkaa
open Go.RowKit Go.Sep
attribute [local irreducible] Go.wpList Go.Code.wp

theorem bsl_lit {I : IM} {b n : Nat} {cs : Array Value} {T : TypeId} {fr : Nat × Nat} {l : List UInt8} (h : I b = some (.cells cs T fr)) (hc : cs.toList = l.map bV) (hn : n = l.length) : BSl I l (.slice (some ⟨b, 0, none⟩) n n) := by
  subst hn
  refine ⟨_, _, rfl, Nat.le_refl _, fun j x hj => ⟨b, 0, cs, T, fr, rfl, h, ?_⟩⟩
  have : cs.toList[j]? = some (bV x) := by rw [hc, List.getElem?_map, hj]; rfl
  rw [Nat.zero_add]
  have h2 : cs[j]? = some (bV x) := by simpa using this
  exact h2
theorem idSame_c {I : IM} {A B : Ev.T} {ba bb : Bool} {pa pb : Option Addr} (hA : Ev.TRep I A ba pa) (hB : Ev.TRep I B bb pb) : Fun Try.prog 18 #[.agg #[.bool ba, .pointer pa], .agg #[.bool bb, .pointer pb]] I (fun v J => v = .bool (decide (A = B))) := by
  have := Ev.idsame_c hA hB
  rw [cover_same] at this; exact this
theorem evSame_c {I : IM} {A B : Ev.E} {ba bb : Nat} {pa pb : Option Addr} (hA : Ev.ERep I A ba pa) (hB : Ev.ERep I B bb pb) (a : A.nf ∧ A.depth ≤ 16 ∧ A.top ≤ 1048576) (b : B.nf ∧ B.depth ≤ 16 ∧ B.top ≤ 1048576) : Fun Try.prog 19 #[.agg #[.int .u64 ((ba : Nat) : Int), .pointer pa], .agg #[.int .u64 ((bb : Nat) : Int), .pointer pb]] I (fun v J => v = .bool (decide (A = B))) := by
  have := Ev.same_c hA hB (by omega) (by omega) (by omega) (by omega)
  rw [leq_same_iff a.1 b.1 (by omega) (by omega)] at this; exact this
theorem equalT_c {I : IM} {l l2 : List UInt8} {a a2 : Option Addr} {n c n2 c2 : Nat} (hl : BSl I l (.slice a n c)) (hl2 : BSl I l2 (.slice a2 n2 c2)) (e : l = l2) : Fun Try.prog 14 #[.slice a n c, .slice a2 n2 c2] I (fun v J => v = .bool true) := by
  have := equalD_c hl hl2
  rw [decide_eq_true e] at this; exact this
def okE (e : Ev.E) : Prop := e.nf ∧ e.depth ≤ 7 ∧ e.top ≤ 7 + 3 * 7
theorem okE.w {e : Ev.E} (h : okE e) : e.nf ∧ e.depth ≤ 16 ∧ e.top ≤ 1048576 := ⟨h.1, by have := h.2.1; omega, by have := h.2.2; omega⟩
theorem okE.t {e : Ev.E} (h : okE e) : e.top < 18446744073709551616 := by have := h.2.2; omega
theorem okE.len {e : Ev.E} (h : okE e) : (evB e).length ≤ 40000 := by have := evB_len e 7 h.2.1; omega
def okT (t : Ev.T) : Prop := t.nf ∧ t.depth ≤ 7
theorem okT.len {t : Ev.T} (h : okT t) : (idB t).length ≤ 1000 := by have := idB_len t 7 h.2; omega

set_option maxHeartbeats 400000 in
theorem stampSame_c {I : IM} {t t2 : Ev.T} {e e2 : Ev.E} {bi bi2 : Bool} {pi pi2 : Option Addr} {be be2 : Nat} {pe pe2 : Option Addr} (ht : Ev.TRep I t bi pi) (ht2 : Ev.TRep I t2 bi2 pi2) (he : Ev.ERep I e be pe) (he2 : Ev.ERep I e2 be2 pe2) (ho : okE e) (ho2 : okE e2) : Fun Try.prog 17 #[.agg #[.bool bi, .pointer pi, .int .u64 ((be : Nat) : Int), .pointer pe], .agg #[.bool bi2, .pointer pi2, .int .u64 ((be2 : Nat) : Int), .pointer pe2]] I (fun v J => v = .bool (decide (t = t2 ∧ e = e2))) := by
 refine enter_rule 17 [(0, .agg #[.bool bi, .pointer pi, .int .u64 be, .pointer pe]), (1, .agg #[.bool bi2, .pointer pi2, .int .u64 be2, .pointer pe2])] Try.func17 rfl (by kernel_rfl) ?_
 intro w s
 refine seqR ?_
 refine ops_rule (C := []) [] [] 3 [] 2 (fun φ1 => [(4, .bool false), (3, pB (φ1 1)), (2, pB (φ1 0))]) (fun φ1 => [(φ1 0, .cells #[.bool bi, .pointer pi, .int .u64 be, .pointer pe] 32), (φ1 1, .cells #[.bool bi2, .pointer pi2, .int .u64 be2, .pointer pe2] 32)]) (fun φ1 => []) s trivial (fun φ1 => by kernel_rfl) ?_
 intro φ1 w1 s
 refine ops_done (by kernel_rfl) ?_
 refine seqR ?_
 refine ops_rule (C := []) _ [] 4 [.o 0, .o 0, .o 1, .o 1] 0 (fun φ2 => [(8, .agg #[.bool bi2, .pointer pi2]), (7, pB (φ1 1)), (6, .agg #[.bool bi, .pointer pi]), (5, pB (φ1 0))]) (fun φ2 => [(φ1 0, .cells #[.bool bi, .pointer pi, .int .u64 be, .pointer pe] 32), (φ1 1, .cells #[.bool bi2, .pointer pi2, .int .u64 be2, .pointer pe2] 32)]) (fun φ2 => [φ1 0, φ1 0, φ1 1, φ1 1]) s trivial (fun φ2 => by kernel_rfl) ?_
 intro φ2 w2 s
 refine call_rule (some 9) s (idSame_c ht ht2) (by kernel_rfl) ?_
 intro v3 I3 w3 le3 h3 s
 replace he := Ev.ERep.mono le3 he
 replace he2 := Ev.ERep.mono le3 he2
 obtain rfl := h3
 refine ops_rule (C := []) _ [] 1 [] 0 (fun φ4 => [(10, .bool (decide (t = t2)))]) (fun φ4 => [(φ1 0, .cells #[.bool bi, .pointer pi, .int .u64 be, .pointer pe] 32), (φ1 1, .cells #[.bool bi2, .pointer pi2, .int .u64 be2, .pointer pe2] 32)]) (fun φ4 => []) s trivial (fun φ4 => by kernel_rfl) ?_
 intro φ4 w4 s
 rcases Bool.eq_false_or_eq_true (decide (t = t2)) with hc5 | hc5
 ·
  rw [hc5]
  refine ops_rule (C := []) _ [] 4 [.o 0, .o 0, .o 1, .o 1] 0 (fun φ6 => [(14, .agg #[.int .u64 be2, .pointer pe2]), (13, .pointer (some ⟨(φ1 1), 2, none⟩)), (12, .agg #[.int .u64 be, .pointer pe]), (11, .pointer (some ⟨(φ1 0), 2, none⟩))]) (fun φ6 => [(φ1 0, .cells #[.bool bi, .pointer pi, .int .u64 be, .pointer pe] 32), (φ1 1, .cells #[.bool bi2, .pointer pi2, .int .u64 be2, .pointer pe2] 32)]) (fun φ6 => [φ1 0, φ1 0, φ1 1, φ1 1]) s trivial (fun φ6 => by kernel_rfl) ?_
  intro φ6 w6 s
  refine call_rule (some 15) s (evSame_c he he2 (okE.w ho) (okE.w ho2)) (by kernel_rfl) ?_
  intro v7 I7 w7 le7 h7 s
  obtain rfl := h7
  refine ops_rule (C := []) _ [] 2 [] 0 (fun φ8 => [(4, .bool (decide (e = e2))), (16, .bool (decide (e = e2)))]) (fun φ8 => [(φ1 0, .cells #[.bool bi, .pointer pi, .int .u64 be, .pointer pe] 32), (φ1 1, .cells #[.bool bi2, .pointer pi2, .int .u64 be2, .pointer pe2] 32)]) (fun φ8 => []) s trivial (fun φ8 => by kernel_rfl) ?_
  intro φ8 w8 s
  refine ops_done (by kernel_rfl) ?_
  refine wp_ret ?_
  refine ret_rule (C := []) _ [] (.bool (decide (e = e2))) [] [] s trivial (by kernel_rfl) ?_
  exact ⟨_, _, _, rfl, s, (congrArg Value.bool (by simp only [decide_eq_true_eq, decide_eq_false_iff_not] at *; simp [*]))⟩
 ·
  rw [hc5]
  refine ops_rule (C := []) _ [] 7 [] 0 (fun φ9 => [(4, .bool false), (16, .bool false), (15, undef), (14, undef), (13, undef), (12, undef), (11, undef)]) (fun φ9 => [(φ1 0, .cells #[.bool bi, .pointer pi, .int .u64 be, .pointer pe] 32), (φ1 1, .cells #[.bool bi2, .pointer pi2, .int .u64 be2, .pointer pe2] 32)]) (fun φ9 => []) s trivial (fun φ9 => by kernel_rfl) ?_
  intro φ9 w9 s
  refine ops_done (by kernel_rfl) ?_
  refine wp_ret ?_
  refine ret_rule (C := []) [(φ1 0, .cells #[.bool bi, .pointer pi, .int .u64 be, .pointer pe] 32), (φ1 1, .cells #[.bool bi2, .pointer pi2, .int .u64 be2, .pointer pe2] 32)] [] (.bool false) [] [] s trivial (by kernel_rfl) ?_
  exact ⟨_, _, _, rfl, s, (congrArg Value.bool (by simp only [decide_eq_true_eq, decide_eq_false_iff_not] at *; simp [*]))⟩

set_option maxHeartbeats 400000 in
theorem awake7_c {I : IM} : Fun Try.prog 6 #[] I (fun v J => v = .bool true) := by
 refine enter_rule 5 [] Try.func6 rfl (by kernel_rfl) ?_
 intro w s
 refine seqR ?_
 refine ops_rule (C := []) [] [] 1 [] 0 (fun φ1 => [(0, .bool false)]) (fun φ1 => []) (fun φ1 => []) s trivial (fun φ1 => by kernel_rfl) ?_
 intro φ1 w1 s
 refine ops_done (by kernel_rfl) ?_
 refine seqR ?_
 refine call_rule (some 1) s (seed_c) (by kernel_rfl) ?_
 intro v2 I2 w2 le2 h2 s
 obtain rfl := h2
 refine call_rule (some 2) s (codeStamp_c (Ev.TRep.o _) (Ev.ERep.lf _ 0) (by decide) (by decide)) (by kernel_rfl) ?_
 intro v3 I3 w3 le3 h3 s
 obtain ⟨a3, c3, rfl, h3_0⟩ := h3
 refine ops_rule (C := []) [] [] 1 [] 1 (fun φ4 => [(3, .slice (some ⟨(φ4 0), 0, none⟩) 1 1)]) (fun φ4 => [(φ4 0, .cells #[.int .u8 48] 5)]) (fun φ4 => []) s trivial (fun φ4 => by kernel_rfl) ?_
 intro φ4 w4 s
 obtain ⟨I5, le5, hk5, s⟩ := s.freezeAt 0 (φ4 0) (.cells #[.int .u8 48] 5) [] (by kernel_rfl) (by kernel_rfl)
 replace h3_0 := BSl.mono le5 h3_0
 refine call_rule (some 4) s (equalT_c h3_0 (bsl_lit (l := ([48] : List UInt8)) hk5 (by kernel_rfl) rfl) (by decide)) (by kernel_rfl) ?_
 intro v6 I6 w6 le6 h6 s
 obtain rfl := h6
 refine ops_rule (C := []) [] [] 1 [] 0 (fun φ7 => [(0, .bool true)]) (fun φ7 => []) (fun φ7 => []) s trivial (fun φ7 => by kernel_rfl) ?_
 intro φ7 w7 s
 refine ops_done (by kernel_rfl) ?_
 refine wp_ret ?_
 refine ret_rule (C := []) [] [] (.bool true) [] [] s trivial (by kernel_rfl) ?_
 exact ⟨_, _, _, rfl, s, rfl⟩

theorem made7_c {I : IM} {p q : List UInt8} {vp vq : Value} (hp : BSl I p vp) (hq : BSl I q vq) : Fun Try.prog 7 #[vp, vq] I (fun v J => ∃ ib ip eb ep ki ke i e, v = .tuple #[.agg #[.bool ib, .pointer ip, .int .u64 ((eb : Nat) : Int), .pointer ep], .agg #[.pointer (some ⟨ki, 0, none⟩), .pointer (some ⟨ke, 0, none⟩)]] ∧ okT i ∧ okE e ∧ Ev.TRep J i ib ip ∧ Ev.ERep J e eb ep ∧ Ev.RT J i ki ∧ Ev.RE J e ke) := Ev.made_c hp hq

end Go.Proofs.Ytgmigcmhnmmdkaa
/- What is read of bits: ids and events, as the program reads them. -/
set_option linter.all false
namespace Go.Proofs.Ytgmigcmhnmmdkaa

/-- what is read, the error that is told, how many bits have gone, the reader's error -/
structure Rd (α : Type) where
  t : α
  er : Nat
  d : Nat
  e : Nat
def gV (e : Nat) (B : List Bool) (k : Nat) : Nat := if e = 0 ∧ k ≤ B.length then rdB B k else 0
def gD (e : Nat) (B : List Bool) (k : Nat) : Nat := if e = 0 ∧ k ≤ B.length then k else 0
def gE (e : Nat) (B : List Bool) (k : Nat) : Nat := if e = 0 ∧ B.length < k then 6 else e
theorem gD_le (e : Nat) (B : List Bool) (k : Nat) : gD e B k ≤ B.length := by unfold gD; split <;> omega
theorem gV_ge {l : List UInt8} {p e k : Nat} (hp : p ≤ l.length * 8) : geV l p e k = gV e ((bitsL l).drop p) k := by
  unfold geV gV; rw [dropB_len]
  split
  · rename_i h; rw [rdB_rd (by omega)]
  · rfl
theorem gD_ge {l : List UInt8} {p e k : Nat} : geD l p e k = gD e ((bitsL l).drop p) k := by unfold geD gD; rw [dropB_len]
theorem gE_ge {l : List UInt8} {p e k : Nat} : geE l p e k = gE e ((bitsL l).drop p) k := by unfold geE gE; rw [dropB_len]
theorem next_B {l : List UInt8} {p d : Nat} {B : List Bool} (h : (bitsL l).drop p = B) : (bitsL l).drop (p + d) = B.drop d := by
  rw [← h, List.drop_drop]
theorem next_p {l : List UInt8} {p d : Nat} {B : List Bool} (hp : p ≤ l.length * 8) (h : (bitsL l).drop p = B) (hd : d ≤ B.length) : p + d ≤ l.length * 8 := by
  have := congrArg List.length h; rw [dropB_len] at this; omega
theorem drop_drop (B : List Bool) (a b : Nat) : (B.drop a).drop b = B.drop (a + b) := by rw [List.drop_drop]
theorem drop_le {B : List Bool} {a b : Nat} (ha : a ≤ B.length) (h : b ≤ (B.drop a).length) : a + b ≤ B.length := by
  rw [List.length_drop] at h; omega
theorem bnD_le (B : List Bool) (e : Nat) : bnD B e ≤ B.length := by
  unfold bnD; split
  · rename_i h; have := h.2; unfold fewBad at this; omega
  · omega
/-- two halves -/
structure Rh (α : Type) where
  l : α
  r : α
  er : Nat
  d : Nat
  e : Nat
def hL {α : Type} (g : List Bool → Rd α) (z : α) (a : Bool) (B : List Bool) : Rd α := if a = true then g B else ⟨z, 0, 0, 0⟩
def hR {α : Type} (g : List Bool → Rd α) (z : α) (b : Bool) (L : Rd α) (B : List Bool) : Rd α := if b = true ∧ L.er = 0 then g (B.drop L.d) else ⟨z, L.er, 0, L.e⟩
def hvG {α : Type} (g : List Bool → Rd α) (z : α) (a b : Bool) (B : List Bool) : Rh α :=
  ⟨(hL g z a B).t, (hR g z b (hL g z a B) B).t, (hR g z b (hL g z a B) B).er, (hL g z a B).d + (hR g z b (hL g z a B) B).d, (hR g z b (hL g z a B) B).e⟩
structure OkG {α : Type} (depth top : α → Nat) (g : List Bool → Rd α) : Prop where
  d : ∀ B, (g B).d ≤ B.length
  e : ∀ B, (g B).er = 0 → (g B).e = 0
  s : ∀ B, depth (g B).t ≤ 16
  t : ∀ B, top (g B).t ≤ 1048576
theorem hL_ok {α : Type} {dp tp : α → Nat} {g : List Bool → Rd α} {z : α} (h : OkG dp tp g) (hz : dp z ≤ 16 ∧ tp z ≤ 1048576) (a : Bool) : OkG dp tp (hL g z a) := by
  refine ⟨fun B => ?_, fun B => ?_, fun B => ?_, fun B => ?_⟩ <;> unfold hL <;> split
  · exact h.d B
  · exact Nat.zero_le _
  · exact h.e B
  · exact fun _ => rfl
  · exact h.s B
  · exact hz.1
  · exact h.t B
  · exact hz.2
theorem hR_d {α : Type} {dp tp : α → Nat} {g : List Bool → Rd α} {z : α} {b : Bool} {L : Rd α} {B : List Bool} (h : OkG dp tp g) : (hR g z b L B).d ≤ (B.drop L.d).length := by
  unfold hR; split
  · exact h.d _
  · exact Nat.zero_le _
theorem hR_e {α : Type} {dp tp : α → Nat} {g : List Bool → Rd α} {z : α} {b : Bool} {L : Rd α} {B : List Bool} (h : OkG dp tp g) (hl : L.er = 0 → L.e = 0) : (hR g z b L B).er = 0 → (hR g z b L B).e = 0 := by
  unfold hR; split
  · exact h.e _
  · exact hl
theorem hR_s {α : Type} {dp tp : α → Nat} {g : List Bool → Rd α} {z : α} {b : Bool} {L : Rd α} {B : List Bool} (h : OkG dp tp g) (hz : dp z ≤ 16 ∧ tp z ≤ 1048576) : dp (hR g z b L B).t ≤ 16 ∧ tp (hR g z b L B).t ≤ 1048576 := by
  unfold hR; split
  · exact ⟨h.s _, h.t _⟩
  · exact hz
theorem hv_d {α : Type} {dp tp : α → Nat} {g : List Bool → Rd α} {z : α} {a b : Bool} {B : List Bool} (h : OkG dp tp g) (hz : dp z ≤ 16 ∧ tp z ≤ 1048576) : (hvG g z a b B).d ≤ B.length :=
  drop_le ((hL_ok h hz a).d B) (hR_d h)
theorem hv_e {α : Type} {dp tp : α → Nat} {g : List Bool → Rd α} {z : α} {a b : Bool} {B : List Bool} (h : OkG dp tp g) (hz : dp z ≤ 16 ∧ tp z ≤ 1048576) : (hvG g z a b B).er = 0 → (hvG g z a b B).e = 0 := hR_e h ((hL_ok h hz a).e B)
theorem hv_s {α : Type} {dp tp : α → Nat} {g : List Bool → Rd α} {z : α} {a b : Bool} {B : List Bool} (h : OkG dp tp g) (hz : dp z ≤ 16 ∧ tp z ≤ 1048576) : (dp (hvG g z a b B).l ≤ 16 ∧ tp (hvG g z a b B).l ≤ 1048576) ∧ dp (hvG g z a b B).r ≤ 16 ∧ tp (hvG g z a b B).r ≤ 1048576 :=
  ⟨⟨(hL_ok h hz a).s B, (hL_ok h hz a).t B⟩, hR_s h hz⟩
/- ids -/
def lfG (B : List Bool) : Rd Ev.T := if gE 0 B 1 ≠ 0 then ⟨.zero, 6, gD 0 B 1, gE 0 B 1⟩ else if gV 0 B 1 = 1 then ⟨.one, 0, gD 0 B 1, gE 0 B 1⟩ else ⟨.zero, 0, gD 0 B 1, gE 0 B 1⟩
def idN (g : List Bool → Rd Ev.T) (last : Bool) (B : List Bool) : Rd Ev.T :=
  if gE 0 B 2 ≠ 0 then ⟨.zero, 6, gD 0 B 2, gE 0 B 2⟩
  else if gV 0 B 2 = 0 then ⟨(lfG (B.drop (gD 0 B 2))).t, (lfG (B.drop (gD 0 B 2))).er, gD 0 B 2 + (lfG (B.drop (gD 0 B 2))).d, (lfG (B.drop (gD 0 B 2))).e⟩
  else if last = true then ⟨.zero, 3, gD 0 B 2, gE 0 B 2⟩
  else if (hvG g .zero (decide (gV 0 B 2 ≠ 1)) (decide (gV 0 B 2 ≠ 2)) (B.drop (gD 0 B 2))).er ≠ 0 then ⟨.zero, (hvG g .zero (decide (gV 0 B 2 ≠ 1)) (decide (gV 0 B 2 ≠ 2)) (B.drop (gD 0 B 2))).er, gD 0 B 2 + (hvG g .zero (decide (gV 0 B 2 ≠ 1)) (decide (gV 0 B 2 ≠ 2)) (B.drop (gD 0 B 2))).d, (hvG g .zero (decide (gV 0 B 2 ≠ 1)) (decide (gV 0 B 2 ≠ 2)) (B.drop (gD 0 B 2))).e⟩
  else if idK (Ev.pairT (hvG g .zero (decide (gV 0 B 2 ≠ 1)) (decide (gV 0 B 2 ≠ 2)) (B.drop (gD 0 B 2))).l (hvG g .zero (decide (gV 0 B 2 ≠ 1)) (decide (gV 0 B 2 ≠ 2)) (B.drop (gD 0 B 2))).r).1 ≠ gV 0 B 2 then ⟨.zero, 6, gD 0 B 2 + (hvG g .zero (decide (gV 0 B 2 ≠ 1)) (decide (gV 0 B 2 ≠ 2)) (B.drop (gD 0 B 2))).d, (hvG g .zero (decide (gV 0 B 2 ≠ 1)) (decide (gV 0 B 2 ≠ 2)) (B.drop (gD 0 B 2))).e⟩
  else ⟨(Ev.pairT (hvG g .zero (decide (gV 0 B 2 ≠ 1)) (decide (gV 0 B 2 ≠ 2)) (B.drop (gD 0 B 2))).l (hvG g .zero (decide (gV 0 B 2 ≠ 1)) (decide (gV 0 B 2 ≠ 2)) (B.drop (gD 0 B 2))).r).1, (Ev.pairT (hvG g .zero (decide (gV 0 B 2 ≠ 1)) (decide (gV 0 B 2 ≠ 2)) (B.drop (gD 0 B 2))).l (hvG g .zero (decide (gV 0 B 2 ≠ 1)) (decide (gV 0 B 2 ≠ 2)) (B.drop (gD 0 B 2))).r).2, gD 0 B 2 + (hvG g .zero (decide (gV 0 B 2 ≠ 1)) (decide (gV 0 B 2 ≠ 2)) (B.drop (gD 0 B 2))).d, (hvG g .zero (decide (gV 0 B 2 ≠ 1)) (decide (gV 0 B 2 ≠ 2)) (B.drop (gD 0 B 2))).e⟩
def idG : Nat → List Bool → Rd Ev.T
  | 0 => idN (fun _ => ⟨.zero, 0, 0, 0⟩) true
  | f + 1 => idN (idG f) false
abbrev OkT := OkG Ev.T.depth (fun _ => 0)
theorem okZ : OkT (fun _ => ⟨.zero, 0, 0, 0⟩) := ⟨fun _ => Nat.zero_le _, fun _ _ => rfl, fun _ => Nat.zero_le _, fun _ => Nat.zero_le _⟩
theorem zT : Ev.T.zero.depth ≤ 16 ∧ (fun _ : Ev.T => 0) Ev.T.zero ≤ 1048576 := ⟨Nat.zero_le _, Nat.zero_le _⟩
theorem lfG_ok : OkT lfG := by
  refine ⟨fun B => ?_, fun B => ?_, fun B => ?_, fun B => Nat.zero_le _⟩ <;> unfold lfG <;> split
  · exact gD_le _ _ _
  · split <;> exact gD_le _ _ _
  · exact fun z => absurd (show (6 : Nat) = 0 from z) (by decide)
  · rename_i h; split <;> exact fun _ => Decidable.not_not.1 h
  · exact Nat.zero_le _
  · split <;> exact Nat.zero_le _
theorem pair_depth (l r : Ev.T) : (Ev.pairT l r).1.depth ≤ 16 := by
  unfold Ev.pairT; split
  · exact Nat.zero_le _
  · rename_i h; exact Nat.not_lt.1 h
theorem idN_ok {g : List Bool → Rd Ev.T} (h : OkT g) (last : Bool) : OkT (idN g last) := by
  refine ⟨fun B => ?_, fun B => ?_, fun B => ?_, fun B => Nat.zero_le _⟩ <;> unfold idN
  · split
    · exact gD_le _ _ _
    · split
      · exact drop_le (gD_le _ _ _) (lfG_ok.d _)
      · split
        · exact gD_le _ _ _
        · split
          · exact drop_le (gD_le _ _ _) (hv_d h zT)
          · split <;> exact drop_le (gD_le _ _ _) (hv_d h zT)
  · split
    · exact fun z => absurd (show (6 : Nat) = 0 from z) (by decide)
    · split
      · exact lfG_ok.e _
      · split
        · exact fun z => absurd (show (3 : Nat) = 0 from z) (by decide)
        · split
          · rename_i q; exact fun q' => absurd q' q
          · rename_i q
            split
            · exact fun z => absurd (show (6 : Nat) = 0 from z) (by decide)
            · exact fun _ => hv_e h zT (Decidable.not_not.1 q)
  · split
    · exact Nat.zero_le _
    · split
      · exact lfG_ok.s _
      · split
        · exact Nat.zero_le _
        · split
          · exact Nat.zero_le _
          · split
            · exact Nat.zero_le _
            · exact pair_depth _ _
theorem idG_ok : ∀ f, OkT (idG f)
  | 0 => idN_ok okZ true
  | f + 1 => idN_ok (idG_ok f) false
/- what was written is read again -/
theorem rdB_app {A X : List Bool} : ∀ {k : Nat}, k ≤ A.length → rdB (A ++ X) k = rdB A k
  | 0, _ => rfl
  | k + 1, h => by
    rw [rdB, rdB, rdB_app (k := k) (by omega), List.getD_eq_getElem?_getD, List.getD_eq_getElem?_getD, List.getElem?_append_left (by omega)]
theorem gD_app {A X : List Bool} : gD 0 (A ++ X) A.length = A.length := by unfold gD; rw [if_pos ⟨rfl, by simp⟩]
theorem gE_app {A X : List Bool} : gE 0 (A ++ X) A.length = 0 := by unfold gE; rw [if_neg (fun q => by have := q.2; simp at this; omega)]
theorem gV_app {A X : List Bool} : gV 0 (A ++ X) A.length = rdB A A.length := by unfold gV; rw [if_pos ⟨rfl, by simp⟩, rdB_app (Nat.le_refl _)]
theorem g2 (a b : Bool) (X : List Bool) : gD 0 (a :: b :: X) 2 = 2 ∧ gE 0 (a :: b :: X) 2 = 0 ∧ gV 0 (a :: b :: X) 2 = 2 * a.toNat + b.toNat := by
  refine ⟨gD_app (A := [a, b]), gE_app (A := [a, b]), ?_⟩
  rw [show a :: b :: X = [a, b] ++ X by rfl]
  have := gV_app (A := [a, b]) (X := X)
  rw [show ([a, b] : List Bool).length = 2 by rfl] at this
  rw [this]
  simp [rdB]
theorem g1 (a : Bool) (X : List Bool) : gD 0 (a :: X) 1 = 1 ∧ gE 0 (a :: X) 1 = 0 ∧ gV 0 (a :: X) 1 = a.toNat := by
  refine ⟨gD_app (A := [a]), gE_app (A := [a]), ?_⟩
  have := gV_app (A := [a]) (X := X)
  rw [show ([a] : List Bool).length = 1 by rfl] at this
  rw [show a :: X = [a] ++ X by rfl, this]
  simp [rdB]
theorem idG_back : ∀ (t : Ev.T) (f : Nat) (X : List Bool), t.nf → t.depth ≤ f → f ≤ 16 → idG f (idB t ++ X) = ⟨t, 0, (idB t).length, 0⟩ := by
  have leafc : ∀ (g : List Bool → Rd Ev.T) (last c : Bool) (X : List Bool), idN g last (false :: false :: c :: X) = ⟨if c = true then .one else .zero, 0, 3, 0⟩ := fun g last c X => by
    obtain ⟨h1, h2, h3⟩ := g2 false false (c :: X)
    replace h3 : gV 0 (false :: false :: c :: X) 2 = 0 := h3
    obtain ⟨k1, k2, k3⟩ := g1 c X
    unfold idN
    rw [h2, if_neg (fun q => q rfl), h3, if_pos rfl, h1]
    simp only [List.drop_succ_cons, List.drop_zero]
    unfold lfG
    rw [k2, if_neg (fun q => q rfl), k3, k1]
    cases c <;> rfl
  intro t
  induction t with
  | zero =>
    intro f X _ _ _
    have e : idB Ev.T.zero = [false, false, false] := by simp [idB, pb02, pb01]
    rw [e]
    cases f with
    | zero => exact leafc _ _ false X
    | succ f => exact leafc _ _ false X
  | one =>
    intro f X _ _ _
    have e : idB Ev.T.one = [false, false, true] := by simp [idB, pb02, pb11]
    rw [e]
    cases f with
    | zero => exact leafc _ _ true X
    | succ f => exact leafc _ _ true X
  | node l r ihl ihr =>
    intro f X hnf hd hf
    cases f with
    | zero => simp [Ev.T.depth] at hd
    | succ f =>
      have hdl : l.depth ≤ f ∧ r.depth ≤ f := by simp only [Ev.T.depth] at hd; omega
      have il := fun X => ihl f X hnf.1 hdl.1 (by omega)
      have ir := fun X => ihr f X hnf.2.1 hdl.2 (by omega)
      have hp : Ev.pairT l r = (.node l r, 0) := by
        unfold Ev.pairT; rw [hnf.2.2, if_neg (by omega)]
      have hk : idK (.node l r) ≠ 0 := by
        intro q; unfold idK at q
        rw [if_neg (by simp [Ev.T.isZero, Ev.T.isOne])] at q
        split at q
        · omega
        · split at q <;> omega
      have key : ∀ (a b : Bool) (Y : List Bool) (d : Nat), 2 * a.toNat + b.toNat = idK (.node l r) → hvG (idG f) .zero (decide (idK (.node l r) ≠ 1)) (decide (idK (.node l r) ≠ 2)) Y = ⟨l, r, 0, d, 0⟩ → idG (f + 1) (a :: b :: Y) = ⟨.node l r, 0, 2 + d, 0⟩ := fun a b Y d hab hv => by
        obtain ⟨h1, h2, h3⟩ := g2 a b Y
        rw [hab] at h3
        show idN (idG f) false (a :: b :: Y) = _
        unfold idN
        rw [h2, if_neg (fun q => q rfl), h3, if_neg hk, if_neg (by decide), h1]
        simp only [List.drop_succ_cons, List.drop_zero]
        rw [hv]
        simp only [hp]
        rw [if_neg (fun q => q rfl), if_neg (fun q => q rfl)]
      have e0 : (Ev.T.node l r).isZero = false := rfl
      have e1 : (Ev.T.node l r).isOne = false := rfl
      have e2 : (Ev.T.node l r).left = l := rfl
      have e3 : (Ev.T.node l r).right = r := rfl
      by_cases z1 : l.isZero = true
      · have hk1 : idK (.node l r) = 1 := by unfold idK; simp [e0, e1, e2, z1]
        have eB : idB (.node l r) = false :: true :: idB r := by simp [idB, hk1, pb12]
        rw [eB]
        have := key false true (idB r ++ X) (idB r).length (by rw [hk1]; rfl) (by
          rw [hk1]
          have a1 : hL (idG f) Ev.T.zero (decide ((1 : Nat) ≠ 1)) (idB r ++ X) = ⟨.zero, 0, 0, 0⟩ := rfl
          unfold hvG
          rw [a1]
          have a2 : hR (idG f) Ev.T.zero (decide ((1 : Nat) ≠ 2)) ⟨.zero, 0, 0, 0⟩ (idB r ++ X) = ⟨r, 0, (idB r).length, 0⟩ := by
            unfold hR; rw [if_pos ⟨by decide, rfl⟩]; exact ir X
          rw [a2, T_zero z1]; simp)
        simp only [List.cons_append, List.length_cons] at this ⊢
        rw [this, show 2 + (idB r).length = (idB r).length + 1 + 1 by omega]
      · by_cases z2 : r.isZero = true
        · have hk1 : idK (.node l r) = 2 := by unfold idK; simp [e0, e1, e2, e3, z1, z2]
          have eB : idB (.node l r) = true :: false :: idB l := by simp [idB, hk1, pb22]
          rw [eB]
          have := key true false (idB l ++ X) (idB l).length (by rw [hk1]; rfl) (by
            rw [hk1]
            have a1 : hL (idG f) Ev.T.zero (decide ((2 : Nat) ≠ 1)) (idB l ++ X) = ⟨l, 0, (idB l).length, 0⟩ := by
              unfold hL; rw [if_pos (by decide)]; exact il X
            unfold hvG
            rw [a1]
            have a2 : hR (idG f) Ev.T.zero (decide ((2 : Nat) ≠ 2)) ⟨l, 0, (idB l).length, 0⟩ (idB l ++ X) = ⟨.zero, 0, 0, 0⟩ := by
              unfold hR; rw [if_neg (by simp)]
            rw [a2, T_zero z2]; simp)
          simp only [List.cons_append, List.length_cons] at this ⊢
          rw [this, show 2 + (idB l).length = (idB l).length + 1 + 1 by omega]
        · have hk1 : idK (.node l r) = 3 := by unfold idK; simp [e0, e1, e2, e3, z1, z2]
          have eB : idB (.node l r) = true :: true :: (idB l ++ idB r) := by simp [idB, hk1, pb32]
          rw [eB]
          have := key true true (idB l ++ (idB r ++ X)) ((idB l).length + (idB r).length) (by rw [hk1]; rfl) (by
            rw [hk1]
            have a1 : hL (idG f) Ev.T.zero (decide ((3 : Nat) ≠ 1)) (idB l ++ (idB r ++ X)) = ⟨l, 0, (idB l).length, 0⟩ := by
              unfold hL; rw [if_pos (by decide)]; exact il _
            unfold hvG
            rw [a1]
            have a2 : hR (idG f) Ev.T.zero (decide ((3 : Nat) ≠ 2)) ⟨l, 0, (idB l).length, 0⟩ (idB l ++ (idB r ++ X)) = ⟨r, 0, (idB r).length, 0⟩ := by
              unfold hR; rw [if_pos ⟨by decide, rfl⟩, List.drop_left]; exact ir X
            rw [a2])
          simp only [List.cons_append, List.length_cons, List.append_assoc, List.length_append] at this ⊢
          rw [this, show 2 + ((idB l).length + (idB r).length) = ((idB l).length + (idB r).length) + 1 + 1 by omega]
end Go.Proofs.Ytgmigcmhnmmdkaa
