/- Events are written. -/
import Derived.Test.YtgmigcmhnmmdkaaCoK2
set_option linter.all false
set_option maxRecDepth 100000
namespace Go.Proofs.Ytgmigcmhnmmdkaa
open Go.RowKit Go.Sep
attribute [local irreducible] Go.wpList Go.Code.wp

theorem putID_c : ∀ (t : Ev.T) {I : IM} {bi : Bool} {pi : Option Addr} {b cnt : Nat} {bs : List Bool} {v0 : Value} {F : List OB}, Ev.TRep I t bi pi → cnt = bs.length → bs.length + (idB t).length ≤ 700000 → RowH 5 1 v0 (pk bs).length ((pk bs).map bV) F → FunM Try.prog 24 #[.pointer (some ⟨b, 0, none⟩), .agg #[.bool bi, .pointer pi]] I ((b, .cells #[v0, .int .i64 ((cnt : Nat) : Int)] 91) :: F) (fun v J H' => ∃ (b' : OB) (F' : List OB), H' = b' :: F' ∧ b'.1 = b ∧ ∃ v', v = .tuple #[] ∧ b' = (b, .cells #[v', .int .i64 ((cnt + (idB t).length : Nat) : Int)] 91) ∧ RowH 5 1 v' (pk (bs ++ idB t)).length ((pk (bs ++ idB t)).map bV) F')
  | .zero, _, _, _, _, _, _, _, _, ht, hc, hlen, h => putID_step ht hc hlen h (fun q => absurd rfl q) (fun q => absurd rfl q)
  | .one, _, _, _, _, _, _, _, _, ht, hc, hlen, h => putID_step ht hc hlen h (fun q => absurd rfl q) (fun q => absurd rfl q)
  | .node l r, _, _, _, _, _, _, _, _, ht, hc, hlen, h => putID_step ht hc hlen h (fun _ _ {J} {b1} {p1} {cnt} {bs} {v0} {F} a1 a2 a3 a4 => putID_c l a1 a2 a3 a4) (fun _ _ {J} {b1} {p1} {cnt} {bs} {v0} {F} a1 a2 a3 a4 => putID_c r a1 a2 a3 a4)

set_option maxHeartbeats 400000 in
theorem isNought_c {I : IM} {e : Ev.E} {be : Nat} {pe : Option Addr} (he : Ev.ERep I e be pe) (htop : e.top < 18446744073709551616) : Fun Try.prog 82 #[.agg #[.int .u64 ((be : Nat) : Int), .pointer pe]] I (fun v J => v = .bool (decide (e.top = 0))) := by
  refine enter_rule 6 [(0, .agg #[.int .u64 ((be : Nat) : Int), .pointer pe])] Try.func82 rfl (by kernel_rfl) ?_
  intro w s
  refine wp_seq ?_
  refine region_rule ?_
  refine ops_rule (C := []) [] [] 2 [] 1 (fun φ1 => [(2, .bool false), (1, .pointer (some ⟨(φ1 0), 0, none⟩))]) (fun φ1 => [((φ1 0), .cells #[.int .u64 ((be : Nat) : Int), .pointer pe] 30)]) (fun φ1 => []) s trivial (fun φ1 => by kernel_rfl) ?_
  intro φ1 w1 s
  refine ops_done (by kernel_rfl) ?_
  refine wp_seq ?_
  refine region_rule ?_
  refine ops_rule (C := []) [((φ1 0), .cells #[.int .u64 ((be : Nat) : Int), .pointer pe] 30)] [] 1 [.o 0, .o 0] 0 (fun φ2 => [(3, .agg #[.int .u64 ((be : Nat) : Int), .pointer pe])]) (fun φ2 => [((φ1 0), .cells #[.int .u64 ((be : Nat) : Int), .pointer pe] 30)]) (fun φ2 => [(φ1 0), (φ1 0)]) s trivial (fun φ2 => by kernel_rfl) ?_
  intro φ2 w2 s
  refine call_rule (some 4) s (Ev.max_c he (htop)) (by kernel_rfl) ?_
  intro v3 I3 w3 le3 h3 s
  replace he := Ev.ERep.mono le3 he
  obtain rfl := h3
  refine ops_rule (C := []) [((φ1 0), .cells #[.int .u64 ((be : Nat) : Int), .pointer pe] 30)] [] 2 [] 0 (fun φ4 => [(2, .bool (((e.top : Nat) : Int) == ((0 : Nat) : Int))), (5, .bool (((e.top : Nat) : Int) == ((0 : Nat) : Int)))]) (fun φ4 => [((φ1 0), .cells #[.int .u64 ((be : Nat) : Int), .pointer pe] 30)]) (fun φ4 => []) s trivial (fun φ4 => by kernel_rfl) ?_
  intro φ4 w4 s
  rw [nat_eql (a := e.top) (b := 0)]
  refine ops_done (by kernel_rfl) ?_
  refine wp_ret ?_
  refine ret_rule (C := []) [((φ1 0), .cells #[.int .u64 ((be : Nat) : Int), .pointer pe] 30)] [] (.bool (decide (e.top = 0))) [] [] s trivial (by kernel_rfl) ?_
  exact ⟨_, _, _, rfl, s, rfl⟩

set_option maxHeartbeats 400000 in
theorem halvesKind_c {I : IM} {e e2 : Ev.E} {be be2 : Nat} {pe pe2 : Option Addr} (he : Ev.ERep I e be pe) (he2 : Ev.ERep I e2 be2 pe2) (htop : e.top < 18446744073709551616) (htop2 : e2.top < 18446744073709551616) : Fun Try.prog 51 #[.agg #[.int .u64 ((be : Nat) : Int), .pointer pe], .agg #[.int .u64 ((be2 : Nat) : Int), .pointer pe2]] I (fun v J => v = .int .u64 ((kindE e e2 : Nat) : Int)) := by
  refine enter_rule 11 [(0, .agg #[.int .u64 ((be : Nat) : Int), .pointer pe]), (1, .agg #[.int .u64 ((be2 : Nat) : Int), .pointer pe2])] Try.func51 rfl (by kernel_rfl) ?_
  intro w s
  refine wp_seq ?_
  refine region_rule ?_
  refine ops_rule (C := []) [] [] 3 [] 2 (fun φ1 => [(4, .int .u64 0), (3, .pointer (some ⟨(φ1 1), 0, none⟩)), (2, .pointer (some ⟨(φ1 0), 0, none⟩))]) (fun φ1 => [((φ1 0), .cells #[.int .u64 ((be : Nat) : Int), .pointer pe] 30), ((φ1 1), .cells #[.int .u64 ((be2 : Nat) : Int), .pointer pe2] 30)]) (fun φ1 => []) s trivial (fun φ1 => by kernel_rfl) ?_
  intro φ1 w1 s
  refine ops_done (by kernel_rfl) ?_
  refine wp_seq ?_
  refine wp_block ?_
  refine wp_seq ?_
  refine region_rule ?_
  refine ops_rule (C := []) [((φ1 0), .cells #[.int .u64 ((be : Nat) : Int), .pointer pe] 30), ((φ1 1), .cells #[.int .u64 ((be2 : Nat) : Int), .pointer pe2] 30)] [] 1 [.o 0, .o 0] 0 (fun φ2 => [(6, .agg #[.int .u64 ((be : Nat) : Int), .pointer pe])]) (fun φ2 => [((φ1 0), .cells #[.int .u64 ((be : Nat) : Int), .pointer pe] 30), ((φ1 1), .cells #[.int .u64 ((be2 : Nat) : Int), .pointer pe2] 30)]) (fun φ2 => [(φ1 0), (φ1 0)]) s trivial (fun φ2 => by kernel_rfl) ?_
  intro φ2 w2 s
  refine call_rule (some 7) s (isNought_c he (htop)) (by kernel_rfl) ?_
  intro v3 I3 w3 le3 h3 s
  replace he := Ev.ERep.mono le3 he
  replace he2 := Ev.ERep.mono le3 he2
  obtain rfl := h3
  refine ops_rule (C := []) [((φ1 0), .cells #[.int .u64 ((be : Nat) : Int), .pointer pe] 30), ((φ1 1), .cells #[.int .u64 ((be2 : Nat) : Int), .pointer pe2] 30)] [] 1 [] 0 (fun φ4 => [(5, .bool (decide (e.top = 0)))]) (fun φ4 => [((φ1 0), .cells #[.int .u64 ((be : Nat) : Int), .pointer pe] 30), ((φ1 1), .cells #[.int .u64 ((be2 : Nat) : Int), .pointer pe2] 30)]) (fun φ4 => []) s trivial (fun φ4 => by kernel_rfl) ?_
  intro φ4 w4 s
  refine ops_done (by kernel_rfl) ?_
  rcases Bool.eq_false_or_eq_true (decide (e.top = 0)) with hc5 | hc5
  ·
    rw [hc5]
    refine cond_true_rule (b := true) (by kernel_rfl) rfl ?_
    refine wp_seq ?_
    refine region_rule ?_
    refine ops_rule (C := []) [((φ1 0), .cells #[.int .u64 ((be : Nat) : Int), .pointer pe] 30), ((φ1 1), .cells #[.int .u64 ((be2 : Nat) : Int), .pointer pe2] 30)] [] 1 [] 0 (fun φ6 => [(4, .int .u64 0)]) (fun φ6 => [((φ1 0), .cells #[.int .u64 ((be : Nat) : Int), .pointer pe] 30), ((φ1 1), .cells #[.int .u64 ((be2 : Nat) : Int), .pointer pe2] 30)]) (fun φ6 => []) s trivial (fun φ6 => by kernel_rfl) ?_
    intro φ6 w6 s
    refine ops_done (by kernel_rfl) ?_
    refine wp_ret ?_
    refine ret_rule (C := []) [((φ1 0), .cells #[.int .u64 ((be : Nat) : Int), .pointer pe] 30), ((φ1 1), .cells #[.int .u64 ((be2 : Nat) : Int), .pointer pe2] 30)] [] (.int .u64 0) [] [] s trivial (by kernel_rfl) ?_
    exact ⟨_, _, _, rfl, s, (by unfold kindE; rw [if_pos (of_decide_eq_true hc5)]; rfl)⟩
  ·
    rw [hc5]
    refine cond_false_rule (b := false) (by kernel_rfl) rfl ?_
    refine wp_seq ?_
    refine region_rule ?_
    refine ops_rule (C := []) [((φ1 0), .cells #[.int .u64 ((be : Nat) : Int), .pointer pe] 30), ((φ1 1), .cells #[.int .u64 ((be2 : Nat) : Int), .pointer pe2] 30)] [] 1 [.o 1, .o 1] 0 (fun φ7 => [(9, .agg #[.int .u64 ((be2 : Nat) : Int), .pointer pe2])]) (fun φ7 => [((φ1 0), .cells #[.int .u64 ((be : Nat) : Int), .pointer pe] 30), ((φ1 1), .cells #[.int .u64 ((be2 : Nat) : Int), .pointer pe2] 30)]) (fun φ7 => [(φ1 1), (φ1 1)]) s trivial (fun φ7 => by kernel_rfl) ?_
    intro φ7 w7 s
    refine call_rule (some 10) s (isNought_c he2 (htop2)) (by kernel_rfl) ?_
    intro v8 I8 w8 le8 h8 s
    replace he := Ev.ERep.mono le8 he
    replace he2 := Ev.ERep.mono le8 he2
    obtain rfl := h8
    refine ops_rule (C := []) [((φ1 0), .cells #[.int .u64 ((be : Nat) : Int), .pointer pe] 30), ((φ1 1), .cells #[.int .u64 ((be2 : Nat) : Int), .pointer pe2] 30)] [] 1 [] 0 (fun φ9 => [(8, .bool (decide (e2.top = 0)))]) (fun φ9 => [((φ1 0), .cells #[.int .u64 ((be : Nat) : Int), .pointer pe] 30), ((φ1 1), .cells #[.int .u64 ((be2 : Nat) : Int), .pointer pe2] 30)]) (fun φ9 => []) s trivial (fun φ9 => by kernel_rfl) ?_
    intro φ9 w9 s
    refine ops_done (by kernel_rfl) ?_
    rcases Bool.eq_false_or_eq_true (decide (e2.top = 0)) with hc10 | hc10
    ·
      rw [hc10]
      refine cond_true_rule (b := true) (by kernel_rfl) rfl ?_
      refine wp_seq ?_
      refine region_rule ?_
      refine ops_rule (C := []) [((φ1 0), .cells #[.int .u64 ((be : Nat) : Int), .pointer pe] 30), ((φ1 1), .cells #[.int .u64 ((be2 : Nat) : Int), .pointer pe2] 30)] [] 1 [] 0 (fun φ11 => [(4, .int .u64 1)]) (fun φ11 => [((φ1 0), .cells #[.int .u64 ((be : Nat) : Int), .pointer pe] 30), ((φ1 1), .cells #[.int .u64 ((be2 : Nat) : Int), .pointer pe2] 30)]) (fun φ11 => []) s trivial (fun φ11 => by kernel_rfl) ?_
      intro φ11 w11 s
      refine ops_done (by kernel_rfl) ?_
      refine wp_ret ?_
      refine ret_rule (C := []) [((φ1 0), .cells #[.int .u64 ((be : Nat) : Int), .pointer pe] 30), ((φ1 1), .cells #[.int .u64 ((be2 : Nat) : Int), .pointer pe2] 30)] [] (.int .u64 1) [] [] s trivial (by kernel_rfl) ?_
      exact ⟨_, _, _, rfl, s, (by unfold kindE; rw [if_neg (of_decide_eq_false hc5)]; rw [if_pos (of_decide_eq_true hc10)]; rfl)⟩
    ·
      rw [hc10]
      refine cond_false_rule (b := false) (by kernel_rfl) rfl ?_
      refine wp_skip ?_
      refine wp_seq ?_
      refine region_rule ?_
      refine ops_rule (C := []) [((φ1 0), .cells #[.int .u64 ((be : Nat) : Int), .pointer pe] 30), ((φ1 1), .cells #[.int .u64 ((be2 : Nat) : Int), .pointer pe2] 30)] [] 1 [] 0 (fun φ12 => [(4, .int .u64 2)]) (fun φ12 => [((φ1 0), .cells #[.int .u64 ((be : Nat) : Int), .pointer pe] 30), ((φ1 1), .cells #[.int .u64 ((be2 : Nat) : Int), .pointer pe2] 30)]) (fun φ12 => []) s trivial (fun φ12 => by kernel_rfl) ?_
      intro φ12 w12 s
      refine ops_done (by kernel_rfl) ?_
      refine wp_ret ?_
      refine ret_rule (C := []) [((φ1 0), .cells #[.int .u64 ((be : Nat) : Int), .pointer pe] 30), ((φ1 1), .cells #[.int .u64 ((be2 : Nat) : Int), .pointer pe2] 30)] [] (.int .u64 2) [] [] s trivial (by kernel_rfl) ?_
      exact ⟨_, _, _, rfl, s, (by unfold kindE; rw [if_neg (of_decide_eq_false hc5)]; rw [if_neg (of_decide_eq_false hc10)]; rfl)⟩

set_option maxHeartbeats 2000000 in
theorem putHead_c {I : IM} {b cnt : Nat} {bs : List Bool} {v0 : Value} {F : List OB} (hc : cnt = bs.length) (hlen : bs.length ≤ 750000) (h : RowH 5 1 v0 (pk bs).length ((pk bs).map bV) F) {k n : Nat} (hk : k < 3) (hn : n < 18446744073709551616) : FunM Try.prog 52 #[.pointer (some ⟨b, 0, none⟩), .int .u64 ((k : Nat) : Int), .int .u64 ((n : Nat) : Int)] I ((b, .cells #[v0, .int .i64 ((cnt : Nat) : Int)] 91) :: F) (fun v J H' => ∃ (b' : OB) (F' : List OB), H' = b' :: F' ∧ b'.1 = b ∧ ∃ v', v = .tuple #[] ∧ b' = (b, .cells #[v', .int .i64 ((cnt + (headB n k).length : Nat) : Int)] 91) ∧ RowH 5 1 v' (pk (bs ++ headB n k)).length ((pk (bs ++ headB n k)).map bV) F') := by
  refine enterM_rule 25 [(0, .pointer (some ⟨b, 0, none⟩)), (1, .int .u64 ((k : Nat) : Int)), (2, .int .u64 ((n : Nat) : Int))] Try.func52 rfl (by kernel_rfl) ?_
  intro w s
  refine wp_seq ?_
  refine wp_seq ?_
  refine region_rule ?_
  refine ops_rule (C := []) [(b, .cells #[v0, .int .i64 ((cnt : Nat) : Int)] 91)] F 2 [] 0 (fun φ1 => [(7, .bool (((n : Nat) : Int) == ((0 : Nat) : Int))), (6, .int .u64 ((n : Nat) : Int))]) (fun φ1 => [(b, .cells #[v0, .int .i64 ((cnt : Nat) : Int)] 91)]) (fun φ1 => []) s trivial (fun φ1 => by kernel_rfl) ?_
  intro φ1 w1 s
  rw [nat_eql (a := n) (b := 0)]
  refine ops_done (by kernel_rfl) ?_
  rcases Bool.eq_false_or_eq_true (decide (n = 0)) with hc2 | hc2
  ·
    rw [hc2]
    refine cond_true_rule (b := true) (by kernel_rfl) rfl ?_
    refine wp_seq ?_
    refine region_rule ?_
    refine ops_rule (C := []) [(b, .cells #[v0, .int .i64 ((cnt : Nat) : Int)] 91)] F 2 [] 0 (fun φ3 => [(9, .int .u64 ((k : Nat) : Int)), (8, .pointer (some ⟨b, 0, none⟩))]) (fun φ3 => [(b, .cells #[v0, .int .i64 ((cnt : Nat) : Int)] 91)]) (fun φ3 => []) s trivial (fun φ3 => by kernel_rfl) ?_
    intro φ3 w3 s
    refine callH_rule (b := (b, .cells #[v0, .int .i64 ((cnt : Nat) : Int)] 91)) (H := [(b, .cells #[v0, .int .i64 ((cnt : Nat) : Int)] 91)]) (F := F) (Hr := []) (some 10) 0 s (by kernel_rfl) (by kernel_rfl) (put_c (b := b) (cnt := cnt) (bs := bs) (v0 := v0) (n := k) (k := 2) (by (try simp only [List.length_append, putBits_len]); omega) (by (try simp only [List.length_append, putBits_len]); omega) h (by  have hq0 := of_decide_eq_true hc2; omega) (by  have hq0 := of_decide_eq_true hc2; omega)) (by kernel_rfl) ?_
    rintro v4 I4 w4 b4 F4 le4 - h4 s
    obtain ⟨v4, rfl, rfl, hr4⟩ := h4
    refine ops_done (by kernel_rfl) ?_
    refine wp_ret ?_
    refine ret_rule (C := []) [(b, .cells #[v4, .int .i64 ((cnt + 2 : Nat) : Int)] 91)] F4 (.tuple #[]) [] [] s trivial (by kernel_rfl) ?_
    replace s := s.drop (List.Sublist.append (List.Sublist.cons₂ _ List.Sublist.slnil) (List.Sublist.refl F4))
    have hz9 : (bs ++ putBits k 2) = bs ++ headB n k := (by unfold headB; rw [if_pos (of_decide_eq_true hc2)]; (try simp only [List.append_assoc]))
    have hL9 := congrArg List.length hz9
    simp only [List.length_append, putBits_len] at hL9
    have hc9 : cnt + 2 = cnt + (headB n k).length := (by omega)
    exact ⟨_, _, _, rfl, s, ⟨_, _, rfl, rfl, _, rfl, by rw [hc9], row_cast hr4 (congrArg pk hz9)⟩⟩
  ·
    rw [hc2]
    refine cond_false_rule (b := false) (by kernel_rfl) rfl ?_
    refine wp_skip ?_
    refine wp_seq ?_
    refine region_rule ?_
    refine ops_rule (C := []) [(b, .cells #[v0, .int .i64 ((cnt : Nat) : Int)] 91)] F 1 [] 0 (fun φ5 => [(11, .pointer (some ⟨b, 0, none⟩))]) (fun φ5 => [(b, .cells #[v0, .int .i64 ((cnt : Nat) : Int)] 91)]) (fun φ5 => []) s trivial (fun φ5 => by kernel_rfl) ?_
    intro φ5 w5 s
    refine callH_rule (b := (b, .cells #[v0, .int .i64 ((cnt : Nat) : Int)] 91)) (H := [(b, .cells #[v0, .int .i64 ((cnt : Nat) : Int)] 91)]) (F := F) (Hr := []) (some 12) 0 s (by kernel_rfl) (by kernel_rfl) (put_c (b := b) (cnt := cnt) (bs := bs) (v0 := v0) (n := 3) (k := 2) (by (try simp only [List.length_append, putBits_len]); omega) (by (try simp only [List.length_append, putBits_len]); omega) h (by  have hq0 := of_decide_eq_false hc2; omega) (by  have hq0 := of_decide_eq_false hc2; omega)) (by kernel_rfl) ?_
    rintro v6 I6 w6 b6 F6 le6 - h6 s
    obtain ⟨v6, rfl, rfl, hr6⟩ := h6
    refine ops_done (by kernel_rfl) ?_
    refine wp_seq ?_
    refine wp_seq ?_
    refine region_rule ?_
    refine ops_rule (C := []) [(b, .cells #[v6, .int .i64 ((cnt + 2 : Nat) : Int)] 91)] F6 2 [] 0 (fun φ7 => [(14, .bool (((k : Nat) : Int) == ((2 : Nat) : Int))), (13, .int .u64 ((k : Nat) : Int))]) (fun φ7 => [(b, .cells #[v6, .int .i64 ((cnt + 2 : Nat) : Int)] 91)]) (fun φ7 => []) s trivial (fun φ7 => by kernel_rfl) ?_
    intro φ7 w7 s
    rw [nat_eql (a := k) (b := 2)]
    refine ops_done (by kernel_rfl) ?_
    rcases Bool.eq_false_or_eq_true (decide (k = 2)) with hc8 | hc8
    ·
      rw [hc8]
      refine cond_true_rule (b := true) (by kernel_rfl) rfl ?_
      refine region_rule ?_
      refine ops_rule (C := []) [(b, .cells #[v6, .int .i64 ((cnt + 2 : Nat) : Int)] 91)] F6 1 [] 0 (fun φ9 => [(15, .pointer (some ⟨b, 0, none⟩))]) (fun φ9 => [(b, .cells #[v6, .int .i64 ((cnt + 2 : Nat) : Int)] 91)]) (fun φ9 => []) s trivial (fun φ9 => by kernel_rfl) ?_
      intro φ9 w9 s
      refine callH_rule (b := (b, .cells #[v6, .int .i64 ((cnt + 2 : Nat) : Int)] 91)) (H := [(b, .cells #[v6, .int .i64 ((cnt + 2 : Nat) : Int)] 91)]) (F := F6) (Hr := []) (some 16) 0 s (by kernel_rfl) (by kernel_rfl) (put_c (b := b) (cnt := cnt + 2) (bs := (bs ++ putBits 3 2)) (v0 := v6) (n := 1) (k := 1) (by (try simp only [List.length_append, putBits_len]); omega) (by (try simp only [List.length_append, putBits_len]); omega) hr6 (by  have hq0 := of_decide_eq_false hc2; have hq1 := of_decide_eq_true hc8; omega) (by  have hq0 := of_decide_eq_false hc2; have hq1 := of_decide_eq_true hc8; omega)) (by kernel_rfl) ?_
      rintro v10 I10 w10 b10 F10 le10 - h10 s
      obtain ⟨v10, rfl, rfl, hr10⟩ := h10
      refine ops_done (by kernel_rfl) ?_
      refine region_rule ?_
      refine ops_rule (C := []) [(b, .cells #[v10, .int .i64 ((cnt + 2 + 1 : Nat) : Int)] 91)] F10 2 [] 0 (fun φ11 => [(23, .int .u64 ((n : Nat) : Int)), (22, .pointer (some ⟨b, 0, none⟩))]) (fun φ11 => [(b, .cells #[v10, .int .i64 ((cnt + 2 + 1 : Nat) : Int)] 91)]) (fun φ11 => []) s trivial (fun φ11 => by kernel_rfl) ?_
      intro φ11 w11 s
      refine callH_rule (b := (b, .cells #[v10, .int .i64 ((cnt + 2 + 1 : Nat) : Int)] 91)) (H := [(b, .cells #[v10, .int .i64 ((cnt + 2 + 1 : Nat) : Int)] 91)]) (F := F10) (Hr := []) (some 24) 0 s (by kernel_rfl) (by kernel_rfl) (num_c (b := b) (cnt := cnt + 2 + 1) (bs := ((bs ++ putBits 3 2) ++ putBits 1 1)) (v0 := v10) (n := n) (by (try simp only [List.length_append, putBits_len]); omega) (by (try simp only [List.length_append, putBits_len]); omega) hr10 (hn)) (by kernel_rfl) ?_
      rintro v12 I12 w12 b12 F12 le12 - h12 s
      obtain ⟨v12, rfl, rfl, hr12⟩ := h12
      refine ops_done (by kernel_rfl) ?_
      refine end_rule (C := []) [(b, .cells #[v12, .int .i64 ((cnt + 2 + 1 + (numW 62 2 n).length : Nat) : Int)] 91)] F12 (.tuple #[]) [] [] s trivial (by kernel_rfl) ?_
      replace s := s.drop (List.Sublist.append (List.Sublist.cons₂ _ List.Sublist.slnil) (List.Sublist.refl F12))
      have hz9 : (((bs ++ putBits 3 2) ++ putBits 1 1) ++ numW 62 2 n) = bs ++ headB n k := (by unfold headB; rw [if_neg (of_decide_eq_false hc2)]; rw [if_pos (of_decide_eq_true hc8)]; (try simp only [List.append_assoc]))
      have hL9 := congrArg List.length hz9
      simp only [List.length_append, putBits_len] at hL9
      have hc9 : cnt + 2 + 1 + (numW 62 2 n).length = cnt + (headB n k).length := (by omega)
      exact ⟨_, _, _, rfl, s, ⟨_, _, rfl, rfl, _, rfl, by rw [hc9], row_cast hr12 (congrArg pk hz9)⟩⟩
    ·
      rw [hc8]
      refine cond_false_rule (b := false) (by kernel_rfl) rfl ?_
      refine wp_seq ?_
      refine region_rule ?_
      refine ops_rule (C := []) [(b, .cells #[v6, .int .i64 ((cnt + 2 : Nat) : Int)] 91)] F6 1 [] 0 (fun φ13 => [(17, .pointer (some ⟨b, 0, none⟩))]) (fun φ13 => [(b, .cells #[v6, .int .i64 ((cnt + 2 : Nat) : Int)] 91)]) (fun φ13 => []) s trivial (fun φ13 => by kernel_rfl) ?_
      intro φ13 w13 s
      refine callH_rule (b := (b, .cells #[v6, .int .i64 ((cnt + 2 : Nat) : Int)] 91)) (H := [(b, .cells #[v6, .int .i64 ((cnt + 2 : Nat) : Int)] 91)]) (F := F6) (Hr := []) (some 18) 0 s (by kernel_rfl) (by kernel_rfl) (put_c (b := b) (cnt := cnt + 2) (bs := (bs ++ putBits 3 2)) (v0 := v6) (n := 0) (k := 1) (by (try simp only [List.length_append, putBits_len]); omega) (by (try simp only [List.length_append, putBits_len]); omega) hr6 (by  have hq0 := of_decide_eq_false hc2; have hq1 := of_decide_eq_false hc8; omega) (by  have hq0 := of_decide_eq_false hc2; have hq1 := of_decide_eq_false hc8; omega)) (by kernel_rfl) ?_
      rintro v14 I14 w14 b14 F14 le14 - h14 s
      obtain ⟨v14, rfl, rfl, hr14⟩ := h14
      refine ops_done (by kernel_rfl) ?_
      refine region_rule ?_
      refine ops_rule (C := []) [(b, .cells #[v14, .int .i64 ((cnt + 2 + 1 : Nat) : Int)] 91)] F14 2 [] 0 (fun φ15 => [(20, .int .u64 ((k : Nat) : Int)), (19, .pointer (some ⟨b, 0, none⟩))]) (fun φ15 => [(b, .cells #[v14, .int .i64 ((cnt + 2 + 1 : Nat) : Int)] 91)]) (fun φ15 => []) s trivial (fun φ15 => by kernel_rfl) ?_
      intro φ15 w15 s
      refine callH_rule (b := (b, .cells #[v14, .int .i64 ((cnt + 2 + 1 : Nat) : Int)] 91)) (H := [(b, .cells #[v14, .int .i64 ((cnt + 2 + 1 : Nat) : Int)] 91)]) (F := F14) (Hr := []) (some 21) 0 s (by kernel_rfl) (by kernel_rfl) (put_c (b := b) (cnt := cnt + 2 + 1) (bs := ((bs ++ putBits 3 2) ++ putBits 0 1)) (v0 := v14) (n := k) (k := 1) (by (try simp only [List.length_append, putBits_len]); omega) (by (try simp only [List.length_append, putBits_len]); omega) hr14 (by  have hq0 := of_decide_eq_false hc2; have hq1 := of_decide_eq_false hc8; omega) (by  have hq0 := of_decide_eq_false hc2; have hq1 := of_decide_eq_false hc8; omega)) (by kernel_rfl) ?_
      rintro v16 I16 w16 b16 F16 le16 - h16 s
      obtain ⟨v16, rfl, rfl, hr16⟩ := h16
      refine ops_done (by kernel_rfl) ?_
      refine region_rule ?_
      refine ops_rule (C := []) [(b, .cells #[v16, .int .i64 ((cnt + 2 + 1 + 1 : Nat) : Int)] 91)] F16 2 [] 0 (fun φ17 => [(23, .int .u64 ((n : Nat) : Int)), (22, .pointer (some ⟨b, 0, none⟩))]) (fun φ17 => [(b, .cells #[v16, .int .i64 ((cnt + 2 + 1 + 1 : Nat) : Int)] 91)]) (fun φ17 => []) s trivial (fun φ17 => by kernel_rfl) ?_
      intro φ17 w17 s
      refine callH_rule (b := (b, .cells #[v16, .int .i64 ((cnt + 2 + 1 + 1 : Nat) : Int)] 91)) (H := [(b, .cells #[v16, .int .i64 ((cnt + 2 + 1 + 1 : Nat) : Int)] 91)]) (F := F16) (Hr := []) (some 24) 0 s (by kernel_rfl) (by kernel_rfl) (num_c (b := b) (cnt := cnt + 2 + 1 + 1) (bs := (((bs ++ putBits 3 2) ++ putBits 0 1) ++ putBits k 1)) (v0 := v16) (n := n) (by (try simp only [List.length_append, putBits_len]); omega) (by (try simp only [List.length_append, putBits_len]); omega) hr16 (hn)) (by kernel_rfl) ?_
      rintro v18 I18 w18 b18 F18 le18 - h18 s
      obtain ⟨v18, rfl, rfl, hr18⟩ := h18
      refine ops_done (by kernel_rfl) ?_
      refine end_rule (C := []) [(b, .cells #[v18, .int .i64 ((cnt + 2 + 1 + 1 + (numW 62 2 n).length : Nat) : Int)] 91)] F18 (.tuple #[]) [] [] s trivial (by kernel_rfl) ?_
      replace s := s.drop (List.Sublist.append (List.Sublist.cons₂ _ List.Sublist.slnil) (List.Sublist.refl F18))
      have hz9 : ((((bs ++ putBits 3 2) ++ putBits 0 1) ++ putBits k 1) ++ numW 62 2 n) = bs ++ headB n k := (by unfold headB; rw [if_neg (of_decide_eq_false hc2)]; rw [if_neg (of_decide_eq_false hc8)]; (try simp only [List.append_assoc]))
      have hL9 := congrArg List.length hz9
      simp only [List.length_append, putBits_len] at hL9
      have hc9 : cnt + 2 + 1 + 1 + (numW 62 2 n).length = cnt + (headB n k).length := (by omega)
      exact ⟨_, _, _, rfl, s, ⟨_, _, rfl, rfl, _, rfl, by rw [hc9], row_cast hr18 (congrArg pk hz9)⟩⟩

theorem half_lt {e : Ev.E} (h : e.top < 18446744073709551616) : e.left.top < 18446744073709551616 ∧ e.right.top < 18446744073709551616 ∧ e.base < 18446744073709551616 := by
  cases e with
  | leaf n => exact ⟨show 0 < _ by omega, show 0 < _ by omega, h⟩
  | node n l r => have h1 : n + max l.top r.top < 18446744073709551616 := h; exact ⟨show l.top < _ by omega, show r.top < _ by omega, show n < _ by omega⟩

set_option maxHeartbeats 2000000 in
theorem putEvent_step {I : IM} {e : Ev.E} {be : Nat} {pe : Option Addr} (he : Ev.ERep I e be pe) (htop : e.top < 18446744073709551616) {b cnt : Nat} {bs : List Bool} {v0 : Value} {F : List OB} (hc : cnt = bs.length) (hlen : bs.length + (evB e).length ≤ 700000) (h : RowH 5 1 v0 (pk bs).length ((pk bs).map bV) F) (ihl : (e.isLeaf = false → kindE e.left e.right ≠ 0 → ∀ {J : IM} {b1 : Nat} {p1 : Option Addr} {cnt : Nat} {bs : List Bool} {v0 : Value} {F : List OB}, Ev.ERep J e.left b1 p1 → cnt = bs.length → bs.length + (evB e.left).length ≤ 700000 → RowH 5 1 v0 (pk bs).length ((pk bs).map bV) F → FunM Try.prog 23 #[.pointer (some ⟨b, 0, none⟩), .agg #[.int .u64 ((b1 : Nat) : Int), .pointer p1]] J ((b, .cells #[v0, .int .i64 ((cnt : Nat) : Int)] 91) :: F) (fun v J H' => ∃ (b' : OB) (F' : List OB), H' = b' :: F' ∧ b'.1 = b ∧ ∃ v', v = .tuple #[] ∧ b' = (b, .cells #[v', .int .i64 ((cnt + (evB e.left).length : Nat) : Int)] 91) ∧ RowH 5 1 v' (pk (bs ++ evB e.left)).length ((pk (bs ++ evB e.left)).map bV) F'))) (ihr : (e.isLeaf = false → kindE e.left e.right ≠ 1 → ∀ {J : IM} {b1 : Nat} {p1 : Option Addr} {cnt : Nat} {bs : List Bool} {v0 : Value} {F : List OB}, Ev.ERep J e.right b1 p1 → cnt = bs.length → bs.length + (evB e.right).length ≤ 700000 → RowH 5 1 v0 (pk bs).length ((pk bs).map bV) F → FunM Try.prog 23 #[.pointer (some ⟨b, 0, none⟩), .agg #[.int .u64 ((b1 : Nat) : Int), .pointer p1]] J ((b, .cells #[v0, .int .i64 ((cnt : Nat) : Int)] 91) :: F) (fun v J H' => ∃ (b' : OB) (F' : List OB), H' = b' :: F' ∧ b'.1 = b ∧ ∃ v', v = .tuple #[] ∧ b' = (b, .cells #[v', .int .i64 ((cnt + (evB e.right).length : Nat) : Int)] 91) ∧ RowH 5 1 v' (pk (bs ++ evB e.right)).length ((pk (bs ++ evB e.right)).map bV) F'))) : FunM Try.prog 23 #[.pointer (some ⟨b, 0, none⟩), .agg #[.int .u64 ((be : Nat) : Int), .pointer pe]] I ((b, .cells #[v0, .int .i64 ((cnt : Nat) : Int)] 91) :: F) (fun v J H' => ∃ (b' : OB) (F' : List OB), H' = b' :: F' ∧ b'.1 = b ∧ ∃ v', v = .tuple #[] ∧ b' = (b, .cells #[v', .int .i64 ((cnt + (evB e).length : Nat) : Int)] 91) ∧ RowH 5 1 v' (pk (bs ++ evB e)).length ((pk (bs ++ evB e)).map bV) F') := by
  have hbe := Ev.ERep.base he
  obtain ⟨htl, htr, hbn⟩ := half_lt htop
  rw [← hbe] at hbn
  refine enterM_rule 39 [(0, .pointer (some ⟨b, 0, none⟩)), (1, .agg #[.int .u64 ((be : Nat) : Int), .pointer pe])] Try.func23 rfl (by kernel_rfl) ?_
  intro w s
  refine wp_seq ?_
  refine region_rule ?_
  refine ops_rule (C := []) [(b, .cells #[v0, .int .i64 ((cnt : Nat) : Int)] 91)] F 1 [] 1 (fun φ1 => [(3, .pointer (some ⟨(φ1 0), 0, none⟩))]) (fun φ1 => [(b, .cells #[v0, .int .i64 ((cnt : Nat) : Int)] 91), ((φ1 0), .cells #[.int .u64 ((be : Nat) : Int), .pointer pe] 30)]) (fun φ1 => []) s trivial (fun φ1 => by kernel_rfl) ?_
  intro φ1 w1 s
  refine ops_done (by kernel_rfl) ?_
  refine wp_seq ?_
  refine wp_seq ?_
  refine region_rule ?_
  refine ops_rule (C := []) [(b, .cells #[v0, .int .i64 ((cnt : Nat) : Int)] 91), ((φ1 0), .cells #[.int .u64 ((be : Nat) : Int), .pointer pe] 30)] F 1 [.o 1, .o 1] 0 (fun φ2 => [(7, .agg #[.int .u64 ((be : Nat) : Int), .pointer pe])]) (fun φ2 => [(b, .cells #[v0, .int .i64 ((cnt : Nat) : Int)] 91), ((φ1 0), .cells #[.int .u64 ((be : Nat) : Int), .pointer pe] 30)]) (fun φ2 => [(φ1 0), (φ1 0)]) s trivial (fun φ2 => by kernel_rfl) ?_
  intro φ2 w2 s
  refine call_rule (some 8) s (Ev.isLeaf_c he) (by kernel_rfl) ?_
  intro v3 I3 w3 le3 h3 s
  replace he := Ev.ERep.mono le3 he
  obtain rfl := h3
  refine ops_done (by kernel_rfl) ?_
  rcases Bool.eq_false_or_eq_true (e.isLeaf) with hc4 | hc4
  ·
    rw [hc4]
    refine cond_true_rule (b := true) (by kernel_rfl) rfl ?_
    refine wp_seq ?_
    refine region_rule ?_
    refine ops_rule (C := []) [(b, .cells #[v0, .int .i64 ((cnt : Nat) : Int)] 91), ((φ1 0), .cells #[.int .u64 ((be : Nat) : Int), .pointer pe] 30)] F 1 [] 0 (fun φ5 => [(9, .pointer (some ⟨b, 0, none⟩))]) (fun φ5 => [(b, .cells #[v0, .int .i64 ((cnt : Nat) : Int)] 91), ((φ1 0), .cells #[.int .u64 ((be : Nat) : Int), .pointer pe] 30)]) (fun φ5 => []) s trivial (fun φ5 => by kernel_rfl) ?_
    intro φ5 w5 s
    refine callH_rule (b := (b, .cells #[v0, .int .i64 ((cnt : Nat) : Int)] 91)) (H := [(b, .cells #[v0, .int .i64 ((cnt : Nat) : Int)] 91), ((φ1 0), .cells #[.int .u64 ((be : Nat) : Int), .pointer pe] 30)]) (F := F) (Hr := [((φ1 0), .cells #[.int .u64 ((be : Nat) : Int), .pointer pe] 30)]) (some 10) 0 s (by kernel_rfl) (by kernel_rfl) (put_c (b := b) (cnt := cnt) (bs := bs) (v0 := v0) (n := 1) (k := 1) (by (try simp only [List.length_append, putBits_len]); omega) (by have h7 := hlen; have h6 := congrArg List.length (evB_leaf hc4); (try rw [← hbe] at h6); simp only [List.length_append, putBits_len] at h6; (try simp only [List.length_append, putBits_len]); omega) h (by   omega) (by   omega)) (by kernel_rfl) ?_
    rintro v6 I6 w6 b6 F6 le6 - h6 s
    replace he := Ev.ERep.mono le6 he
    obtain ⟨v6, rfl, rfl, hr6⟩ := h6
    refine ops_done (by kernel_rfl) ?_
    refine wp_seq ?_
    refine region_rule ?_
    refine ops_rule (C := []) [(b, .cells #[v6, .int .i64 ((cnt + 1 : Nat) : Int)] 91), ((φ1 0), .cells #[.int .u64 ((be : Nat) : Int), .pointer pe] 30)] F6 2 [.o 1, .o 1] 0 (fun φ7 => [(12, .agg #[.int .u64 ((be : Nat) : Int), .pointer pe]), (11, .pointer (some ⟨b, 0, none⟩))]) (fun φ7 => [(b, .cells #[v6, .int .i64 ((cnt + 1 : Nat) : Int)] 91), ((φ1 0), .cells #[.int .u64 ((be : Nat) : Int), .pointer pe] 30)]) (fun φ7 => [(φ1 0), (φ1 0)]) s trivial (fun φ7 => by kernel_rfl) ?_
    intro φ7 w7 s
    refine call_rule (some 13) s (Ev.base_c he) (by kernel_rfl) ?_
    intro v8 I8 w8 le8 h8 s
    replace he := Ev.ERep.mono le8 he
    obtain rfl := h8
    refine callH_rule (b := (b, .cells #[v6, .int .i64 ((cnt + 1 : Nat) : Int)] 91)) (H := [(b, .cells #[v6, .int .i64 ((cnt + 1 : Nat) : Int)] 91), ((φ1 0), .cells #[.int .u64 ((be : Nat) : Int), .pointer pe] 30)]) (F := F6) (Hr := [((φ1 0), .cells #[.int .u64 ((be : Nat) : Int), .pointer pe] 30)]) (some 14) 0 s (by kernel_rfl) (by kernel_rfl) (num_c (b := b) (cnt := cnt + 1) (bs := (bs ++ putBits 1 1)) (v0 := v6) (n := be) (by (try simp only [List.length_append, putBits_len]); omega) (by have h7 := hlen; have h6 := congrArg List.length (evB_leaf hc4); (try rw [← hbe] at h6); simp only [List.length_append, putBits_len] at h6; (try simp only [List.length_append, putBits_len]); omega) hr6 (hbn)) (by kernel_rfl) ?_
    rintro v9 I9 w9 b9 F9 le9 - h9 s
    replace he := Ev.ERep.mono le9 he
    obtain ⟨v9, rfl, rfl, hr9⟩ := h9
    refine ops_done (by kernel_rfl) ?_
    refine wp_ret ?_
    refine ret_rule (C := []) [(b, .cells #[v9, .int .i64 ((cnt + 1 + (numW 62 2 be).length : Nat) : Int)] 91), ((φ1 0), .cells #[.int .u64 ((be : Nat) : Int), .pointer pe] 30)] F9 (.tuple #[]) [] [] s trivial (by kernel_rfl) ?_
    replace s := s.drop (List.Sublist.append (List.Sublist.cons₂ _ (List.Sublist.cons _ List.Sublist.slnil)) (List.Sublist.refl F9))
    have hz9 : ((bs ++ putBits 1 1) ++ numW 62 2 be) = bs ++ evB e := by
      rw [evB_leaf hc4]
      simp [hbe]
    have hL9 := congrArg List.length hz9
    simp only [List.length_append, putBits_len] at hL9
    have hc9 : cnt + 1 + (numW 62 2 be).length = cnt + (evB e).length := (by omega)
    exact ⟨_, _, _, rfl, s, ⟨_, _, rfl, rfl, _, rfl, by rw [hc9], row_cast hr9 (congrArg pk hz9)⟩⟩
  ·
    rw [hc4]
    refine cond_false_rule (b := false) (by kernel_rfl) rfl ?_
    refine wp_skip ?_
    refine wp_seq ?_
    refine drawK_rule (C := []) ⟨(fun φ10 xs10 => [.look 0 [.o 1, .o 1] [(φ1 0), (φ1 0)], .call 49 #[.agg #[.int .u64 ((be : Nat) : Int), .pointer pe]], .look 0 [.o 1, .o 1] [(φ1 0), (φ1 0)], .call 50 #[.agg #[.int .u64 ((be : Nat) : Int), .pointer pe]], .new, .new, .store 0 [.o 2, .o 2] [(φ10 4), (φ10 4)], .store 1 [.o 3, .o 3] [(φ10 5), (φ10 5)]]), (fun φ10 xs10 => [.agg #[.int .u64 ((be : Nat) : Int), .pointer pe], .agg #[.int .u64 (((xs10 1).n 0 : Nat) : Int), .pointer ((xs10 1).p 0)], .agg #[.int .u64 ((be : Nat) : Int), .pointer pe], .agg #[.int .u64 (((xs10 3).n 0 : Nat) : Int), .pointer ((xs10 3).p 0)], .pointer (some ⟨(φ10 4), 0, none⟩), .pointer (some ⟨(φ10 5), 0, none⟩), undef, undef]), (fun φ10 xs10 => [[(b, .cells #[v0, .int .i64 ((cnt : Nat) : Int)] 91), ((φ1 0), .cells #[.int .u64 ((be : Nat) : Int), .pointer pe] 30)], [(b, .cells #[v0, .int .i64 ((cnt : Nat) : Int)] 91), ((φ1 0), .cells #[.int .u64 ((be : Nat) : Int), .pointer pe] 30)], [(b, .cells #[v0, .int .i64 ((cnt : Nat) : Int)] 91), ((φ1 0), .cells #[.int .u64 ((be : Nat) : Int), .pointer pe] 30)]]), (fun φ10 xs10 => [[default, default, default, default, .cells #[.int .u64 0, .pointer none] 30, .cells #[.int .u64 0, .pointer none] 30, default, default], [default, default, default, default, .cells #[.int .u64 (((xs10 1).n 0 : Nat) : Int), .pointer ((xs10 1).p 0)] 30, .cells #[.int .u64 0, .pointer none] 30, default, default], [default, default, default, default, .cells #[.int .u64 (((xs10 1).n 0 : Nat) : Int), .pointer ((xs10 1).p 0)] 30, .cells #[.int .u64 (((xs10 3).n 0 : Nat) : Int), .pointer ((xs10 3).p 0)] 30, default, default]]), [6, 7], [1, 3, 1, 3, 2, 2, 4, 4]⟩ (fun j => ([MP.any, ⟨fun x J => Ev.ERep J e.left (x.n 0) (x.p 0), fun le h => Ev.ERep.mono le h⟩, MP.any, ⟨fun x J => Ev.ERep J e.right (x.n 0) (x.p 0), fun le h => Ev.ERep.mono le h⟩, MP.any, MP.any, MP.any, MP.any] : List MP).getD j MP.any) F [1, 3] [] [] (fun φ10 xs10 => [[none, none, none, none, none, none, none, none], [none, none, none, none, none, none, none, none]]) (fun φ10 xs10 => [(15, .agg #[.int .u64 ((be : Nat) : Int), .pointer pe]), (16, .agg #[.int .u64 (((xs10 1).n 0 : Nat) : Int), .pointer ((xs10 1).p 0)]), (17, .agg #[.int .u64 ((be : Nat) : Int), .pointer pe]), (18, .agg #[.int .u64 (((xs10 3).n 0 : Nat) : Int), .pointer ((xs10 3).p 0)]), (4, .pointer (some ⟨(φ10 4), 0, none⟩)), (5, .pointer (some ⟨(φ10 5), 0, none⟩))]) (fun φ10 xs10 => [(b, .cells #[v0, .int .i64 ((cnt : Nat) : Int)] 91), ((φ1 0), .cells #[.int .u64 ((be : Nat) : Int), .pointer pe] 30), ((φ10 4), .cells #[.int .u64 (((xs10 1).n 0 : Nat) : Int), .pointer ((xs10 1).p 0)] 30), ((φ10 5), .cells #[.int .u64 (((xs10 3).n 0 : Nat) : Int), .pointer ((xs10 3).p 0)] 30)]) s trivial (by kernel_rfl) (by kernel_rfl) (fun _ _ => by kernel_rfl) (fun _ _ => by kernel_rfl) ⟨fun _ _ => by kernel_rfl, fun _ _ => by kernel_rfl, fun _ _ => by kernel_rfl, fun _ _ => by kernel_rfl⟩ (fun _ _ _ => by kernel_rfl) (fun _ _ => by kernel_rfl) (fun _ _ => by kernel_rfl) (fun _ _ => by kernel_rfl) (fun _ _ => by kernel_rfl) (fun _ _ => by kernel_rfl) trivial trivial (by kernel_rfl) ⟨?c10_1, ?c10_3, trivial⟩ ?k10
    case c10_1 =>
      refine kcast (A := ∀ (φ10 : Nat → Nat) (xs10 : Xs) (J1_10 : IM), I3.Le J1_10 → Fun Try.prog 49 #[.agg #[.int .u64 ((be : Nat) : Int), .pointer pe]] J1_10 (fun v J' => ∃ x : UX, v = .agg #[.int .u64 ((x.n 0 : Nat) : Int), .pointer (x.p 0)] ∧ (Ev.ERep J' e.left (x.n 0) (x.p 0)))) (by kernel_rfl) ?_
      intro φ10 xs10 J1_10 leJ
      have he := Ev.ERep.mono leJ he
      exact Fun.mono (Ev.left_c he) (fun v J' _ ⟨y0, y1, hv, g0⟩ => ⟨{ UX.d with n := fun j => y0, p := fun j => y1 }, hv, g0⟩)
    case c10_3 =>
      refine kcast (A := ∀ (φ10 : Nat → Nat) (xs10 : Xs) (J3_10 : IM), I3.Le J3_10 → (Ev.ERep J3_10 e.left ((xs10 1).n 0) ((xs10 1).p 0)) → Fun Try.prog 50 #[.agg #[.int .u64 ((be : Nat) : Int), .pointer pe]] J3_10 (fun v J' => ∃ x : UX, v = .agg #[.int .u64 ((x.n 0 : Nat) : Int), .pointer (x.p 0)] ∧ (Ev.ERep J' e.right (x.n 0) (x.p 0)))) (by kernel_rfl) ?_
      intro φ10 xs10 J3_10 leJ
      rintro h10_1_0
      have he := Ev.ERep.mono leJ he
      exact Fun.mono (Ev.right_c he) (fun v J' _ ⟨y0, y1, hv, g0⟩ => ⟨{ UX.d with n := fun j => y0, p := fun j => y1 }, hv, g0⟩)
    case k10 =>
      rintro φ10 xs10 I10 w10 le10 s h10_1_0 h10_3_0
      replace he := Ev.ERep.mono le10 he
      refine wp_seq ?_
      refine region_rule ?_
      refine ops_rule (C := []) [(b, .cells #[v0, .int .i64 ((cnt : Nat) : Int)] 91), ((φ1 0), .cells #[.int .u64 ((be : Nat) : Int), .pointer pe] 30), ((φ10 4), .cells #[.int .u64 (((xs10 1).n 0 : Nat) : Int), .pointer ((xs10 1).p 0)] 30), ((φ10 5), .cells #[.int .u64 (((xs10 3).n 0 : Nat) : Int), .pointer ((xs10 3).p 0)] 30)] F 2 [.o 2, .o 2, .o 3, .o 3] 0 (fun φ11 => [(20, .agg #[.int .u64 (((xs10 3).n 0 : Nat) : Int), .pointer ((xs10 3).p 0)]), (19, .agg #[.int .u64 (((xs10 1).n 0 : Nat) : Int), .pointer ((xs10 1).p 0)])]) (fun φ11 => [(b, .cells #[v0, .int .i64 ((cnt : Nat) : Int)] 91), ((φ1 0), .cells #[.int .u64 ((be : Nat) : Int), .pointer pe] 30), ((φ10 4), .cells #[.int .u64 (((xs10 1).n 0 : Nat) : Int), .pointer ((xs10 1).p 0)] 30), ((φ10 5), .cells #[.int .u64 (((xs10 3).n 0 : Nat) : Int), .pointer ((xs10 3).p 0)] 30)]) (fun φ11 => [(φ10 4), (φ10 4), (φ10 5), (φ10 5)]) s trivial (fun φ11 => by kernel_rfl) ?_
      intro φ11 w11 s
      refine call_rule (some 21) s (halvesKind_c h10_1_0 h10_3_0 (htl) (htr)) (by kernel_rfl) ?_
      intro v12 I12 w12 le12 h12 s
      replace he := Ev.ERep.mono le12 he
      replace h10_1_0 := Ev.ERep.mono le12 h10_1_0
      replace h10_3_0 := Ev.ERep.mono le12 h10_3_0
      obtain rfl := h12
      refine ops_rule (C := []) [(b, .cells #[v0, .int .i64 ((cnt : Nat) : Int)] 91), ((φ1 0), .cells #[.int .u64 ((be : Nat) : Int), .pointer pe] 30), ((φ10 4), .cells #[.int .u64 (((xs10 1).n 0 : Nat) : Int), .pointer ((xs10 1).p 0)] 30), ((φ10 5), .cells #[.int .u64 (((xs10 3).n 0 : Nat) : Int), .pointer ((xs10 3).p 0)] 30)] F 1 [] 0 (fun φ13 => [(6, .int .u64 ((kindE e.left e.right : Nat) : Int))]) (fun φ13 => [(b, .cells #[v0, .int .i64 ((cnt : Nat) : Int)] 91), ((φ1 0), .cells #[.int .u64 ((be : Nat) : Int), .pointer pe] 30), ((φ10 4), .cells #[.int .u64 (((xs10 1).n 0 : Nat) : Int), .pointer ((xs10 1).p 0)] 30), ((φ10 5), .cells #[.int .u64 (((xs10 3).n 0 : Nat) : Int), .pointer ((xs10 3).p 0)] 30)]) (fun φ13 => []) s trivial (fun φ13 => by kernel_rfl) ?_
      intro φ13 w13 s
      refine ops_done (by kernel_rfl) ?_
      refine wp_seq ?_
      refine region_rule ?_
      refine ops_rule (C := []) [(b, .cells #[v0, .int .i64 ((cnt : Nat) : Int)] 91), ((φ1 0), .cells #[.int .u64 ((be : Nat) : Int), .pointer pe] 30), ((φ10 4), .cells #[.int .u64 (((xs10 1).n 0 : Nat) : Int), .pointer ((xs10 1).p 0)] 30), ((φ10 5), .cells #[.int .u64 (((xs10 3).n 0 : Nat) : Int), .pointer ((xs10 3).p 0)] 30)] F 1 [] 0 (fun φ14 => [(22, .pointer (some ⟨b, 0, none⟩))]) (fun φ14 => [(b, .cells #[v0, .int .i64 ((cnt : Nat) : Int)] 91), ((φ1 0), .cells #[.int .u64 ((be : Nat) : Int), .pointer pe] 30), ((φ10 4), .cells #[.int .u64 (((xs10 1).n 0 : Nat) : Int), .pointer ((xs10 1).p 0)] 30), ((φ10 5), .cells #[.int .u64 (((xs10 3).n 0 : Nat) : Int), .pointer ((xs10 3).p 0)] 30)]) (fun φ14 => []) s trivial (fun φ14 => by kernel_rfl) ?_
      intro φ14 w14 s
      refine callH_rule (b := (b, .cells #[v0, .int .i64 ((cnt : Nat) : Int)] 91)) (H := [(b, .cells #[v0, .int .i64 ((cnt : Nat) : Int)] 91), ((φ1 0), .cells #[.int .u64 ((be : Nat) : Int), .pointer pe] 30), ((φ10 4), .cells #[.int .u64 (((xs10 1).n 0 : Nat) : Int), .pointer ((xs10 1).p 0)] 30), ((φ10 5), .cells #[.int .u64 (((xs10 3).n 0 : Nat) : Int), .pointer ((xs10 3).p 0)] 30)]) (F := F) (Hr := [((φ1 0), .cells #[.int .u64 ((be : Nat) : Int), .pointer pe] 30), ((φ10 4), .cells #[.int .u64 (((xs10 1).n 0 : Nat) : Int), .pointer ((xs10 1).p 0)] 30), ((φ10 5), .cells #[.int .u64 (((xs10 3).n 0 : Nat) : Int), .pointer ((xs10 3).p 0)] 30)]) (some 23) 0 s (by kernel_rfl) (by kernel_rfl) (put_c (b := b) (cnt := cnt) (bs := bs) (v0 := v0) (n := 0) (k := 1) (by (try simp only [List.length_append, putBits_len]); omega) (by have h7 := hlen; have h6 := congrArg List.length (evB_nd hc4); (try rw [← hbe] at h6); simp only [List.length_append, putBits_len] at h6; (try simp only [List.length_append, putBits_len]); omega) h (by   omega) (by   omega)) (by kernel_rfl) ?_
      rintro v15 I15 w15 b15 F15 le15 - h15 s
      replace he := Ev.ERep.mono le15 he
      replace h10_1_0 := Ev.ERep.mono le15 h10_1_0
      replace h10_3_0 := Ev.ERep.mono le15 h10_3_0
      obtain ⟨v15, rfl, rfl, hr15⟩ := h15
      refine ops_done (by kernel_rfl) ?_
      refine wp_seq ?_
      refine region_rule ?_
      refine ops_rule (C := []) [(b, .cells #[v15, .int .i64 ((cnt + 1 : Nat) : Int)] 91), ((φ1 0), .cells #[.int .u64 ((be : Nat) : Int), .pointer pe] 30), ((φ10 4), .cells #[.int .u64 (((xs10 1).n 0 : Nat) : Int), .pointer ((xs10 1).p 0)] 30), ((φ10 5), .cells #[.int .u64 (((xs10 3).n 0 : Nat) : Int), .pointer ((xs10 3).p 0)] 30)] F15 3 [.o 1, .o 1] 0 (fun φ16 => [(26, .agg #[.int .u64 ((be : Nat) : Int), .pointer pe]), (25, .int .u64 ((kindE e.left e.right : Nat) : Int)), (24, .pointer (some ⟨b, 0, none⟩))]) (fun φ16 => [(b, .cells #[v15, .int .i64 ((cnt + 1 : Nat) : Int)] 91), ((φ1 0), .cells #[.int .u64 ((be : Nat) : Int), .pointer pe] 30), ((φ10 4), .cells #[.int .u64 (((xs10 1).n 0 : Nat) : Int), .pointer ((xs10 1).p 0)] 30), ((φ10 5), .cells #[.int .u64 (((xs10 3).n 0 : Nat) : Int), .pointer ((xs10 3).p 0)] 30)]) (fun φ16 => [(φ1 0), (φ1 0)]) s trivial (fun φ16 => by kernel_rfl) ?_
      intro φ16 w16 s
      refine call_rule (some 27) s (Ev.base_c he) (by kernel_rfl) ?_
      intro v17 I17 w17 le17 h17 s
      replace he := Ev.ERep.mono le17 he
      replace h10_1_0 := Ev.ERep.mono le17 h10_1_0
      replace h10_3_0 := Ev.ERep.mono le17 h10_3_0
      obtain rfl := h17
      refine callH_rule (b := (b, .cells #[v15, .int .i64 ((cnt + 1 : Nat) : Int)] 91)) (H := [(b, .cells #[v15, .int .i64 ((cnt + 1 : Nat) : Int)] 91), ((φ1 0), .cells #[.int .u64 ((be : Nat) : Int), .pointer pe] 30), ((φ10 4), .cells #[.int .u64 (((xs10 1).n 0 : Nat) : Int), .pointer ((xs10 1).p 0)] 30), ((φ10 5), .cells #[.int .u64 (((xs10 3).n 0 : Nat) : Int), .pointer ((xs10 3).p 0)] 30)]) (F := F15) (Hr := [((φ1 0), .cells #[.int .u64 ((be : Nat) : Int), .pointer pe] 30), ((φ10 4), .cells #[.int .u64 (((xs10 1).n 0 : Nat) : Int), .pointer ((xs10 1).p 0)] 30), ((φ10 5), .cells #[.int .u64 (((xs10 3).n 0 : Nat) : Int), .pointer ((xs10 3).p 0)] 30)]) (some 28) 0 s (by kernel_rfl) (by kernel_rfl) (putHead_c (b := b) (cnt := cnt + 1) (bs := (bs ++ putBits 0 1)) (v0 := v15) (k := kindE e.left e.right) (n := be) (by (try simp only [List.length_append, putBits_len]); omega) (by have h7 := hlen; have h6 := congrArg List.length (evB_nd hc4); (try rw [← hbe] at h6); simp only [List.length_append, putBits_len] at h6; (try simp only [List.length_append, putBits_len]); omega) hr15 (kindE_lt _ _) (hbn)) (by kernel_rfl) ?_
      rintro v18 I18 w18 b18 F18 le18 - h18 s
      replace he := Ev.ERep.mono le18 he
      replace h10_1_0 := Ev.ERep.mono le18 h10_1_0
      replace h10_3_0 := Ev.ERep.mono le18 h10_3_0
      obtain ⟨v18, rfl, rfl, hr18⟩ := h18
      refine ops_done (by kernel_rfl) ?_
      refine wp_seq ?_
      refine wp_seq ?_
      refine region_rule ?_
      refine ops_rule (C := []) [(b, .cells #[v18, .int .i64 ((cnt + 1 + (headB be (kindE e.left e.right)).length : Nat) : Int)] 91), ((φ1 0), .cells #[.int .u64 ((be : Nat) : Int), .pointer pe] 30), ((φ10 4), .cells #[.int .u64 (((xs10 1).n 0 : Nat) : Int), .pointer ((xs10 1).p 0)] 30), ((φ10 5), .cells #[.int .u64 (((xs10 3).n 0 : Nat) : Int), .pointer ((xs10 3).p 0)] 30)] F18 2 [] 0 (fun φ19 => [(30, .bool (((kindE e.left e.right : Nat) : Int) != ((0 : Nat) : Int))), (29, .int .u64 ((kindE e.left e.right : Nat) : Int))]) (fun φ19 => [(b, .cells #[v18, .int .i64 ((cnt + 1 + (headB be (kindE e.left e.right)).length : Nat) : Int)] 91), ((φ1 0), .cells #[.int .u64 ((be : Nat) : Int), .pointer pe] 30), ((φ10 4), .cells #[.int .u64 (((xs10 1).n 0 : Nat) : Int), .pointer ((xs10 1).p 0)] 30), ((φ10 5), .cells #[.int .u64 (((xs10 3).n 0 : Nat) : Int), .pointer ((xs10 3).p 0)] 30)]) (fun φ19 => []) s trivial (fun φ19 => by kernel_rfl) ?_
      intro φ19 w19 s
      rw [nat_neq (a := (kindE e.left e.right)) (b := 0)]
      refine ops_done (by kernel_rfl) ?_
      rcases Bool.eq_false_or_eq_true (decide ((kindE e.left e.right) ≠ 0)) with hc20 | hc20
      ·
        rw [hc20]
        refine cond_true_rule (b := true) (by kernel_rfl) rfl ?_
        refine region_rule ?_
        refine ops_rule (C := []) [(b, .cells #[v18, .int .i64 ((cnt + 1 + (headB be (kindE e.left e.right)).length : Nat) : Int)] 91), ((φ1 0), .cells #[.int .u64 ((be : Nat) : Int), .pointer pe] 30), ((φ10 4), .cells #[.int .u64 (((xs10 1).n 0 : Nat) : Int), .pointer ((xs10 1).p 0)] 30), ((φ10 5), .cells #[.int .u64 (((xs10 3).n 0 : Nat) : Int), .pointer ((xs10 3).p 0)] 30)] F18 2 [.o 2, .o 2] 0 (fun φ21 => [(32, .agg #[.int .u64 (((xs10 1).n 0 : Nat) : Int), .pointer ((xs10 1).p 0)]), (31, .pointer (some ⟨b, 0, none⟩))]) (fun φ21 => [(b, .cells #[v18, .int .i64 ((cnt + 1 + (headB be (kindE e.left e.right)).length : Nat) : Int)] 91), ((φ1 0), .cells #[.int .u64 ((be : Nat) : Int), .pointer pe] 30), ((φ10 4), .cells #[.int .u64 (((xs10 1).n 0 : Nat) : Int), .pointer ((xs10 1).p 0)] 30), ((φ10 5), .cells #[.int .u64 (((xs10 3).n 0 : Nat) : Int), .pointer ((xs10 3).p 0)] 30)]) (fun φ21 => [(φ10 4), (φ10 4)]) s trivial (fun φ21 => by kernel_rfl) ?_
        intro φ21 w21 s
        refine callH_rule (b := (b, .cells #[v18, .int .i64 ((cnt + 1 + (headB be (kindE e.left e.right)).length : Nat) : Int)] 91)) (H := [(b, .cells #[v18, .int .i64 ((cnt + 1 + (headB be (kindE e.left e.right)).length : Nat) : Int)] 91), ((φ1 0), .cells #[.int .u64 ((be : Nat) : Int), .pointer pe] 30), ((φ10 4), .cells #[.int .u64 (((xs10 1).n 0 : Nat) : Int), .pointer ((xs10 1).p 0)] 30), ((φ10 5), .cells #[.int .u64 (((xs10 3).n 0 : Nat) : Int), .pointer ((xs10 3).p 0)] 30)]) (F := F18) (Hr := [((φ1 0), .cells #[.int .u64 ((be : Nat) : Int), .pointer pe] 30), ((φ10 4), .cells #[.int .u64 (((xs10 1).n 0 : Nat) : Int), .pointer ((xs10 1).p 0)] 30), ((φ10 5), .cells #[.int .u64 (((xs10 3).n 0 : Nat) : Int), .pointer ((xs10 3).p 0)] 30)]) (some 33) 0 s (by kernel_rfl) (by kernel_rfl) (ihl hc4 (of_decide_eq_true hc20) (cnt := cnt + 1 + (headB be (kindE e.left e.right)).length) (bs := ((bs ++ putBits 0 1) ++ headB be (kindE e.left e.right))) (v0 := v18) h10_1_0 (by (try simp only [List.length_append, putBits_len]); omega) (by have h7 := hlen; have h6 := congrArg List.length (evB_nd hc4); rw [if_neg (of_decide_eq_true hc20)] at h6; (try rw [← hbe] at h6); simp only [List.length_append, putBits_len] at h6; (try simp only [List.length_append, putBits_len]); omega) hr18) (by kernel_rfl) ?_
        rintro v22 I22 w22 b22 F22 le22 - h22 s
        replace he := Ev.ERep.mono le22 he
        replace h10_1_0 := Ev.ERep.mono le22 h10_1_0
        replace h10_3_0 := Ev.ERep.mono le22 h10_3_0
        obtain ⟨v22, rfl, rfl, hr22⟩ := h22
        refine ops_done (by kernel_rfl) ?_
        refine wp_seq ?_
        refine region_rule ?_
        refine ops_rule (C := []) [(b, .cells #[v22, .int .i64 ((cnt + 1 + (headB be (kindE e.left e.right)).length + (evB e.left).length : Nat) : Int)] 91), ((φ1 0), .cells #[.int .u64 ((be : Nat) : Int), .pointer pe] 30), ((φ10 4), .cells #[.int .u64 (((xs10 1).n 0 : Nat) : Int), .pointer ((xs10 1).p 0)] 30), ((φ10 5), .cells #[.int .u64 (((xs10 3).n 0 : Nat) : Int), .pointer ((xs10 3).p 0)] 30)] F22 2 [] 0 (fun φ23 => [(35, .bool (((kindE e.left e.right : Nat) : Int) != ((1 : Nat) : Int))), (34, .int .u64 ((kindE e.left e.right : Nat) : Int))]) (fun φ23 => [(b, .cells #[v22, .int .i64 ((cnt + 1 + (headB be (kindE e.left e.right)).length + (evB e.left).length : Nat) : Int)] 91), ((φ1 0), .cells #[.int .u64 ((be : Nat) : Int), .pointer pe] 30), ((φ10 4), .cells #[.int .u64 (((xs10 1).n 0 : Nat) : Int), .pointer ((xs10 1).p 0)] 30), ((φ10 5), .cells #[.int .u64 (((xs10 3).n 0 : Nat) : Int), .pointer ((xs10 3).p 0)] 30)]) (fun φ23 => []) s trivial (fun φ23 => by kernel_rfl) ?_
        intro φ23 w23 s
        rw [nat_neq (a := (kindE e.left e.right)) (b := 1)]
        refine ops_done (by kernel_rfl) ?_
        rcases Bool.eq_false_or_eq_true (decide ((kindE e.left e.right) ≠ 1)) with hc24 | hc24
        ·
          rw [hc24]
          refine cond_true_rule (b := true) (by kernel_rfl) rfl ?_
          refine region_rule ?_
          refine ops_rule (C := []) [(b, .cells #[v22, .int .i64 ((cnt + 1 + (headB be (kindE e.left e.right)).length + (evB e.left).length : Nat) : Int)] 91), ((φ1 0), .cells #[.int .u64 ((be : Nat) : Int), .pointer pe] 30), ((φ10 4), .cells #[.int .u64 (((xs10 1).n 0 : Nat) : Int), .pointer ((xs10 1).p 0)] 30), ((φ10 5), .cells #[.int .u64 (((xs10 3).n 0 : Nat) : Int), .pointer ((xs10 3).p 0)] 30)] F22 2 [.o 3, .o 3] 0 (fun φ25 => [(37, .agg #[.int .u64 (((xs10 3).n 0 : Nat) : Int), .pointer ((xs10 3).p 0)]), (36, .pointer (some ⟨b, 0, none⟩))]) (fun φ25 => [(b, .cells #[v22, .int .i64 ((cnt + 1 + (headB be (kindE e.left e.right)).length + (evB e.left).length : Nat) : Int)] 91), ((φ1 0), .cells #[.int .u64 ((be : Nat) : Int), .pointer pe] 30), ((φ10 4), .cells #[.int .u64 (((xs10 1).n 0 : Nat) : Int), .pointer ((xs10 1).p 0)] 30), ((φ10 5), .cells #[.int .u64 (((xs10 3).n 0 : Nat) : Int), .pointer ((xs10 3).p 0)] 30)]) (fun φ25 => [(φ10 5), (φ10 5)]) s trivial (fun φ25 => by kernel_rfl) ?_
          intro φ25 w25 s
          refine callH_rule (b := (b, .cells #[v22, .int .i64 ((cnt + 1 + (headB be (kindE e.left e.right)).length + (evB e.left).length : Nat) : Int)] 91)) (H := [(b, .cells #[v22, .int .i64 ((cnt + 1 + (headB be (kindE e.left e.right)).length + (evB e.left).length : Nat) : Int)] 91), ((φ1 0), .cells #[.int .u64 ((be : Nat) : Int), .pointer pe] 30), ((φ10 4), .cells #[.int .u64 (((xs10 1).n 0 : Nat) : Int), .pointer ((xs10 1).p 0)] 30), ((φ10 5), .cells #[.int .u64 (((xs10 3).n 0 : Nat) : Int), .pointer ((xs10 3).p 0)] 30)]) (F := F22) (Hr := [((φ1 0), .cells #[.int .u64 ((be : Nat) : Int), .pointer pe] 30), ((φ10 4), .cells #[.int .u64 (((xs10 1).n 0 : Nat) : Int), .pointer ((xs10 1).p 0)] 30), ((φ10 5), .cells #[.int .u64 (((xs10 3).n 0 : Nat) : Int), .pointer ((xs10 3).p 0)] 30)]) (some 38) 0 s (by kernel_rfl) (by kernel_rfl) (ihr hc4 (of_decide_eq_true hc24) (cnt := cnt + 1 + (headB be (kindE e.left e.right)).length + (evB e.left).length) (bs := (((bs ++ putBits 0 1) ++ headB be (kindE e.left e.right)) ++ evB e.left)) (v0 := v22) h10_3_0 (by (try simp only [List.length_append, putBits_len]); omega) (by have h7 := hlen; have h6 := congrArg List.length (evB_nd hc4); rw [if_neg (of_decide_eq_true hc20), if_neg (of_decide_eq_true hc24)] at h6; (try rw [← hbe] at h6); simp only [List.length_append, putBits_len] at h6; (try simp only [List.length_append, putBits_len]); omega) hr22) (by kernel_rfl) ?_
          rintro v26 I26 w26 b26 F26 le26 - h26 s
          replace he := Ev.ERep.mono le26 he
          replace h10_1_0 := Ev.ERep.mono le26 h10_1_0
          replace h10_3_0 := Ev.ERep.mono le26 h10_3_0
          obtain ⟨v26, rfl, rfl, hr26⟩ := h26
          refine ops_done (by kernel_rfl) ?_
          refine end_rule (C := []) [(b, .cells #[v26, .int .i64 ((cnt + 1 + (headB be (kindE e.left e.right)).length + (evB e.left).length + (evB e.right).length : Nat) : Int)] 91), ((φ1 0), .cells #[.int .u64 ((be : Nat) : Int), .pointer pe] 30), ((φ10 4), .cells #[.int .u64 (((xs10 1).n 0 : Nat) : Int), .pointer ((xs10 1).p 0)] 30), ((φ10 5), .cells #[.int .u64 (((xs10 3).n 0 : Nat) : Int), .pointer ((xs10 3).p 0)] 30)] F26 (.tuple #[]) [] [] s trivial (by kernel_rfl) ?_
          replace s := s.drop (List.Sublist.append (List.Sublist.cons₂ _ (List.Sublist.cons _ (List.Sublist.cons _ (List.Sublist.cons _ List.Sublist.slnil)))) (List.Sublist.refl F26))
          have hz9 : ((((bs ++ putBits 0 1) ++ headB be (kindE e.left e.right)) ++ evB e.left) ++ evB e.right) = bs ++ evB e := by
            rw [evB_nd hc4, if_neg (of_decide_eq_true hc20), if_neg (of_decide_eq_true hc24)]
            simp [hbe]
          have hL9 := congrArg List.length hz9
          simp only [List.length_append, putBits_len] at hL9
          have hc9 : cnt + 1 + (headB be (kindE e.left e.right)).length + (evB e.left).length + (evB e.right).length = cnt + (evB e).length := (by omega)
          exact ⟨_, _, _, rfl, s, ⟨_, _, rfl, rfl, _, rfl, by rw [hc9], row_cast hr26 (congrArg pk hz9)⟩⟩
        ·
          rw [hc24]
          refine cond_false_rule (b := false) (by kernel_rfl) rfl ?_
          refine wp_skip ?_
          refine end_rule (C := []) [(b, .cells #[v22, .int .i64 ((cnt + 1 + (headB be (kindE e.left e.right)).length + (evB e.left).length : Nat) : Int)] 91), ((φ1 0), .cells #[.int .u64 ((be : Nat) : Int), .pointer pe] 30), ((φ10 4), .cells #[.int .u64 (((xs10 1).n 0 : Nat) : Int), .pointer ((xs10 1).p 0)] 30), ((φ10 5), .cells #[.int .u64 (((xs10 3).n 0 : Nat) : Int), .pointer ((xs10 3).p 0)] 30)] F22 (.tuple #[]) [] [] s trivial (by kernel_rfl) ?_
          replace s := s.drop (List.Sublist.append (List.Sublist.cons₂ _ (List.Sublist.cons _ (List.Sublist.cons _ (List.Sublist.cons _ List.Sublist.slnil)))) (List.Sublist.refl F22))
          have hz9 : (((bs ++ putBits 0 1) ++ headB be (kindE e.left e.right)) ++ evB e.left) = bs ++ evB e := by
            rw [evB_nd hc4, if_neg (of_decide_eq_true hc20), if_pos (Decidable.not_not.1 (of_decide_eq_false hc24))]
            simp [hbe]
          have hL9 := congrArg List.length hz9
          simp only [List.length_append, putBits_len] at hL9
          have hc9 : cnt + 1 + (headB be (kindE e.left e.right)).length + (evB e.left).length = cnt + (evB e).length := (by omega)
          exact ⟨_, _, _, rfl, s, ⟨_, _, rfl, rfl, _, rfl, by rw [hc9], row_cast hr22 (congrArg pk hz9)⟩⟩
      ·
        rw [hc20]
        refine cond_false_rule (b := false) (by kernel_rfl) rfl ?_
        refine wp_skip ?_
        refine wp_seq ?_
        refine region_rule ?_
        refine ops_rule (C := []) [(b, .cells #[v18, .int .i64 ((cnt + 1 + (headB be (kindE e.left e.right)).length : Nat) : Int)] 91), ((φ1 0), .cells #[.int .u64 ((be : Nat) : Int), .pointer pe] 30), ((φ10 4), .cells #[.int .u64 (((xs10 1).n 0 : Nat) : Int), .pointer ((xs10 1).p 0)] 30), ((φ10 5), .cells #[.int .u64 (((xs10 3).n 0 : Nat) : Int), .pointer ((xs10 3).p 0)] 30)] F18 2 [] 0 (fun φ27 => [(35, .bool (((kindE e.left e.right : Nat) : Int) != ((1 : Nat) : Int))), (34, .int .u64 ((kindE e.left e.right : Nat) : Int))]) (fun φ27 => [(b, .cells #[v18, .int .i64 ((cnt + 1 + (headB be (kindE e.left e.right)).length : Nat) : Int)] 91), ((φ1 0), .cells #[.int .u64 ((be : Nat) : Int), .pointer pe] 30), ((φ10 4), .cells #[.int .u64 (((xs10 1).n 0 : Nat) : Int), .pointer ((xs10 1).p 0)] 30), ((φ10 5), .cells #[.int .u64 (((xs10 3).n 0 : Nat) : Int), .pointer ((xs10 3).p 0)] 30)]) (fun φ27 => []) s trivial (fun φ27 => by kernel_rfl) ?_
        intro φ27 w27 s
        rw [nat_neq (a := (kindE e.left e.right)) (b := 1)]
        refine ops_done (by kernel_rfl) ?_
        rcases Bool.eq_false_or_eq_true (decide ((kindE e.left e.right) ≠ 1)) with hc28 | hc28
        ·
          rw [hc28]
          refine cond_true_rule (b := true) (by kernel_rfl) rfl ?_
          refine region_rule ?_
          refine ops_rule (C := []) [(b, .cells #[v18, .int .i64 ((cnt + 1 + (headB be (kindE e.left e.right)).length : Nat) : Int)] 91), ((φ1 0), .cells #[.int .u64 ((be : Nat) : Int), .pointer pe] 30), ((φ10 4), .cells #[.int .u64 (((xs10 1).n 0 : Nat) : Int), .pointer ((xs10 1).p 0)] 30), ((φ10 5), .cells #[.int .u64 (((xs10 3).n 0 : Nat) : Int), .pointer ((xs10 3).p 0)] 30)] F18 2 [.o 3, .o 3] 0 (fun φ29 => [(37, .agg #[.int .u64 (((xs10 3).n 0 : Nat) : Int), .pointer ((xs10 3).p 0)]), (36, .pointer (some ⟨b, 0, none⟩))]) (fun φ29 => [(b, .cells #[v18, .int .i64 ((cnt + 1 + (headB be (kindE e.left e.right)).length : Nat) : Int)] 91), ((φ1 0), .cells #[.int .u64 ((be : Nat) : Int), .pointer pe] 30), ((φ10 4), .cells #[.int .u64 (((xs10 1).n 0 : Nat) : Int), .pointer ((xs10 1).p 0)] 30), ((φ10 5), .cells #[.int .u64 (((xs10 3).n 0 : Nat) : Int), .pointer ((xs10 3).p 0)] 30)]) (fun φ29 => [(φ10 5), (φ10 5)]) s trivial (fun φ29 => by kernel_rfl) ?_
          intro φ29 w29 s
          refine callH_rule (b := (b, .cells #[v18, .int .i64 ((cnt + 1 + (headB be (kindE e.left e.right)).length : Nat) : Int)] 91)) (H := [(b, .cells #[v18, .int .i64 ((cnt + 1 + (headB be (kindE e.left e.right)).length : Nat) : Int)] 91), ((φ1 0), .cells #[.int .u64 ((be : Nat) : Int), .pointer pe] 30), ((φ10 4), .cells #[.int .u64 (((xs10 1).n 0 : Nat) : Int), .pointer ((xs10 1).p 0)] 30), ((φ10 5), .cells #[.int .u64 (((xs10 3).n 0 : Nat) : Int), .pointer ((xs10 3).p 0)] 30)]) (F := F18) (Hr := [((φ1 0), .cells #[.int .u64 ((be : Nat) : Int), .pointer pe] 30), ((φ10 4), .cells #[.int .u64 (((xs10 1).n 0 : Nat) : Int), .pointer ((xs10 1).p 0)] 30), ((φ10 5), .cells #[.int .u64 (((xs10 3).n 0 : Nat) : Int), .pointer ((xs10 3).p 0)] 30)]) (some 38) 0 s (by kernel_rfl) (by kernel_rfl) (ihr hc4 (of_decide_eq_true hc28) (cnt := cnt + 1 + (headB be (kindE e.left e.right)).length) (bs := ((bs ++ putBits 0 1) ++ headB be (kindE e.left e.right))) (v0 := v18) h10_3_0 (by (try simp only [List.length_append, putBits_len]); omega) (by have h7 := hlen; have h6 := congrArg List.length (evB_nd hc4); rw [if_pos (Decidable.not_not.1 (of_decide_eq_false hc20)), if_neg (of_decide_eq_true hc28)] at h6; (try rw [← hbe] at h6); simp only [List.length_append, putBits_len] at h6; (try simp only [List.length_append, putBits_len]); omega) hr18) (by kernel_rfl) ?_
          rintro v30 I30 w30 b30 F30 le30 - h30 s
          replace he := Ev.ERep.mono le30 he
          replace h10_1_0 := Ev.ERep.mono le30 h10_1_0
          replace h10_3_0 := Ev.ERep.mono le30 h10_3_0
          obtain ⟨v30, rfl, rfl, hr30⟩ := h30
          refine ops_done (by kernel_rfl) ?_
          refine end_rule (C := []) [(b, .cells #[v30, .int .i64 ((cnt + 1 + (headB be (kindE e.left e.right)).length + (evB e.right).length : Nat) : Int)] 91), ((φ1 0), .cells #[.int .u64 ((be : Nat) : Int), .pointer pe] 30), ((φ10 4), .cells #[.int .u64 (((xs10 1).n 0 : Nat) : Int), .pointer ((xs10 1).p 0)] 30), ((φ10 5), .cells #[.int .u64 (((xs10 3).n 0 : Nat) : Int), .pointer ((xs10 3).p 0)] 30)] F30 (.tuple #[]) [] [] s trivial (by kernel_rfl) ?_
          replace s := s.drop (List.Sublist.append (List.Sublist.cons₂ _ (List.Sublist.cons _ (List.Sublist.cons _ (List.Sublist.cons _ List.Sublist.slnil)))) (List.Sublist.refl F30))
          have hz9 : (((bs ++ putBits 0 1) ++ headB be (kindE e.left e.right)) ++ evB e.right) = bs ++ evB e := by
            rw [evB_nd hc4, if_pos (Decidable.not_not.1 (of_decide_eq_false hc20)), if_neg (of_decide_eq_true hc28)]
            simp [hbe]
          have hL9 := congrArg List.length hz9
          simp only [List.length_append, putBits_len] at hL9
          have hc9 : cnt + 1 + (headB be (kindE e.left e.right)).length + (evB e.right).length = cnt + (evB e).length := (by omega)
          exact ⟨_, _, _, rfl, s, ⟨_, _, rfl, rfl, _, rfl, by rw [hc9], row_cast hr30 (congrArg pk hz9)⟩⟩
        ·
          rw [hc28]
          refine cond_false_rule (b := false) (by kernel_rfl) rfl ?_
          refine wp_skip ?_
          refine end_rule (C := []) [(b, .cells #[v18, .int .i64 ((cnt + 1 + (headB be (kindE e.left e.right)).length : Nat) : Int)] 91), ((φ1 0), .cells #[.int .u64 ((be : Nat) : Int), .pointer pe] 30), ((φ10 4), .cells #[.int .u64 (((xs10 1).n 0 : Nat) : Int), .pointer ((xs10 1).p 0)] 30), ((φ10 5), .cells #[.int .u64 (((xs10 3).n 0 : Nat) : Int), .pointer ((xs10 3).p 0)] 30)] F18 (.tuple #[]) [] [] s trivial (by kernel_rfl) ?_
          replace s := s.drop (List.Sublist.append (List.Sublist.cons₂ _ (List.Sublist.cons _ (List.Sublist.cons _ (List.Sublist.cons _ List.Sublist.slnil)))) (List.Sublist.refl F18))
          have hz9 : ((bs ++ putBits 0 1) ++ headB be (kindE e.left e.right)) = bs ++ evB e := by
            rw [evB_nd hc4, if_pos (Decidable.not_not.1 (of_decide_eq_false hc20)), if_pos (Decidable.not_not.1 (of_decide_eq_false hc28))]
            simp [hbe]
          have hL9 := congrArg List.length hz9
          simp only [List.length_append, putBits_len] at hL9
          have hc9 : cnt + 1 + (headB be (kindE e.left e.right)).length = cnt + (evB e).length := (by omega)
          exact ⟨_, _, _, rfl, s, ⟨_, _, rfl, rfl, _, rfl, by rw [hc9], row_cast hr18 (congrArg pk hz9)⟩⟩

theorem putEvent_c : ∀ (e : Ev.E) {I : IM} {be : Nat} {pe : Option Addr} {b cnt : Nat} {bs : List Bool} {v0 : Value} {F : List OB}, Ev.ERep I e be pe → e.top < 18446744073709551616 → cnt = bs.length → bs.length + (evB e).length ≤ 700000 → RowH 5 1 v0 (pk bs).length ((pk bs).map bV) F → FunM Try.prog 23 #[.pointer (some ⟨b, 0, none⟩), .agg #[.int .u64 ((be : Nat) : Int), .pointer pe]] I ((b, .cells #[v0, .int .i64 ((cnt : Nat) : Int)] 91) :: F) (fun v J H' => ∃ (b' : OB) (F' : List OB), H' = b' :: F' ∧ b'.1 = b ∧ ∃ v', v = .tuple #[] ∧ b' = (b, .cells #[v', .int .i64 ((cnt + (evB e).length : Nat) : Int)] 91) ∧ RowH 5 1 v' (pk (bs ++ evB e)).length ((pk (bs ++ evB e)).map bV) F')
  | .leaf n, _, _, _, _, _, _, _, _, ht, htop, hc, hlen, h => putEvent_step ht htop hc hlen h (fun q => absurd q (by simp [Ev.E.isLeaf])) (fun q => absurd q (by simp [Ev.E.isLeaf]))
  | .node n l r, _, _, _, _, _, _, _, _, ht, htop, hc, hlen, h => putEvent_step ht htop hc hlen h (fun _ _ {J} {b1} {p1} {cnt} {bs} {v0} {F} a1 a2 a3 a4 => putEvent_c l a1 (half_lt htop).1 a2 a3 a4) (fun _ _ {J} {b1} {p1} {cnt} {bs} {v0} {F} a1 a2 a3 a4 => putEvent_c r a1 (half_lt htop).2.1 a2 a3 a4)

end Go.Proofs.Ytgmigcmhnmmdkaa
