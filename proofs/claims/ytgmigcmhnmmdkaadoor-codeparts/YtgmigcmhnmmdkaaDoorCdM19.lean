/- Events are written. -/
import Derived.Test.YtgmigcmhnmmdkaaDoorCdM18
import Derived.Test.YtgmigcmhnmmdkaaDoorCdM14
import Derived.Laws.Strings
import Derived.Test.YtgmigcmhnmmdkaaDoorCdM13
import Derived.Test.YtgmigcmhnmmdkaaDoorCdM17
set_option linter.all false
set_option maxRecDepth 100000
namespace Go.Proofs.YtgmigcmhnmmdkaaDoor
open Go.RowKit Go.Sep
attribute [local irreducible] Go.wpList Go.Code.wp

theorem putID_c : ∀ (t : Ev.T) {I : IM} {bi : Bool} {pi : Option Addr} {b cnt : Nat} {bs : List Bool} {v0 : Value} {F : List OB}, Ev.TRep I t bi pi → cnt = bs.length → bs.length + (idB t).length ≤ 700000 → RowH 5 1 v0 (pk bs).length ((pk bs).map bV) F → FunM Tryd.prog 66 #[.pointer (some ⟨b, 0, none⟩), .agg #[.bool bi, .pointer pi]] I ((b, .cells #[v0, .int .i64 ((cnt : Nat) : Int)] 138) :: F) (fun v J H' => ∃ (b' : OB) (F' : List OB), H' = b' :: F' ∧ b'.1 = b ∧ ∃ v', v = .tuple #[] ∧ b' = (b, .cells #[v', .int .i64 ((cnt + (idB t).length : Nat) : Int)] 138) ∧ RowH 5 1 v' (pk (bs ++ idB t)).length ((pk (bs ++ idB t)).map bV) F')
  | .zero, _, _, _, _, _, _, _, _, ht, hc, hlen, h => putID_step ht hc hlen h (fun q => absurd rfl q) (fun q => absurd rfl q)
  | .one, _, _, _, _, _, _, _, _, ht, hc, hlen, h => putID_step ht hc hlen h (fun q => absurd rfl q) (fun q => absurd rfl q)
  | .node l r, _, _, _, _, _, _, _, _, ht, hc, hlen, h => putID_step ht hc hlen h (fun _ _ {J} {b1} {p1} {cnt} {bs} {v0} {F} a1 a2 a3 a4 => putID_c l a1 a2 a3 a4) (fun _ _ {J} {b1} {p1} {cnt} {bs} {v0} {F} a1 a2 a3 a4 => putID_c r a1 a2 a3 a4)

set_option maxHeartbeats 400000 in
theorem isNought_c {I : IM} {e : Ev.E} {be : Nat} {pe : Option Addr} (he : Ev.ERep I e be pe) (htop : e.top < 18446744073709551616) : Fun Tryd.prog 115 #[.agg #[.int .u64 ((be : Nat) : Int), .pointer pe]] I (fun v J => v = .bool (decide (e.top = 0))) := by
 refine enter_rule 6 [(0, .agg #[.int .u64 be, .pointer pe])] Tryd.func115 rfl (by kernel_rfl) ?_
 intro w s
 refine seqR ?_
 refine oAD [] [] 2 [] 1 (fun φ1 => [(2, .bool false), (1, pB (φ1 0))]) (fun φ1 => [(φ1 0, .cells #[.int .u64 be, .pointer pe] 44)]) (fun φ1 => []) s (fun φ1 => by kernel_rfl) (by kernel_rfl) ?_
 intro φ1 w1 s
 refine seqR ?_
 refine oK _ [] 1 [.o 0, .o 0] 0 (fun φ2 => [(3, .agg #[.int .u64 be, .pointer pe])]) (fun φ2 => [φ1 0, φ1 0]) s (fun φ2 => by kernel_rfl) ?_
 intro φ2 w2 s
 refine call_rule (some 4) s (Ev.max_c he (htop)) (by kernel_rfl) ?_
 intro v3 I3 w3 le3 h3 s
 obtain rfl := h3
 refine oK _ [] 2 [] 0 (fun φ4 => [(2, .bool (((e.top : Nat) : Int) == ((0 : Nat) : Int))), (5, .bool (((e.top : Nat) : Int) == ((0 : Nat) : Int)))]) (fun φ4 => []) s (fun φ4 => by kernel_rfl) ?_
 intro φ4 w4 s
 rw [nat_eql (a := e.top) (b := 0)]
 refine ops_done (by kernel_rfl) ?_
 refine wp_ret ?_
 refine ret_rule (C := []) _ [] (.bool (decide (e.top = 0))) [] [] s trivial (by kernel_rfl) ?_
 exact ⟨_, _, _, rfl, s, rfl⟩

set_option maxHeartbeats 400000 in
theorem halvesKind_c {I : IM} {e e2 : Ev.E} {be be2 : Nat} {pe pe2 : Option Addr} (he : Ev.ERep I e be pe) (he2 : Ev.ERep I e2 be2 pe2) (htop : e.top < 18446744073709551616) (htop2 : e2.top < 18446744073709551616) : Fun Tryd.prog 99 #[.agg #[.int .u64 ((be : Nat) : Int), .pointer pe], .agg #[.int .u64 ((be2 : Nat) : Int), .pointer pe2]] I (fun v J => v = .int .u64 ((kindE e e2 : Nat) : Int)) := by
 refine enter_rule 11 [(0, .agg #[.int .u64 be, .pointer pe]), (1, .agg #[.int .u64 be2, .pointer pe2])] Tryd.func99 rfl (by kernel_rfl) ?_
 intro w s
 refine seqR ?_
 refine oAD [] [] 3 [] 2 (fun φ1 => [(4, .int .u64 0), (3, pB (φ1 1)), (2, pB (φ1 0))]) (fun φ1 => [(φ1 0, .cells #[.int .u64 be, .pointer pe] 44), (φ1 1, .cells #[.int .u64 be2, .pointer pe2] 44)]) (fun φ1 => []) s (fun φ1 => by kernel_rfl) (by kernel_rfl) ?_
 intro φ1 w1 s
 refine wp_seq ?_
 refine wp_block ?_
 refine seqR ?_
 refine oK _ [] 1 [.o 0, .o 0] 0 (fun φ2 => [(6, .agg #[.int .u64 be, .pointer pe])]) (fun φ2 => [φ1 0, φ1 0]) s (fun φ2 => by kernel_rfl) ?_
 intro φ2 w2 s
 refine call_rule (some 7) s (isNought_c he (htop)) (by kernel_rfl) ?_
 intro v3 I3 w3 le3 h3 s
 replace he2 := Ev.ERep.mono le3 he2
 obtain rfl := h3
 refine oKD _ [] 1 [] 0 (fun φ4 => [(5, .bool (decide (e.top = 0)))]) (fun φ4 => []) s (fun φ4 => by kernel_rfl) (by kernel_rfl) ?_
 intro φ4 w4 s
 rcases Bool.eq_false_or_eq_true (decide (e.top = 0)) with hc5 | hc5
 ·
  rw [hc5]
  refine cond_true_rule (b := true) (by kernel_rfl) rfl ?_
  refine seqR ?_
  refine oKD _ [] 1 [] 0 (fun φ6 => [(4, .int .u64 0)]) (fun φ6 => []) s (fun φ6 => by kernel_rfl) (by kernel_rfl) ?_
  intro φ6 w6 s
  refine wp_ret ?_
  refine ret_rule (C := []) _ [] (.int .u64 0) [] [] s trivial (by kernel_rfl) ?_
  exact ⟨_, _, _, rfl, s, (by unfold kindE; rw [if_pos (of_decide_eq_true hc5)]; rfl)⟩
 ·
  rw [hc5]
  refine cond_false_rule (b := false) (by kernel_rfl) rfl ?_
  refine seqR ?_
  refine oK _ [] 1 [.o 1, .o 1] 0 (fun φ7 => [(9, .agg #[.int .u64 be2, .pointer pe2])]) (fun φ7 => [φ1 1, φ1 1]) s (fun φ7 => by kernel_rfl) ?_
  intro φ7 w7 s
  refine call_rule (some 10) s (isNought_c he2 (htop2)) (by kernel_rfl) ?_
  intro v8 I8 w8 le8 h8 s
  obtain rfl := h8
  refine oKD _ [] 1 [] 0 (fun φ9 => [(8, .bool (decide (e2.top = 0)))]) (fun φ9 => []) s (fun φ9 => by kernel_rfl) (by kernel_rfl) ?_
  intro φ9 w9 s
  rcases Bool.eq_false_or_eq_true (decide (e2.top = 0)) with hc10 | hc10
  ·
   rw [hc10]
   refine cond_true_rule (b := true) (by kernel_rfl) rfl ?_
   refine seqR ?_
   refine oKD _ [] 1 [] 0 (fun φ11 => [(4, .int .u64 1)]) (fun φ11 => []) s (fun φ11 => by kernel_rfl) (by kernel_rfl) ?_
   intro φ11 w11 s
   refine wp_ret ?_
   refine ret_rule (C := []) _ [] (.int .u64 1) [] [] s trivial (by kernel_rfl) ?_
   exact ⟨_, _, _, rfl, s, (by unfold kindE; rw [if_neg (of_decide_eq_false hc5)]; rw [if_pos (of_decide_eq_true hc10)]; rfl)⟩
  ·
   rw [hc10]
   refine cond_false_rule (b := false) (by kernel_rfl) rfl ?_
   refine wp_skip ?_
   refine seqR ?_
   refine oKD _ [] 1 [] 0 (fun φ12 => [(4, .int .u64 2)]) (fun φ12 => []) s (fun φ12 => by kernel_rfl) (by kernel_rfl) ?_
   intro φ12 w12 s
   refine wp_ret ?_
   refine ret_rule (C := []) _ [] (.int .u64 2) [] [] s trivial (by kernel_rfl) ?_
   exact ⟨_, _, _, rfl, s, (by unfold kindE; rw [if_neg (of_decide_eq_false hc5)]; rw [if_neg (of_decide_eq_false hc10)]; rfl)⟩

set_option maxHeartbeats 2000000 in
theorem putHead_c {I : IM} {b cnt : Nat} {bs : List Bool} {v0 : Value} {F : List OB} (hc : cnt = bs.length) (hlen : bs.length ≤ 750000) (h : RowH 5 1 v0 (pk bs).length ((pk bs).map bV) F) {k n : Nat} (hk : k < 3) (hn : n < 18446744073709551616) : FunM Tryd.prog 100 #[.pointer (some ⟨b, 0, none⟩), .int .u64 ((k : Nat) : Int), .int .u64 ((n : Nat) : Int)] I ((b, .cells #[v0, .int .i64 ((cnt : Nat) : Int)] 138) :: F) (fun v J H' => ∃ (b' : OB) (F' : List OB), H' = b' :: F' ∧ b'.1 = b ∧ ∃ v', v = .tuple #[] ∧ b' = (b, .cells #[v', .int .i64 ((cnt + (headB n k).length : Nat) : Int)] 138) ∧ RowH 5 1 v' (pk (bs ++ headB n k)).length ((pk (bs ++ headB n k)).map bV) F') := by
 refine enterM_rule 25 [(0, pB b), (1, .int .u64 k), (2, .int .u64 n)] Tryd.func100 rfl (by kernel_rfl) ?_
 intro w s
 refine wp_seq ?_
 refine seqR ?_
 refine oK [(b, .cells #[v0, .int .i64 cnt] 138)] F 2 [] 0 (fun φ1 => [(7, .bool (((n : Nat) : Int) == ((0 : Nat) : Int))), (6, .int .u64 n)]) (fun φ1 => []) s (fun φ1 => by kernel_rfl) ?_
 intro φ1 w1 s
 rw [nat_eql (a := n) (b := 0)]
 refine ops_done (by kernel_rfl) ?_
 rcases Bool.eq_false_or_eq_true (decide (n = 0)) with hc2 | hc2
 ·
  rw [hc2]
  refine cond_true_rule (b := true) (by kernel_rfl) rfl ?_
  refine seqR ?_
  refine oK _ F 2 [] 0 (fun φ3 => [(9, .int .u64 k), (8, pB b)]) (fun φ3 => []) s (fun φ3 => by kernel_rfl) ?_
  intro φ3 w3 s
  refine callH_rule (b := (b, .cells #[v0, .int .i64 cnt] 138)) (F := F) (Hr := []) (some 10) 0 s (by kernel_rfl) (by kernel_rfl) (put_c (b := b) (cnt := cnt) (bs := bs) (v0 := v0) (n := k) (k := 2) (by (try simp only [List.length_append, putBits_len]); omega) (by (try simp only [List.length_append, putBits_len]); omega) h (by  have hq0 := of_decide_eq_true hc2; omega) (by  have hq0 := of_decide_eq_true hc2; omega)) (by kernel_rfl) ?_
  rintro v4 I4 w4 b4 F4 le4 - h4 s
  obtain ⟨v4, rfl, rfl, hr4⟩ := h4
  refine ops_done (by kernel_rfl) ?_
  refine wp_ret ?_
  refine ret_rule (C := []) _ F4 (.tuple #[]) [] [] s trivial (by kernel_rfl) ?_
  replace s := s.drop (List.Sublist.append (List.Sublist.cons₂ _ List.Sublist.slnil) (List.Sublist.refl F4))
  have hz9 : (bs ++ putBits k 2) = bs ++ headB n k := (by unfold headB; rw [if_pos (of_decide_eq_true hc2)]; (try simp only [List.append_assoc]))
  have hL9 := congrArg List.length hz9
  simp only [List.length_append, putBits_len] at hL9
  have hc9 : cnt + 2 = cnt + (headB n k).length := (by omega)
  exact ⟨_, _, _, rfl, s, ⟨_, _, rfl, rfl, _, rfl, by rw [hc9], row_cast hr4 (congrArg pk hz9)⟩⟩
 ·
  rw [hc2]
  refine cond_false_rule (b := false) (by kernel_rfl) rfl ?_
  refine wp_skip ?_
  refine seqR ?_
  refine oK _ F 1 [] 0 (fun φ5 => [(11, pB b)]) (fun φ5 => []) s (fun φ5 => by kernel_rfl) ?_
  intro φ5 w5 s
  refine callH_rule (b := (b, .cells #[v0, .int .i64 cnt] 138)) (F := F) (Hr := []) (some 12) 0 s (by kernel_rfl) (by kernel_rfl) (put_c (b := b) (cnt := cnt) (bs := bs) (v0 := v0) (n := 3) (k := 2) (by (try simp only [List.length_append, putBits_len]); omega) (by (try simp only [List.length_append, putBits_len]); omega) h (by  have hq0 := of_decide_eq_false hc2; omega) (by  have hq0 := of_decide_eq_false hc2; omega)) (by kernel_rfl) ?_
  rintro v6 I6 w6 b6 F6 le6 - h6 s
  obtain ⟨v6, rfl, rfl, hr6⟩ := h6
  refine ops_done (by kernel_rfl) ?_
  refine wp_seq ?_
  refine seqR ?_
  refine oK _ F6 2 [] 0 (fun φ7 => [(14, .bool (((k : Nat) : Int) == ((2 : Nat) : Int))), (13, .int .u64 k)]) (fun φ7 => []) s (fun φ7 => by kernel_rfl) ?_
  intro φ7 w7 s
  rw [nat_eql (a := k) (b := 2)]
  refine ops_done (by kernel_rfl) ?_
  rcases Bool.eq_false_or_eq_true (decide (k = 2)) with hc8 | hc8
  ·
   rw [hc8]
   refine cond_true_rule (b := true) (by kernel_rfl) rfl ?_
   refine region_rule ?_
   refine oK _ F6 1 [] 0 (fun φ9 => [(15, pB b)]) (fun φ9 => []) s (fun φ9 => by kernel_rfl) ?_
   intro φ9 w9 s
   refine callH_rule (b := (b, .cells #[v6, .int .i64 ((cnt + 2 : Nat) : Int)] 138)) (F := F6) (Hr := []) (some 16) 0 s (by kernel_rfl) (by kernel_rfl) (put_c (b := b) (cnt := cnt + 2) (bs := (bs ++ putBits 3 2)) (v0 := v6) (n := 1) (k := 1) (by (try simp only [List.length_append, putBits_len]); omega) (by (try simp only [List.length_append, putBits_len]); omega) hr6 (by  have hq0 := of_decide_eq_false hc2; have hq1 := of_decide_eq_true hc8; omega) (by  have hq0 := of_decide_eq_false hc2; have hq1 := of_decide_eq_true hc8; omega)) (by kernel_rfl) ?_
   rintro v10 I10 w10 b10 F10 le10 - h10 s
   obtain ⟨v10, rfl, rfl, hr10⟩ := h10
   refine ops_done (by kernel_rfl) ?_
   refine region_rule ?_
   refine oK _ F10 2 [] 0 (fun φ11 => [(23, .int .u64 n), (22, pB b)]) (fun φ11 => []) s (fun φ11 => by kernel_rfl) ?_
   intro φ11 w11 s
   refine callH_rule (b := (b, .cells #[v10, .int .i64 ((cnt + 2 + 1 : Nat) : Int)] 138)) (F := F10) (Hr := []) (some 24) 0 s (by kernel_rfl) (by kernel_rfl) (num_c (b := b) (cnt := cnt + 2 + 1) (bs := ((bs ++ putBits 3 2) ++ putBits 1 1)) (v0 := v10) (n := n) (by (try simp only [List.length_append, putBits_len]); omega) (by (try simp only [List.length_append, putBits_len]); omega) hr10 (hn)) (by kernel_rfl) ?_
   rintro v12 I12 w12 b12 F12 le12 - h12 s
   obtain ⟨v12, rfl, rfl, hr12⟩ := h12
   refine ops_done (by kernel_rfl) ?_
   refine end_rule (C := []) _ F12 (.tuple #[]) [] [] s trivial (by kernel_rfl) ?_
   replace s := s.drop (List.Sublist.append (List.Sublist.cons₂ _ List.Sublist.slnil) (List.Sublist.refl F12))
   have hz9 : (((bs ++ putBits 3 2) ++ putBits 1 1) ++ numW 62 2 n) = bs ++ headB n k := (by unfold headB; rw [if_neg (of_decide_eq_false hc2)]; rw [if_pos (of_decide_eq_true hc8)]; (try simp only [List.append_assoc]))
   have hL9 := congrArg List.length hz9
   simp only [List.length_append, putBits_len] at hL9
   have hc9 : cnt + 2 + 1 + (numW 62 2 n).length = cnt + (headB n k).length := (by omega)
   exact ⟨_, _, _, rfl, s, ⟨_, _, rfl, rfl, _, rfl, by rw [hc9], row_cast hr12 (congrArg pk hz9)⟩⟩
  ·
   rw [hc8]
   refine cond_false_rule (b := false) (by kernel_rfl) rfl ?_
   refine seqR ?_
   refine oK _ F6 1 [] 0 (fun φ13 => [(17, pB b)]) (fun φ13 => []) s (fun φ13 => by kernel_rfl) ?_
   intro φ13 w13 s
   refine callH_rule (b := (b, .cells #[v6, .int .i64 ((cnt + 2 : Nat) : Int)] 138)) (F := F6) (Hr := []) (some 18) 0 s (by kernel_rfl) (by kernel_rfl) (put_c (b := b) (cnt := cnt + 2) (bs := (bs ++ putBits 3 2)) (v0 := v6) (n := 0) (k := 1) (by (try simp only [List.length_append, putBits_len]); omega) (by (try simp only [List.length_append, putBits_len]); omega) hr6 (by  have hq0 := of_decide_eq_false hc2; have hq1 := of_decide_eq_false hc8; omega) (by  have hq0 := of_decide_eq_false hc2; have hq1 := of_decide_eq_false hc8; omega)) (by kernel_rfl) ?_
   rintro v14 I14 w14 b14 F14 le14 - h14 s
   obtain ⟨v14, rfl, rfl, hr14⟩ := h14
   refine ops_done (by kernel_rfl) ?_
   refine region_rule ?_
   refine oK _ F14 2 [] 0 (fun φ15 => [(20, .int .u64 k), (19, pB b)]) (fun φ15 => []) s (fun φ15 => by kernel_rfl) ?_
   intro φ15 w15 s
   refine callH_rule (b := (b, .cells #[v14, .int .i64 ((cnt + 2 + 1 : Nat) : Int)] 138)) (F := F14) (Hr := []) (some 21) 0 s (by kernel_rfl) (by kernel_rfl) (put_c (b := b) (cnt := cnt + 2 + 1) (bs := ((bs ++ putBits 3 2) ++ putBits 0 1)) (v0 := v14) (n := k) (k := 1) (by (try simp only [List.length_append, putBits_len]); omega) (by (try simp only [List.length_append, putBits_len]); omega) hr14 (by  have hq0 := of_decide_eq_false hc2; have hq1 := of_decide_eq_false hc8; omega) (by  have hq0 := of_decide_eq_false hc2; have hq1 := of_decide_eq_false hc8; omega)) (by kernel_rfl) ?_
   rintro v16 I16 w16 b16 F16 le16 - h16 s
   obtain ⟨v16, rfl, rfl, hr16⟩ := h16
   refine ops_done (by kernel_rfl) ?_
   refine region_rule ?_
   refine oK _ F16 2 [] 0 (fun φ17 => [(23, .int .u64 n), (22, pB b)]) (fun φ17 => []) s (fun φ17 => by kernel_rfl) ?_
   intro φ17 w17 s
   refine callH_rule (b := (b, .cells #[v16, .int .i64 ((cnt + 2 + 1 + 1 : Nat) : Int)] 138)) (F := F16) (Hr := []) (some 24) 0 s (by kernel_rfl) (by kernel_rfl) (num_c (b := b) (cnt := cnt + 2 + 1 + 1) (bs := (((bs ++ putBits 3 2) ++ putBits 0 1) ++ putBits k 1)) (v0 := v16) (n := n) (by (try simp only [List.length_append, putBits_len]); omega) (by (try simp only [List.length_append, putBits_len]); omega) hr16 (hn)) (by kernel_rfl) ?_
   rintro v18 I18 w18 b18 F18 le18 - h18 s
   obtain ⟨v18, rfl, rfl, hr18⟩ := h18
   refine ops_done (by kernel_rfl) ?_
   refine end_rule (C := []) _ F18 (.tuple #[]) [] [] s trivial (by kernel_rfl) ?_
   replace s := s.drop (List.Sublist.append (List.Sublist.cons₂ _ List.Sublist.slnil) (List.Sublist.refl F18))
   have hz9 : ((((bs ++ putBits 3 2) ++ putBits 0 1) ++ putBits k 1) ++ numW 62 2 n) = bs ++ headB n k := (by unfold headB; rw [if_neg (of_decide_eq_false hc2)]; rw [if_neg (of_decide_eq_false hc8)]; (try simp only [List.append_assoc]))
   have hL9 := congrArg List.length hz9
   simp only [List.length_append, putBits_len] at hL9
   have hc9 : cnt + 2 + 1 + 1 + (numW 62 2 n).length = cnt + (headB n k).length := (by omega)
   exact ⟨_, _, _, rfl, s, ⟨_, _, rfl, rfl, _, rfl, by rw [hc9], row_cast hr18 (congrArg pk hz9)⟩⟩

theorem half_lt {e : Ev.E} (h : e.top < 18446744073709551616) : e.left.top < 18446744073709551616 ∧ e.right.top < 18446744073709551616 ∧ e.base < 18446744073709551616 := by
  cases e with
  | leaf n => exact ⟨show 0 < _ by omega, show 0 < _ by omega, h⟩
  | node n l r => have h1 : n + max l.top r.top < 18446744073709551616 := h; exact ⟨show l.top < _ by omega, show r.top < _ by omega, show n < _ by omega⟩

set_option maxHeartbeats 2000000 in
theorem putEvent_step {I : IM} {e : Ev.E} {be : Nat} {pe : Option Addr} (he : Ev.ERep I e be pe) (htop : e.top < 18446744073709551616) {b cnt : Nat} {bs : List Bool} {v0 : Value} {F : List OB} (hc : cnt = bs.length) (hlen : bs.length + (evB e).length ≤ 700000) (h : RowH 5 1 v0 (pk bs).length ((pk bs).map bV) F) (ihl : (e.isLeaf = false → kindE e.left e.right ≠ 0 → ∀ {J : IM} {b1 : Nat} {p1 : Option Addr} {cnt : Nat} {bs : List Bool} {v0 : Value} {F : List OB}, Ev.ERep J e.left b1 p1 → cnt = bs.length → bs.length + (evB e.left).length ≤ 700000 → RowH 5 1 v0 (pk bs).length ((pk bs).map bV) F → FunM Tryd.prog 67 #[.pointer (some ⟨b, 0, none⟩), .agg #[.int .u64 ((b1 : Nat) : Int), .pointer p1]] J ((b, .cells #[v0, .int .i64 ((cnt : Nat) : Int)] 138) :: F) (fun v J H' => ∃ (b' : OB) (F' : List OB), H' = b' :: F' ∧ b'.1 = b ∧ ∃ v', v = .tuple #[] ∧ b' = (b, .cells #[v', .int .i64 ((cnt + (evB e.left).length : Nat) : Int)] 138) ∧ RowH 5 1 v' (pk (bs ++ evB e.left)).length ((pk (bs ++ evB e.left)).map bV) F'))) (ihr : (e.isLeaf = false → kindE e.left e.right ≠ 1 → ∀ {J : IM} {b1 : Nat} {p1 : Option Addr} {cnt : Nat} {bs : List Bool} {v0 : Value} {F : List OB}, Ev.ERep J e.right b1 p1 → cnt = bs.length → bs.length + (evB e.right).length ≤ 700000 → RowH 5 1 v0 (pk bs).length ((pk bs).map bV) F → FunM Tryd.prog 67 #[.pointer (some ⟨b, 0, none⟩), .agg #[.int .u64 ((b1 : Nat) : Int), .pointer p1]] J ((b, .cells #[v0, .int .i64 ((cnt : Nat) : Int)] 138) :: F) (fun v J H' => ∃ (b' : OB) (F' : List OB), H' = b' :: F' ∧ b'.1 = b ∧ ∃ v', v = .tuple #[] ∧ b' = (b, .cells #[v', .int .i64 ((cnt + (evB e.right).length : Nat) : Int)] 138) ∧ RowH 5 1 v' (pk (bs ++ evB e.right)).length ((pk (bs ++ evB e.right)).map bV) F'))) : FunM Tryd.prog 67 #[.pointer (some ⟨b, 0, none⟩), .agg #[.int .u64 ((be : Nat) : Int), .pointer pe]] I ((b, .cells #[v0, .int .i64 ((cnt : Nat) : Int)] 138) :: F) (fun v J H' => ∃ (b' : OB) (F' : List OB), H' = b' :: F' ∧ b'.1 = b ∧ ∃ v', v = .tuple #[] ∧ b' = (b, .cells #[v', .int .i64 ((cnt + (evB e).length : Nat) : Int)] 138) ∧ RowH 5 1 v' (pk (bs ++ evB e)).length ((pk (bs ++ evB e)).map bV) F') := by
 have hbe := Ev.ERep.base he
 obtain ⟨htl, htr, hbn⟩ := half_lt htop
 rw [← hbe] at hbn
 refine enterM_rule 39 [(0, pB b), (1, .agg #[.int .u64 be, .pointer pe])] Tryd.func67 rfl (by kernel_rfl) ?_
 intro w s
 refine seqR ?_
 refine oAD [(b, .cells #[v0, .int .i64 cnt] 138)] F 1 [] 1 (fun φ1 => [(3, pB (φ1 0))]) (fun φ1 => [(b, .cells #[v0, .int .i64 cnt] 138), (φ1 0, .cells #[.int .u64 be, .pointer pe] 44)]) (fun φ1 => []) s (fun φ1 => by kernel_rfl) (by kernel_rfl) ?_
 intro φ1 w1 s
 refine wp_seq ?_
 refine seqR ?_
 refine oK _ F 1 [.o 1, .o 1] 0 (fun φ2 => [(7, .agg #[.int .u64 be, .pointer pe])]) (fun φ2 => [φ1 0, φ1 0]) s (fun φ2 => by kernel_rfl) ?_
 intro φ2 w2 s
 refine call_rule (some 8) s (Ev.isLeaf_c he) (by kernel_rfl) ?_
 intro v3 I3 w3 le3 h3 s
 replace he := Ev.ERep.mono le3 he
 obtain rfl := h3
 refine ops_done (by kernel_rfl) ?_
 rcases Bool.eq_false_or_eq_true (e.isLeaf) with hc4 | hc4
 ·
  rw [hc4]
  refine cond_true_rule (b := true) (by kernel_rfl) rfl ?_
  refine seqR ?_
  refine oK _ F 1 [] 0 (fun φ5 => [(9, pB b)]) (fun φ5 => []) s (fun φ5 => by kernel_rfl) ?_
  intro φ5 w5 s
  refine callH_rule (b := (b, .cells #[v0, .int .i64 cnt] 138)) (F := F) (Hr := [(φ1 0, .cells #[.int .u64 be, .pointer pe] 44)]) (some 10) 0 s (by kernel_rfl) (by kernel_rfl) (put_c (b := b) (cnt := cnt) (bs := bs) (v0 := v0) (n := 1) (k := 1) (by (try simp only [List.length_append, putBits_len]); omega) (by have h7 := hlen; have h6 := congrArg List.length (evB_leaf hc4); (try rw [← hbe] at h6); simp only [List.length_append, putBits_len] at h6; (try simp only [List.length_append, putBits_len]); omega) h (by   omega) (by   omega)) (by kernel_rfl) ?_
  rintro v6 I6 w6 b6 F6 le6 - h6 s
  replace he := Ev.ERep.mono le6 he
  obtain ⟨v6, rfl, rfl, hr6⟩ := h6
  refine ops_done (by kernel_rfl) ?_
  refine seqR ?_
  refine oK _ F6 2 [.o 1, .o 1] 0 (fun φ7 => [(12, .agg #[.int .u64 be, .pointer pe]), (11, pB b)]) (fun φ7 => [φ1 0, φ1 0]) s (fun φ7 => by kernel_rfl) ?_
  intro φ7 w7 s
  refine call_rule (some 13) s (Ev.base_c he) (by kernel_rfl) ?_
  intro v8 I8 w8 le8 h8 s
  replace he := Ev.ERep.mono le8 he
  obtain rfl := h8
  refine callH_rule (b := (b, .cells #[v6, .int .i64 ((cnt + 1 : Nat) : Int)] 138)) (F := F6) (Hr := [(φ1 0, .cells #[.int .u64 be, .pointer pe] 44)]) (some 14) 0 s (by kernel_rfl) (by kernel_rfl) (num_c (b := b) (cnt := cnt + 1) (bs := (bs ++ putBits 1 1)) (v0 := v6) (n := be) (by (try simp only [List.length_append, putBits_len]); omega) (by have h7 := hlen; have h6 := congrArg List.length (evB_leaf hc4); (try rw [← hbe] at h6); simp only [List.length_append, putBits_len] at h6; (try simp only [List.length_append, putBits_len]); omega) hr6 (hbn)) (by kernel_rfl) ?_
  rintro v9 I9 w9 b9 F9 le9 - h9 s
  replace he := Ev.ERep.mono le9 he
  obtain ⟨v9, rfl, rfl, hr9⟩ := h9
  refine ops_done (by kernel_rfl) ?_
  refine wp_ret ?_
  refine ret_rule (C := []) _ F9 (.tuple #[]) [] [] s trivial (by kernel_rfl) ?_
  replace s := s.drop (List.Sublist.append (List.Sublist.cons₂ _ (List.Sublist.cons _ List.Sublist.slnil)) (List.Sublist.refl F9))
  have hz9 : ((bs ++ putBits 1 1) ++ numW 62 2 be) = bs ++ evB e := by
   rw [evB_leaf hc4]
   simp [hbe]
  have hL9 := congrArg List.length hz9
  simp only [List.length_append, putBits_len] at hL9
  have hc9 : cnt + 1 + (numW 62 2 be).length = cnt + (evB e).length := (by omega)
  exact ⟨_, _, _, rfl, s, ⟨_, _, rfl, rfl, _, rfl, by rw [hc9], row_cast hr9 (congrArg pk hz9)⟩⟩
 ·
  rw [hc4]
  refine cond_false_rule (b := false) (by kernel_rfl) rfl ?_
  refine wp_skip ?_
  refine wp_seq ?_
  refine drawK_rule (C := []) ⟨(fun φ10 xs10 => [.look 0 [.o 1, .o 1] [φ1 0, φ1 0], .call 88 #[.agg #[.int .u64 be, .pointer pe]], .look 0 [.o 1, .o 1] [φ1 0, φ1 0], .call 89 #[.agg #[.int .u64 be, .pointer pe]], .new, .new, .store 0 [.o 2, .o 2] [φ10 4, φ10 4], .store 1 [.o 3, .o 3] [φ10 5, φ10 5]]), (fun φ10 xs10 => [.agg #[.int .u64 be, .pointer pe], .agg #[.int .u64 (((xs10 1).n 0 : Nat) : Int), .pointer ((xs10 1).p 0)], .agg #[.int .u64 be, .pointer pe], .agg #[.int .u64 (((xs10 3).n 0 : Nat) : Int), .pointer ((xs10 3).p 0)], pB (φ10 4), pB (φ10 5), undef, undef]), (fun φ10 xs10 => [[(b, .cells #[v0, .int .i64 cnt] 138), (φ1 0, .cells #[.int .u64 be, .pointer pe] 44)], [(b, .cells #[v0, .int .i64 cnt] 138), (φ1 0, .cells #[.int .u64 be, .pointer pe] 44)], [(b, .cells #[v0, .int .i64 cnt] 138), (φ1 0, .cells #[.int .u64 be, .pointer pe] 44)]]), (fun φ10 xs10 => [[default, default, default, default, .cells #[.int .u64 0, .pointer none] 44, .cells #[.int .u64 0, .pointer none] 44, default, default], [default, default, default, default, .cells #[.int .u64 (((xs10 1).n 0 : Nat) : Int), .pointer ((xs10 1).p 0)] 44, .cells #[.int .u64 0, .pointer none] 44, default, default], [default, default, default, default, .cells #[.int .u64 (((xs10 1).n 0 : Nat) : Int), .pointer ((xs10 1).p 0)] 44, .cells #[.int .u64 (((xs10 3).n 0 : Nat) : Int), .pointer ((xs10 3).p 0)] 44, default, default]]), [6, 7], [1, 3, 1, 3, 2, 2, 4, 4]⟩ (fun j => ([MP.any, ⟨fun x J => Ev.ERep J e.left (x.n 0) (x.p 0), fun le h => Ev.ERep.mono le h⟩, MP.any, ⟨fun x J => Ev.ERep J e.right (x.n 0) (x.p 0), fun le h => Ev.ERep.mono le h⟩] : List MP).getD j MP.any) F [1, 3] [] [] (fun φ10 xs10 => [[none, none, none, none, none, none, none, none], [none, none, none, none, none, none, none, none]]) (fun φ10 xs10 => [(15, .agg #[.int .u64 be, .pointer pe]), (16, .agg #[.int .u64 (((xs10 1).n 0 : Nat) : Int), .pointer ((xs10 1).p 0)]), (17, .agg #[.int .u64 be, .pointer pe]), (18, .agg #[.int .u64 (((xs10 3).n 0 : Nat) : Int), .pointer ((xs10 3).p 0)]), (4, pB (φ10 4)), (5, pB (φ10 5))]) (fun φ10 xs10 => [(b, .cells #[v0, .int .i64 cnt] 138), (φ1 0, .cells #[.int .u64 be, .pointer pe] 44), (φ10 4, .cells #[.int .u64 (((xs10 1).n 0 : Nat) : Int), .pointer ((xs10 1).p 0)] 44), (φ10 5, .cells #[.int .u64 (((xs10 3).n 0 : Nat) : Int), .pointer ((xs10 3).p 0)] 44)]) s trivial (by kernel_rfl) (by kernel_rfl) (fun _ _ => by kernel_rfl) (fun _ _ => by kernel_rfl) ⟨fun _ _ => by kernel_rfl, fun _ _ => by kernel_rfl, fun _ _ => by kernel_rfl, fun _ _ => by kernel_rfl⟩ (fun _ _ _ => by kernel_rfl) (fun _ _ => by kernel_rfl) (fun _ _ => by kernel_rfl) (fun _ _ => by kernel_rfl) (fun _ _ => by kernel_rfl) (fun _ _ => by kernel_rfl) trivial trivial (by kernel_rfl) ⟨?c10_1, ?c10_3, trivial⟩ ?k10
  case c10_1 =>
   refine kcast (A := ∀ (φ10 : Nat → Nat) (xs10 : Xs) (J1_10 : IM), I3.Le J1_10 → Fun Tryd.prog 88 #[.agg #[.int .u64 be, .pointer pe]] J1_10 (fun v J' => ∃ x : UX, v = .agg #[.int .u64 (x.n 0), .pointer (x.p 0)] ∧ (Ev.ERep J' e.left (x.n 0) (x.p 0)))) (by kernel_rfl) ?_
   intro φ10 xs10 J1_10 leJ
   have he := Ev.ERep.mono leJ he
   exact Fun.mono (Ev.left_c he) (fun v J' _ ⟨y0, y1, hv, g0⟩ => ⟨{ UX.d with n := fun j => y0, p := fun j => y1 }, hv, g0⟩)
  case c10_3 =>
   refine kcast (A := ∀ (φ10 : Nat → Nat) (xs10 : Xs) (J3_10 : IM), I3.Le J3_10 → (Ev.ERep J3_10 e.left ((xs10 1).n 0) ((xs10 1).p 0)) → Fun Tryd.prog 89 #[.agg #[.int .u64 be, .pointer pe]] J3_10 (fun v J' => ∃ x : UX, v = .agg #[.int .u64 (x.n 0), .pointer (x.p 0)] ∧ (Ev.ERep J' e.right (x.n 0) (x.p 0)))) (by kernel_rfl) ?_
   intro φ10 xs10 J3_10 leJ
   rintro h10_1_0
   have he := Ev.ERep.mono leJ he
   exact Fun.mono (Ev.right_c he) (fun v J' _ ⟨y0, y1, hv, g0⟩ => ⟨{ UX.d with n := fun j => y0, p := fun j => y1 }, hv, g0⟩)
  case k10 =>
   rintro φ10 xs10 I10 w10 le10 s h10_1_0 h10_3_0
   replace he := Ev.ERep.mono le10 he
   refine seqR ?_
   refine oK _ F 2 [.o 2, .o 2, .o 3, .o 3] 0 (fun φ11 => [(20, .agg #[.int .u64 (((xs10 3).n 0 : Nat) : Int), .pointer ((xs10 3).p 0)]), (19, .agg #[.int .u64 (((xs10 1).n 0 : Nat) : Int), .pointer ((xs10 1).p 0)])]) (fun φ11 => [φ10 4, φ10 4, φ10 5, φ10 5]) s (fun φ11 => by kernel_rfl) ?_
   intro φ11 w11 s
   refine call_rule (some 21) s (halvesKind_c h10_1_0 h10_3_0 (htl) (htr)) (by kernel_rfl) ?_
   intro v12 I12 w12 le12 h12 s
   replace he := Ev.ERep.mono le12 he
   replace h10_1_0 := Ev.ERep.mono le12 h10_1_0
   replace h10_3_0 := Ev.ERep.mono le12 h10_3_0
   obtain rfl := h12
   refine oKD _ F 1 [] 0 (fun φ13 => [(6, .int .u64 (kindE e.left e.right))]) (fun φ13 => []) s (fun φ13 => by kernel_rfl) (by kernel_rfl) ?_
   intro φ13 w13 s
   refine seqR ?_
   refine oK _ F 1 [] 0 (fun φ14 => [(22, pB b)]) (fun φ14 => []) s (fun φ14 => by kernel_rfl) ?_
   intro φ14 w14 s
   refine callH_rule (b := (b, .cells #[v0, .int .i64 cnt] 138)) (F := F) (Hr := [(φ1 0, .cells #[.int .u64 be, .pointer pe] 44), (φ10 4, .cells #[.int .u64 (((xs10 1).n 0 : Nat) : Int), .pointer ((xs10 1).p 0)] 44), (φ10 5, .cells #[.int .u64 (((xs10 3).n 0 : Nat) : Int), .pointer ((xs10 3).p 0)] 44)]) (some 23) 0 s (by kernel_rfl) (by kernel_rfl) (put_c (b := b) (cnt := cnt) (bs := bs) (v0 := v0) (n := 0) (k := 1) (by (try simp only [List.length_append, putBits_len]); omega) (by have h7 := hlen; have h6 := congrArg List.length (evB_nd hc4); (try rw [← hbe] at h6); simp only [List.length_append, putBits_len] at h6; (try simp only [List.length_append, putBits_len]); omega) h (by   omega) (by   omega)) (by kernel_rfl) ?_
   rintro v15 I15 w15 b15 F15 le15 - h15 s
   replace he := Ev.ERep.mono le15 he
   replace h10_1_0 := Ev.ERep.mono le15 h10_1_0
   replace h10_3_0 := Ev.ERep.mono le15 h10_3_0
   obtain ⟨v15, rfl, rfl, hr15⟩ := h15
   refine ops_done (by kernel_rfl) ?_
   refine seqR ?_
   refine oK _ F15 3 [.o 1, .o 1] 0 (fun φ16 => [(26, .agg #[.int .u64 be, .pointer pe]), (25, .int .u64 (kindE e.left e.right)), (24, pB b)]) (fun φ16 => [φ1 0, φ1 0]) s (fun φ16 => by kernel_rfl) ?_
   intro φ16 w16 s
   refine call_rule (some 27) s (Ev.base_c he) (by kernel_rfl) ?_
   intro v17 I17 w17 le17 h17 s
   replace h10_1_0 := Ev.ERep.mono le17 h10_1_0
   replace h10_3_0 := Ev.ERep.mono le17 h10_3_0
   obtain rfl := h17
   refine callH_rule (b := (b, .cells #[v15, .int .i64 ((cnt + 1 : Nat) : Int)] 138)) (F := F15) (Hr := [(φ1 0, .cells #[.int .u64 be, .pointer pe] 44), (φ10 4, .cells #[.int .u64 (((xs10 1).n 0 : Nat) : Int), .pointer ((xs10 1).p 0)] 44), (φ10 5, .cells #[.int .u64 (((xs10 3).n 0 : Nat) : Int), .pointer ((xs10 3).p 0)] 44)]) (some 28) 0 s (by kernel_rfl) (by kernel_rfl) (putHead_c (b := b) (cnt := cnt + 1) (bs := (bs ++ putBits 0 1)) (v0 := v15) (k := kindE e.left e.right) (n := be) (by (try simp only [List.length_append, putBits_len]); omega) (by have h7 := hlen; have h6 := congrArg List.length (evB_nd hc4); (try rw [← hbe] at h6); simp only [List.length_append, putBits_len] at h6; (try simp only [List.length_append, putBits_len]); omega) hr15 (kindE_lt _ _) (hbn)) (by kernel_rfl) ?_
   rintro v18 I18 w18 b18 F18 le18 - h18 s
   replace h10_1_0 := Ev.ERep.mono le18 h10_1_0
   replace h10_3_0 := Ev.ERep.mono le18 h10_3_0
   obtain ⟨v18, rfl, rfl, hr18⟩ := h18
   refine ops_done (by kernel_rfl) ?_
   refine wp_seq ?_
   refine seqR ?_
   refine oK _ F18 2 [] 0 (fun φ19 => [(30, .bool (((kindE e.left e.right : Nat) : Int) != ((0 : Nat) : Int))), (29, .int .u64 (kindE e.left e.right))]) (fun φ19 => []) s (fun φ19 => by kernel_rfl) ?_
   intro φ19 w19 s
   rw [nat_neq (a := (kindE e.left e.right)) (b := 0)]
   refine ops_done (by kernel_rfl) ?_
   rcases Bool.eq_false_or_eq_true (decide ((kindE e.left e.right) ≠ 0)) with hc20 | hc20
   ·
    rw [hc20]
    refine cond_true_rule (b := true) (by kernel_rfl) rfl ?_
    refine region_rule ?_
    refine oK _ F18 2 [.o 2, .o 2] 0 (fun φ21 => [(32, .agg #[.int .u64 (((xs10 1).n 0 : Nat) : Int), .pointer ((xs10 1).p 0)]), (31, pB b)]) (fun φ21 => [φ10 4, φ10 4]) s (fun φ21 => by kernel_rfl) ?_
    intro φ21 w21 s
    refine callH_rule (b := (b, .cells #[v18, .int .i64 ((cnt + 1 + (headB be (kindE e.left e.right)).length : Nat) : Int)] 138)) (F := F18) (Hr := [(φ1 0, .cells #[.int .u64 be, .pointer pe] 44), (φ10 4, .cells #[.int .u64 (((xs10 1).n 0 : Nat) : Int), .pointer ((xs10 1).p 0)] 44), (φ10 5, .cells #[.int .u64 (((xs10 3).n 0 : Nat) : Int), .pointer ((xs10 3).p 0)] 44)]) (some 33) 0 s (by kernel_rfl) (by kernel_rfl) (ihl hc4 (of_decide_eq_true hc20) (cnt := cnt + 1 + (headB be (kindE e.left e.right)).length) (bs := ((bs ++ putBits 0 1) ++ headB be (kindE e.left e.right))) (v0 := v18) h10_1_0 (by (try simp only [List.length_append, putBits_len]); omega) (by have h7 := hlen; have h6 := congrArg List.length (evB_nd hc4); rw [if_neg (of_decide_eq_true hc20)] at h6; (try rw [← hbe] at h6); simp only [List.length_append, putBits_len] at h6; (try simp only [List.length_append, putBits_len]); omega) hr18) (by kernel_rfl) ?_
    rintro v22 I22 w22 b22 F22 le22 - h22 s
    replace h10_3_0 := Ev.ERep.mono le22 h10_3_0
    obtain ⟨v22, rfl, rfl, hr22⟩ := h22
    refine ops_done (by kernel_rfl) ?_
    refine seqR ?_
    refine oK _ F22 2 [] 0 (fun φ23 => [(35, .bool (((kindE e.left e.right : Nat) : Int) != ((1 : Nat) : Int))), (34, .int .u64 (kindE e.left e.right))]) (fun φ23 => []) s (fun φ23 => by kernel_rfl) ?_
    intro φ23 w23 s
    rw [nat_neq (a := (kindE e.left e.right)) (b := 1)]
    refine ops_done (by kernel_rfl) ?_
    rcases Bool.eq_false_or_eq_true (decide ((kindE e.left e.right) ≠ 1)) with hc24 | hc24
    ·
     rw [hc24]
     refine cond_true_rule (b := true) (by kernel_rfl) rfl ?_
     refine region_rule ?_
     refine oK _ F22 2 [.o 3, .o 3] 0 (fun φ25 => [(37, .agg #[.int .u64 (((xs10 3).n 0 : Nat) : Int), .pointer ((xs10 3).p 0)]), (36, pB b)]) (fun φ25 => [φ10 5, φ10 5]) s (fun φ25 => by kernel_rfl) ?_
     intro φ25 w25 s
     refine callH_rule (b := (b, .cells #[v22, .int .i64 ((cnt + 1 + (headB be (kindE e.left e.right)).length + (evB e.left).length : Nat) : Int)] 138)) (F := F22) (Hr := [(φ1 0, .cells #[.int .u64 be, .pointer pe] 44), (φ10 4, .cells #[.int .u64 (((xs10 1).n 0 : Nat) : Int), .pointer ((xs10 1).p 0)] 44), (φ10 5, .cells #[.int .u64 (((xs10 3).n 0 : Nat) : Int), .pointer ((xs10 3).p 0)] 44)]) (some 38) 0 s (by kernel_rfl) (by kernel_rfl) (ihr hc4 (of_decide_eq_true hc24) (cnt := cnt + 1 + (headB be (kindE e.left e.right)).length + (evB e.left).length) (bs := (((bs ++ putBits 0 1) ++ headB be (kindE e.left e.right)) ++ evB e.left)) (v0 := v22) h10_3_0 (by (try simp only [List.length_append, putBits_len]); omega) (by have h7 := hlen; have h6 := congrArg List.length (evB_nd hc4); rw [if_neg (of_decide_eq_true hc20), if_neg (of_decide_eq_true hc24)] at h6; (try rw [← hbe] at h6); simp only [List.length_append, putBits_len] at h6; (try simp only [List.length_append, putBits_len]); omega) hr22) (by kernel_rfl) ?_
     rintro v26 I26 w26 b26 F26 le26 - h26 s
     replace h10_3_0 := Ev.ERep.mono le26 h10_3_0
     obtain ⟨v26, rfl, rfl, hr26⟩ := h26
     refine ops_done (by kernel_rfl) ?_
     refine end_rule (C := []) _ F26 (.tuple #[]) [] [] s trivial (by kernel_rfl) ?_
     replace s := s.drop (List.Sublist.append (List.Sublist.cons₂ _ (List.Sublist.cons _ (List.Sublist.cons _ (List.Sublist.cons _ List.Sublist.slnil)))) (List.Sublist.refl F26))
     have hz9 : ((((bs ++ putBits 0 1) ++ headB be (kindE e.left e.right)) ++ evB e.left) ++ evB e.right) = bs ++ evB e := by
      rw [evB_nd hc4, if_neg (of_decide_eq_true hc20), if_neg (of_decide_eq_true hc24)]
      simp [hbe]
     have hL9 := congrArg List.length hz9
     simp only [List.length_append, putBits_len] at hL9
     have hc9 : cnt + 1 + (headB be (kindE e.left e.right)).length + (evB e.left).length + (evB e.right).length = cnt + (evB e).length := (by omega)
     exact ⟨_, _, _, rfl, s, ⟨_, _, rfl, rfl, _, rfl, by rw [hc9], row_cast hr26 (congrArg pk hz9)⟩⟩
    ·
     rw [hc24]
     refine cond_false_rule (b := false) (by kernel_rfl) rfl ?_
     refine wp_skip ?_
     refine end_rule (C := []) _ F22 (.tuple #[]) [] [] s trivial (by kernel_rfl) ?_
     replace s := s.drop (List.Sublist.append (List.Sublist.cons₂ _ (List.Sublist.cons _ (List.Sublist.cons _ (List.Sublist.cons _ List.Sublist.slnil)))) (List.Sublist.refl F22))
     have hz9 : (((bs ++ putBits 0 1) ++ headB be (kindE e.left e.right)) ++ evB e.left) = bs ++ evB e := by
      rw [evB_nd hc4, if_neg (of_decide_eq_true hc20), if_pos (Decidable.not_not.1 (of_decide_eq_false hc24))]
      simp [hbe]
     have hL9 := congrArg List.length hz9
     simp only [List.length_append, putBits_len] at hL9
     have hc9 : cnt + 1 + (headB be (kindE e.left e.right)).length + (evB e.left).length = cnt + (evB e).length := (by omega)
     exact ⟨_, _, _, rfl, s, ⟨_, _, rfl, rfl, _, rfl, by rw [hc9], row_cast hr22 (congrArg pk hz9)⟩⟩
   ·
    rw [hc20]
    refine cond_false_rule (b := false) (by kernel_rfl) rfl ?_
    refine wp_skip ?_
    refine seqR ?_
    refine oK _ F18 2 [] 0 (fun φ27 => [(35, .bool (((kindE e.left e.right : Nat) : Int) != ((1 : Nat) : Int))), (34, .int .u64 (kindE e.left e.right))]) (fun φ27 => []) s (fun φ27 => by kernel_rfl) ?_
    intro φ27 w27 s
    rw [nat_neq (a := (kindE e.left e.right)) (b := 1)]
    refine ops_done (by kernel_rfl) ?_
    rcases Bool.eq_false_or_eq_true (decide ((kindE e.left e.right) ≠ 1)) with hc28 | hc28
    ·
     rw [hc28]
     refine cond_true_rule (b := true) (by kernel_rfl) rfl ?_
     refine region_rule ?_
     refine oK _ F18 2 [.o 3, .o 3] 0 (fun φ29 => [(37, .agg #[.int .u64 (((xs10 3).n 0 : Nat) : Int), .pointer ((xs10 3).p 0)]), (36, pB b)]) (fun φ29 => [φ10 5, φ10 5]) s (fun φ29 => by kernel_rfl) ?_
     intro φ29 w29 s
     refine callH_rule (b := (b, .cells #[v18, .int .i64 ((cnt + 1 + (headB be (kindE e.left e.right)).length : Nat) : Int)] 138)) (F := F18) (Hr := [(φ1 0, .cells #[.int .u64 be, .pointer pe] 44), (φ10 4, .cells #[.int .u64 (((xs10 1).n 0 : Nat) : Int), .pointer ((xs10 1).p 0)] 44), (φ10 5, .cells #[.int .u64 (((xs10 3).n 0 : Nat) : Int), .pointer ((xs10 3).p 0)] 44)]) (some 38) 0 s (by kernel_rfl) (by kernel_rfl) (ihr hc4 (of_decide_eq_true hc28) (cnt := cnt + 1 + (headB be (kindE e.left e.right)).length) (bs := ((bs ++ putBits 0 1) ++ headB be (kindE e.left e.right))) (v0 := v18) h10_3_0 (by (try simp only [List.length_append, putBits_len]); omega) (by have h7 := hlen; have h6 := congrArg List.length (evB_nd hc4); rw [if_pos (Decidable.not_not.1 (of_decide_eq_false hc20)), if_neg (of_decide_eq_true hc28)] at h6; (try rw [← hbe] at h6); simp only [List.length_append, putBits_len] at h6; (try simp only [List.length_append, putBits_len]); omega) hr18) (by kernel_rfl) ?_
     rintro v30 I30 w30 b30 F30 le30 - h30 s
     obtain ⟨v30, rfl, rfl, hr30⟩ := h30
     refine ops_done (by kernel_rfl) ?_
     refine end_rule (C := []) _ F30 (.tuple #[]) [] [] s trivial (by kernel_rfl) ?_
     replace s := s.drop (List.Sublist.append (List.Sublist.cons₂ _ (List.Sublist.cons _ (List.Sublist.cons _ (List.Sublist.cons _ List.Sublist.slnil)))) (List.Sublist.refl F30))
     have hz9 : (((bs ++ putBits 0 1) ++ headB be (kindE e.left e.right)) ++ evB e.right) = bs ++ evB e := by
      rw [evB_nd hc4, if_pos (Decidable.not_not.1 (of_decide_eq_false hc20)), if_neg (of_decide_eq_true hc28)]
      simp [hbe]
     have hL9 := congrArg List.length hz9
     simp only [List.length_append, putBits_len] at hL9
     have hc9 : cnt + 1 + (headB be (kindE e.left e.right)).length + (evB e.right).length = cnt + (evB e).length := (by omega)
     exact ⟨_, _, _, rfl, s, ⟨_, _, rfl, rfl, _, rfl, by rw [hc9], row_cast hr30 (congrArg pk hz9)⟩⟩
    ·
     rw [hc28]
     refine cond_false_rule (b := false) (by kernel_rfl) rfl ?_
     refine wp_skip ?_
     refine end_rule (C := []) _ F18 (.tuple #[]) [] [] s trivial (by kernel_rfl) ?_
     replace s := s.drop (List.Sublist.append (List.Sublist.cons₂ _ (List.Sublist.cons _ (List.Sublist.cons _ (List.Sublist.cons _ List.Sublist.slnil)))) (List.Sublist.refl F18))
     have hz9 : ((bs ++ putBits 0 1) ++ headB be (kindE e.left e.right)) = bs ++ evB e := by
      rw [evB_nd hc4, if_pos (Decidable.not_not.1 (of_decide_eq_false hc20)), if_pos (Decidable.not_not.1 (of_decide_eq_false hc28))]
      simp [hbe]
     have hL9 := congrArg List.length hz9
     simp only [List.length_append, putBits_len] at hL9
     have hc9 : cnt + 1 + (headB be (kindE e.left e.right)).length = cnt + (evB e).length := (by omega)
     exact ⟨_, _, _, rfl, s, ⟨_, _, rfl, rfl, _, rfl, by rw [hc9], row_cast hr18 (congrArg pk hz9)⟩⟩

theorem putEvent_c : ∀ (e : Ev.E) {I : IM} {be : Nat} {pe : Option Addr} {b cnt : Nat} {bs : List Bool} {v0 : Value} {F : List OB}, Ev.ERep I e be pe → e.top < 18446744073709551616 → cnt = bs.length → bs.length + (evB e).length ≤ 700000 → RowH 5 1 v0 (pk bs).length ((pk bs).map bV) F → FunM Tryd.prog 67 #[.pointer (some ⟨b, 0, none⟩), .agg #[.int .u64 ((be : Nat) : Int), .pointer pe]] I ((b, .cells #[v0, .int .i64 ((cnt : Nat) : Int)] 138) :: F) (fun v J H' => ∃ (b' : OB) (F' : List OB), H' = b' :: F' ∧ b'.1 = b ∧ ∃ v', v = .tuple #[] ∧ b' = (b, .cells #[v', .int .i64 ((cnt + (evB e).length : Nat) : Int)] 138) ∧ RowH 5 1 v' (pk (bs ++ evB e)).length ((pk (bs ++ evB e)).map bV) F')
  | .leaf n, _, _, _, _, _, _, _, _, ht, htop, hc, hlen, h => putEvent_step ht htop hc hlen h (fun q => absurd q (by simp [Ev.E.isLeaf])) (fun q => absurd q (by simp [Ev.E.isLeaf]))
  | .node n l r, _, _, _, _, _, _, _, _, ht, htop, hc, hlen, h => putEvent_step ht htop hc hlen h (fun _ _ {J} {b1} {p1} {cnt} {bs} {v0} {F} a1 a2 a3 a4 => putEvent_c l a1 (half_lt htop).1 a2 a3 a4) (fun _ _ {J} {b1} {p1} {cnt} {bs} {v0} {F} a1 a2 a3 a4 => putEvent_c r a1 (half_lt htop).2.1 a2 a3 a4)

end Go.Proofs.YtgmigcmhnmmdkaaDoor

/- Stamps are written. -/
set_option linter.all false
set_option maxRecDepth 100000
namespace Go.Proofs.YtgmigcmhnmmdkaaDoor
open Go.RowKit Go.Sep
attribute [local irreducible] Go.wpList Go.Code.wp

set_option maxHeartbeats 400000 in
theorem codeStamp_c {I : IM} {t : Ev.T} {bi : Bool} {pi : Option Addr} (ht : Ev.TRep I t bi pi) {e : Ev.E} {be : Nat} {pe : Option Addr} (he : Ev.ERep I e be pe) (htop : e.top < 18446744073709551616) (hlen : (idB t).length + (evB e).length ≤ 700000) : Fun Tryd.prog 34 #[.agg #[.bool bi, .pointer pi, .int .u64 ((be : Nat) : Int), .pointer pe]] I (fun v J => ∃ (a : Option Addr) (c : Nat), v = .slice a (List.length (pk (idB t ++ evB e))) c ∧ BSl J (pk (idB t ++ evB e)) (.slice a (List.length (pk (idB t ++ evB e))) c)) := by
 refine enter_rule 15 [(0, .agg #[.bool bi, .pointer pi, .int .u64 be, .pointer pe])] Tryd.func34 rfl (by kernel_rfl) ?_
 intro w s
 refine seqR ?_
 refine oAD [] [] 2 [] 1 (fun φ1 => [(2, .slice none 0 0), (1, pB (φ1 0))]) (fun φ1 => [(φ1 0, .cells #[.bool bi, .pointer pi, .int .u64 be, .pointer pe] 67)]) (fun φ1 => []) s (fun φ1 => by kernel_rfl) (by kernel_rfl) ?_
 intro φ1 w1 s
 refine seqR ?_
 refine callF_rule (F := []) (some 4) s (newWriter_c) (by kernel_rfl) ?_
 rintro v2 I2 w2 F2 le2 ⟨b2, rfl, rfl⟩ s
 replace ht := Ev.TRep.mono le2 ht
 replace he := Ev.ERep.mono le2 he
 refine oKD [(φ1 0, .cells #[.bool bi, .pointer pi, .int .u64 be, .pointer pe] 67), (b2, .cells #[.slice none 0 0, .int .i64 0] 138)] [] 1 [] 0 (fun φ3 => [(3, pB b2)]) (fun φ3 => []) s (fun φ3 => by kernel_rfl) (by kernel_rfl) ?_
 intro φ3 w3 s
 refine seqR ?_
 refine oK _ [] 3 [.o 0, .o 0] 0 (fun φ4 => [(7, .agg #[.bool bi, .pointer pi]), (6, pB (φ1 0)), (5, pB b2)]) (fun φ4 => [φ1 0, φ1 0]) s (fun φ4 => by kernel_rfl) ?_
 intro φ4 w4 s
 refine callH_rule (b := (b2, .cells #[.slice none 0 0, .int .i64 0] 138)) (F := []) (Hr := [(φ1 0, .cells #[.bool bi, .pointer pi, .int .u64 be, .pointer pe] 67)]) (some 8) 1 s (by kernel_rfl) (by kernel_rfl) (putID_c t (b := b2) (cnt := 0) (bs := ([] : List Bool)) (v0 := .slice none 0 0) ht (rfl) (by have h7 := hlen; (try simp only [List.length_append, List.length_nil] at h7 ⊢); omega) (row_nilB : RowH 5 1 (.slice none 0 0) (pk []).length ((pk []).map bV) [])) (by kernel_rfl) ?_
 rintro v5 I5 w5 b5 F5 le5 - h5 s
 replace he := Ev.ERep.mono le5 he
 obtain ⟨v5, rfl, rfl, hr5⟩ := h5
 refine ops_done (by kernel_rfl) ?_
 refine seqR ?_
 refine oK _ F5 3 [.o 1, .o 1] 0 (fun φ6 => [(11, .agg #[.int .u64 be, .pointer pe]), (10, .pointer (some ⟨(φ1 0), 2, none⟩)), (9, pB b2)]) (fun φ6 => [φ1 0, φ1 0]) s (fun φ6 => by kernel_rfl) ?_
 intro φ6 w6 s
 refine callH_rule (b := (b2, .cells #[v5, .int .i64 ((0 + (idB t).length : Nat) : Int)] 138)) (F := F5) (Hr := [(φ1 0, .cells #[.bool bi, .pointer pi, .int .u64 be, .pointer pe] 67)]) (some 12) 0 s (by kernel_rfl) (by kernel_rfl) (putEvent_c e (b := b2) (cnt := 0 + (idB t).length) (bs := idB t) (v0 := v5) he (htop) (by (try simp only [List.length_append, putBits_len]); omega) (by have h7 := hlen; (try simp only [List.length_append, List.length_nil] at h7 ⊢); omega) hr5) (by kernel_rfl) ?_
 rintro v7 I7 w7 b7 F7 le7 - h7 s
 obtain ⟨v7, rfl, rfl, hr7⟩ := h7
 refine ops_done (by kernel_rfl) ?_
 refine seqR ?_
 refine oK _ F7 1 [] 0 (fun φ8 => [(13, pB b2)]) (fun φ8 => []) s (fun φ8 => by kernel_rfl) ?_
 intro φ8 w8 s
 refine callH_rule (b := (b2, .cells #[v7, .int .i64 ((0 + (idB t).length + (evB e).length : Nat) : Int)] 138)) (F := F7) (Hr := [(φ1 0, .cells #[.bool bi, .pointer pi, .int .u64 be, .pointer pe] 67)]) (some 14) 0 s (by kernel_rfl) (by kernel_rfl) (bytesA_c (b := b2) (cnt := 0 + (idB t).length + (evB e).length) (bs := (idB t ++ evB e)) (v0 := v7) (by have h7 := hlen; (try simp only [List.length_append, List.length_nil] at h7 ⊢); omega) hr7) (by kernel_rfl) ?_
 rintro v9 I9 w9 b9 F9 le9 - h9 s
 obtain ⟨a9, c9, rfl, rfl, hr9, h9_0⟩ := h9
 refine oKD _ F9 1 [] 0 (fun φ10 => [(2, .slice a9 (List.length (pk (idB t ++ evB e))) c9)]) (fun φ10 => []) s (fun φ10 => by kernel_rfl) (by kernel_rfl) ?_
 intro φ10 w10 s
 refine wp_ret ?_
 refine ret_rule (C := []) _ F9 (.slice a9 (List.length (pk (idB t ++ evB e))) c9) [] [] s trivial (by kernel_rfl) ?_
 exact ⟨_, _, _, rfl, s, ⟨_, _, rfl, h9_0⟩⟩

theorem strL_beq (x y : List UInt8) : ((⟨x.toArray⟩ : ByteArray).toList == (⟨y.toArray⟩ : ByteArray).toList) = decide (x = y) := by
  have hx : ∀ l : List UInt8, (⟨l.toArray⟩ : ByteArray).toList = l := fun l => by rw [Go.ByteArray.toList_eq]
  rw [hx, hx]
  exact Bool.beq_eq_decide_eq x y

theorem equalD_c {I : IM} {l l2 : List UInt8} {a a2 : Option Addr} {n c n2 c2 : Nat} (hl : BSl I l (.slice a n c)) (hl2 : BSl I l2 (.slice a2 n2 c2)) : Fun Tryd.prog 33 #[.slice a n c, .slice a2 n2 c2] I (fun v J => v = .bool (decide (l = l2))) := by
 obtain ⟨rfl, -⟩ := hl.cap
 obtain ⟨rfl, -⟩ := hl2.cap
 refine enter_rule 10 [(0, .slice a l.length c), (1, .slice a2 l2.length c2)] Tryd.func33 rfl (by kernel_rfl) ?_
 intro w s
 refine seqR ?_
 refine oKD [] [] 1 [] 0 (fun φ1 => [(4, .bool false)]) (fun φ1 => []) s (fun φ1 => by kernel_rfl) (by kernel_rfl) ?_
 intro φ1 w1 s
 refine seqR ?_
 refine oK [] [] 1 [] 0 (fun φ2 => [(5, .slice a l.length c)]) (fun φ2 => []) s (fun φ2 => by kernel_rfl) ?_
 intro φ2 w2 s
 refine sem_rule (convert 22 9 (.slice a l.length c)) (some 6) (.string ⟨(l).toArray⟩) (by kernel_rfl) (run_b2s s.sub hl) ?_
 refine oK [] [] 1 [] 0 (fun φ3 => [(7, .slice a2 l2.length c2)]) (fun φ3 => []) s (fun φ3 => by kernel_rfl) ?_
 intro φ3 w3 s
 refine sem_rule (convert 22 9 (.slice a2 l2.length c2)) (some 8) (.string ⟨(l2).toArray⟩) (by kernel_rfl) (run_b2s s.sub hl2) ?_
 refine oKD [] [] 2 [] 0 (fun φ4 => [(4, .bool ((⟨(l).toArray⟩ : ByteArray).toList == (⟨(l2).toArray⟩ : ByteArray).toList)), (9, .bool ((⟨(l).toArray⟩ : ByteArray).toList == (⟨(l2).toArray⟩ : ByteArray).toList))]) (fun φ4 => []) s (fun φ4 => by kernel_rfl) (by kernel_rfl) ?_
 intro φ4 w4 s
 refine wp_ret ?_
 refine ret_rule (C := []) [] [] (.bool ((⟨(l).toArray⟩ : ByteArray).toList == (⟨(l2).toArray⟩ : ByteArray).toList)) [] [] s trivial (by kernel_rfl) ?_
 exact ⟨_, _, _, rfl, s, (congrArg Value.bool (strL_beq l l2))⟩

set_option maxHeartbeats 400000 in
theorem seed_c {I : IM} : Fun Tryd.prog 35 #[] I (fun v J => v = .agg #[.bool true, .pointer none, .int .u64 0, .pointer none]) := by
 refine enter_rule 3 [] Tryd.func35 rfl (by kernel_rfl) ?_
 intro w s
 refine seqR ?_
 refine oAD [] [] 1 [] 1 (fun φ1 => [(0, pB (φ1 0))]) (fun φ1 => [(φ1 0, .cells #[.bool false, .pointer none, .int .u64 0, .pointer none] 67)]) (fun φ1 => []) s (fun φ1 => by kernel_rfl) (by kernel_rfl) ?_
 intro φ1 w1 s
 refine seqR ?_
 refine call_rule (some 1) s (Ev.tone_c) (by kernel_rfl) ?_
 intro v2 I2 w2 le2 h2 s
 obtain rfl := h2
 refine oAD _ [] 2 [.o 0, .o 0, .o 0, .o 0] 0 (fun φ3 => [(2, .agg #[.bool true, .pointer none, .int .u64 0, .pointer none])]) (fun φ3 => [(φ1 0, .cells #[.bool true, .pointer none, .int .u64 0, .pointer none] 67)]) (fun φ3 => [φ1 0, φ1 0, φ1 0, φ1 0]) s (fun φ3 => by kernel_rfl) (by kernel_rfl) ?_
 intro φ3 w3 s
 refine wp_ret ?_
 refine ret_rule (C := []) _ [] (.agg #[.bool true, .pointer none, .int .u64 0, .pointer none]) [.o 0, .o 0, .o 0, .o 0] [φ1 0, φ1 0, φ1 0, φ1 0] s trivial (by kernel_rfl) ?_
 exact ⟨_, _, _, rfl, s, rfl⟩

end Go.Proofs.YtgmigcmhnmmdkaaDoor

/- What is the same. -/
set_option linter.all false
set_option maxRecDepth 100000
namespace Go.Proofs.YtgmigcmhnmmdkaaDoor
open Go.RowKit Go.Sep
attribute [local irreducible] Go.wpList Go.Code.wp

theorem bsl_lit {I : IM} {b n : Nat} {cs : Array Value} {T : TypeId} {fr : Nat × Nat} {l : List UInt8} (h : I b = some (.cells cs T fr)) (hc : cs.toList = l.map bV) (hn : n = l.length) : BSl I l (.slice (some ⟨b, 0, none⟩) n n) := by
  subst hn
  refine ⟨_, _, rfl, Nat.le_refl _, fun j x hj => ⟨b, 0, cs, T, fr, rfl, h, ?_⟩⟩
  have : cs.toList[j]? = some (bV x) := by rw [hc, List.getElem?_map, hj]; rfl
  rw [Nat.zero_add]
  have h2 : cs[j]? = some (bV x) := by simpa using this
  exact h2
theorem equalT_c {I : IM} {l l2 : List UInt8} {a a2 : Option Addr} {n c n2 c2 : Nat} (hl : BSl I l (.slice a n c)) (hl2 : BSl I l2 (.slice a2 n2 c2)) (e : l = l2) : Fun Tryd.prog 33 #[.slice a n c, .slice a2 n2 c2] I (fun v J => v = .bool true) := by
  have := equalD_c hl hl2
  rw [decide_eq_true e] at this; exact this
def okE (e : Ev.E) : Prop := e.nf ∧ e.depth ≤ 7 ∧ e.top ≤ 7 + 3 * 7
theorem okE.w {e : Ev.E} (h : okE e) : e.nf ∧ e.depth ≤ 16 ∧ e.top ≤ 1048576 := ⟨h.1, by have := h.2.1; omega, by have := h.2.2; omega⟩
theorem okE.t {e : Ev.E} (h : okE e) : e.top < 18446744073709551616 := by have := h.2.2; omega
theorem okE.len {e : Ev.E} (h : okE e) : (evB e).length ≤ 40000 := by have := evB_len e 7 h.2.1; omega
def okT (t : Ev.T) : Prop := t.nf ∧ t.depth ≤ 7
theorem okT.len {t : Ev.T} (h : okT t) : (idB t).length ≤ 1000 := by have := idB_len t 7 h.2; omega

set_option maxHeartbeats 400000 in
theorem awake7_c {I : IM} : Fun Tryd.prog 8 #[] I (fun v J => v = .bool true) := by
 refine enter_rule 5 [] Tryd.func8 rfl (by kernel_rfl) ?_
 intro w s
 refine seqR ?_
 refine oKD [] [] 1 [] 0 (fun φ1 => [(0, .bool false)]) (fun φ1 => []) s (fun φ1 => by kernel_rfl) (by kernel_rfl) ?_
 intro φ1 w1 s
 refine seqR ?_
 refine call_rule (some 1) s (seed_c) (by kernel_rfl) ?_
 intro v2 I2 w2 le2 h2 s
 obtain rfl := h2
 refine call_rule (some 2) s (codeStamp_c (Ev.TRep.o _) (Ev.ERep.lf _ 0) (by decide) (by decide)) (by kernel_rfl) ?_
 intro v3 I3 w3 le3 h3 s
 obtain ⟨a3, c3, rfl, h3_0⟩ := h3
 refine oA [] [] 1 [] 1 (fun φ4 => [(3, .slice (some ⟨(φ4 0), 0, none⟩) 1 1)]) (fun φ4 => [(φ4 0, .cells #[.int .u8 48] 5)]) (fun φ4 => []) s (fun φ4 => by kernel_rfl) ?_
 intro φ4 w4 s
 obtain ⟨I5, le5, hk5, s⟩ := s.freezeAt 0 (φ4 0) (.cells #[.int .u8 48] 5) [] (by kernel_rfl) (by kernel_rfl)
 replace h3_0 := BSl.mono le5 h3_0
 refine call_rule (some 4) s (equalT_c h3_0 (bsl_lit (l := ([48] : List UInt8)) hk5 (by kernel_rfl) rfl) (by decide)) (by kernel_rfl) ?_
 intro v6 I6 w6 le6 h6 s
 obtain rfl := h6
 refine oKD [] [] 1 [] 0 (fun φ7 => [(0, .bool true)]) (fun φ7 => []) s (fun φ7 => by kernel_rfl) (by kernel_rfl) ?_
 intro φ7 w7 s
 refine wp_ret ?_
 refine ret_rule (C := []) [] [] (.bool true) [] [] s trivial (by kernel_rfl) ?_
 exact ⟨_, _, _, rfl, s, rfl⟩

end Go.Proofs.YtgmigcmhnmmdkaaDoor

/- What is read of bits: ids and events, as the program reads them. -/
set_option linter.all false
namespace Go.Proofs.YtgmigcmhnmmdkaaDoor

/-- what is read, the error that is told, how many bits have gone, the reader's error -/
structure Rd (α : Type) where
  t : α
  er : Nat
  d : Nat
  e : Nat
def gV (e : Nat) (B : List Bool) (k : Nat) : Nat := if e = 0 ∧ k ≤ B.length then rdB B k else 0
def gD (e : Nat) (B : List Bool) (k : Nat) : Nat := if e = 0 ∧ k ≤ B.length then k else 0
def gE (e : Nat) (B : List Bool) (k : Nat) : Nat := if e = 0 ∧ B.length < k then 6 else e
theorem gD_le (e : Nat) (B : List Bool) (k : Nat) : gD e B k ≤ B.length := by unfold gD; split <;> omega
theorem gV_ge {l : List UInt8} {p e k : Nat} (hp : p ≤ l.length * 8) : geV l p e k = gV e ((bitsL l).drop p) k := by
  unfold geV gV; rw [dropB_len]
  split
  · rename_i h; rw [rdB_rd (by omega)]
  · rfl
theorem gD_ge {l : List UInt8} {p e k : Nat} : geD l p e k = gD e ((bitsL l).drop p) k := by unfold geD gD; rw [dropB_len]
theorem gE_ge {l : List UInt8} {p e k : Nat} : geE l p e k = gE e ((bitsL l).drop p) k := by unfold geE gE; rw [dropB_len]
theorem next_B {l : List UInt8} {p d : Nat} {B : List Bool} (h : (bitsL l).drop p = B) : (bitsL l).drop (p + d) = B.drop d := by
  rw [← h, List.drop_drop]
theorem next_p {l : List UInt8} {p d : Nat} {B : List Bool} (hp : p ≤ l.length * 8) (h : (bitsL l).drop p = B) (hd : d ≤ B.length) : p + d ≤ l.length * 8 := by
  have := congrArg List.length h; rw [dropB_len] at this; omega
theorem drop_drop (B : List Bool) (a b : Nat) : (B.drop a).drop b = B.drop (a + b) := by rw [List.drop_drop]
theorem drop_le {B : List Bool} {a b : Nat} (ha : a ≤ B.length) (h : b ≤ (B.drop a).length) : a + b ≤ B.length := by
  rw [List.length_drop] at h; omega
theorem bnD_le (B : List Bool) (e : Nat) : bnD B e ≤ B.length := by
  unfold bnD; split
  · rename_i h; have := h.2; unfold fewBad at this; omega
  · omega
theorem gV_lt (e : Nat) (B : List Bool) (k : Nat) : gV e B k < 2 ^ k := by
  unfold gV; split
  · exact rdB_lt B k
  · exact Nat.two_pow_pos k
/-- two halves -/
structure Rh (α : Type) where
  l : α
  r : α
  er : Nat
  d : Nat
  e : Nat
def hL {α : Type} (g : List Bool → Rd α) (z : α) (a : Bool) (B : List Bool) : Rd α := if a = true then g B else ⟨z, 0, 0, 0⟩
def hR {α : Type} (g : List Bool → Rd α) (z : α) (b : Bool) (L : Rd α) (B : List Bool) : Rd α := if b = true ∧ L.er = 0 then g (B.drop L.d) else ⟨z, L.er, 0, L.e⟩
def hvG {α : Type} (g : List Bool → Rd α) (z : α) (a b : Bool) (B : List Bool) : Rh α :=
  ⟨(hL g z a B).t, (hR g z b (hL g z a B) B).t, (hR g z b (hL g z a B) B).er, (hL g z a B).d + (hR g z b (hL g z a B) B).d, (hR g z b (hL g z a B) B).e⟩
structure OkG {α : Type} (depth top : α → Nat) (g : List Bool → Rd α) : Prop where
  d : ∀ B, (g B).d ≤ B.length
  e : ∀ B, (g B).er = 0 → (g B).e = 0
  s : ∀ B, depth (g B).t ≤ 16
  t : ∀ B, top (g B).t ≤ 1048576
theorem hL_ok {α : Type} {dp tp : α → Nat} {g : List Bool → Rd α} {z : α} (h : OkG dp tp g) (hz : dp z ≤ 16 ∧ tp z ≤ 1048576) (a : Bool) : OkG dp tp (hL g z a) := by
  refine ⟨fun B => ?_, fun B => ?_, fun B => ?_, fun B => ?_⟩ <;> unfold hL <;> split
  · exact h.d B
  · exact Nat.zero_le _
  · exact h.e B
  · exact fun _ => rfl
  · exact h.s B
  · exact hz.1
  · exact h.t B
  · exact hz.2
theorem hR_d {α : Type} {dp tp : α → Nat} {g : List Bool → Rd α} {z : α} {b : Bool} {L : Rd α} {B : List Bool} (h : OkG dp tp g) : (hR g z b L B).d ≤ (B.drop L.d).length := by
  unfold hR; split
  · exact h.d _
  · exact Nat.zero_le _
theorem hR_e {α : Type} {dp tp : α → Nat} {g : List Bool → Rd α} {z : α} {b : Bool} {L : Rd α} {B : List Bool} (h : OkG dp tp g) (hl : L.er = 0 → L.e = 0) : (hR g z b L B).er = 0 → (hR g z b L B).e = 0 := by
  unfold hR; split
  · exact h.e _
  · exact hl
theorem hR_s {α : Type} {dp tp : α → Nat} {g : List Bool → Rd α} {z : α} {b : Bool} {L : Rd α} {B : List Bool} (h : OkG dp tp g) (hz : dp z ≤ 16 ∧ tp z ≤ 1048576) : dp (hR g z b L B).t ≤ 16 ∧ tp (hR g z b L B).t ≤ 1048576 := by
  unfold hR; split
  · exact ⟨h.s _, h.t _⟩
  · exact hz
theorem hv_d {α : Type} {dp tp : α → Nat} {g : List Bool → Rd α} {z : α} {a b : Bool} {B : List Bool} (h : OkG dp tp g) (hz : dp z ≤ 16 ∧ tp z ≤ 1048576) : (hvG g z a b B).d ≤ B.length :=
  drop_le ((hL_ok h hz a).d B) (hR_d h)
theorem hv_e {α : Type} {dp tp : α → Nat} {g : List Bool → Rd α} {z : α} {a b : Bool} {B : List Bool} (h : OkG dp tp g) (hz : dp z ≤ 16 ∧ tp z ≤ 1048576) : (hvG g z a b B).er = 0 → (hvG g z a b B).e = 0 := hR_e h ((hL_ok h hz a).e B)
theorem hv_s {α : Type} {dp tp : α → Nat} {g : List Bool → Rd α} {z : α} {a b : Bool} {B : List Bool} (h : OkG dp tp g) (hz : dp z ≤ 16 ∧ tp z ≤ 1048576) : (dp (hvG g z a b B).l ≤ 16 ∧ tp (hvG g z a b B).l ≤ 1048576) ∧ dp (hvG g z a b B).r ≤ 16 ∧ tp (hvG g z a b B).r ≤ 1048576 :=
  ⟨⟨(hL_ok h hz a).s B, (hL_ok h hz a).t B⟩, hR_s h hz⟩
/- ids -/
def lfG (B : List Bool) : Rd Ev.T := if gE 0 B 1 ≠ 0 then ⟨.zero, 6, gD 0 B 1, gE 0 B 1⟩ else if gV 0 B 1 = 1 then ⟨.one, 0, gD 0 B 1, gE 0 B 1⟩ else ⟨.zero, 0, gD 0 B 1, gE 0 B 1⟩
def idN (g : List Bool → Rd Ev.T) (last : Bool) (B : List Bool) : Rd Ev.T :=
  if gE 0 B 2 ≠ 0 then ⟨.zero, 6, gD 0 B 2, gE 0 B 2⟩
  else if gV 0 B 2 = 0 then ⟨(lfG (B.drop (gD 0 B 2))).t, (lfG (B.drop (gD 0 B 2))).er, gD 0 B 2 + (lfG (B.drop (gD 0 B 2))).d, (lfG (B.drop (gD 0 B 2))).e⟩
  else if last = true then ⟨.zero, 3, gD 0 B 2, gE 0 B 2⟩
  else if (hvG g .zero (decide (gV 0 B 2 ≠ 1)) (decide (gV 0 B 2 ≠ 2)) (B.drop (gD 0 B 2))).er ≠ 0 then ⟨.zero, (hvG g .zero (decide (gV 0 B 2 ≠ 1)) (decide (gV 0 B 2 ≠ 2)) (B.drop (gD 0 B 2))).er, gD 0 B 2 + (hvG g .zero (decide (gV 0 B 2 ≠ 1)) (decide (gV 0 B 2 ≠ 2)) (B.drop (gD 0 B 2))).d, (hvG g .zero (decide (gV 0 B 2 ≠ 1)) (decide (gV 0 B 2 ≠ 2)) (B.drop (gD 0 B 2))).e⟩
  else if idK (Ev.pairT (hvG g .zero (decide (gV 0 B 2 ≠ 1)) (decide (gV 0 B 2 ≠ 2)) (B.drop (gD 0 B 2))).l (hvG g .zero (decide (gV 0 B 2 ≠ 1)) (decide (gV 0 B 2 ≠ 2)) (B.drop (gD 0 B 2))).r).1 ≠ gV 0 B 2 then ⟨.zero, 6, gD 0 B 2 + (hvG g .zero (decide (gV 0 B 2 ≠ 1)) (decide (gV 0 B 2 ≠ 2)) (B.drop (gD 0 B 2))).d, (hvG g .zero (decide (gV 0 B 2 ≠ 1)) (decide (gV 0 B 2 ≠ 2)) (B.drop (gD 0 B 2))).e⟩
  else ⟨(Ev.pairT (hvG g .zero (decide (gV 0 B 2 ≠ 1)) (decide (gV 0 B 2 ≠ 2)) (B.drop (gD 0 B 2))).l (hvG g .zero (decide (gV 0 B 2 ≠ 1)) (decide (gV 0 B 2 ≠ 2)) (B.drop (gD 0 B 2))).r).1, (Ev.pairT (hvG g .zero (decide (gV 0 B 2 ≠ 1)) (decide (gV 0 B 2 ≠ 2)) (B.drop (gD 0 B 2))).l (hvG g .zero (decide (gV 0 B 2 ≠ 1)) (decide (gV 0 B 2 ≠ 2)) (B.drop (gD 0 B 2))).r).2, gD 0 B 2 + (hvG g .zero (decide (gV 0 B 2 ≠ 1)) (decide (gV 0 B 2 ≠ 2)) (B.drop (gD 0 B 2))).d, (hvG g .zero (decide (gV 0 B 2 ≠ 1)) (decide (gV 0 B 2 ≠ 2)) (B.drop (gD 0 B 2))).e⟩
def idG : Nat → List Bool → Rd Ev.T
  | 0 => idN (fun _ => ⟨.zero, 0, 0, 0⟩) true
  | f + 1 => idN (idG f) false
abbrev OkT := OkG Ev.T.depth (fun _ => 0)
theorem okZ : OkT (fun _ => ⟨.zero, 0, 0, 0⟩) := ⟨fun _ => Nat.zero_le _, fun _ _ => rfl, fun _ => Nat.zero_le _, fun _ => Nat.zero_le _⟩
theorem zT : Ev.T.zero.depth ≤ 16 ∧ (fun _ : Ev.T => 0) Ev.T.zero ≤ 1048576 := ⟨Nat.zero_le _, Nat.zero_le _⟩
theorem lfG_ok : OkT lfG := by
  refine ⟨fun B => ?_, fun B => ?_, fun B => ?_, fun B => Nat.zero_le _⟩ <;> unfold lfG <;> split
  · exact gD_le _ _ _
  · split <;> exact gD_le _ _ _
  · exact fun z => absurd (show (6 : Nat) = 0 from z) (by decide)
  · rename_i h; split <;> exact fun _ => Decidable.not_not.1 h
  · exact Nat.zero_le _
  · split <;> exact Nat.zero_le _
theorem pair_depth (l r : Ev.T) : (Ev.pairT l r).1.depth ≤ 16 := by
  unfold Ev.pairT; split
  · exact Nat.zero_le _
  · rename_i h; exact Nat.not_lt.1 h
theorem idN_ok {g : List Bool → Rd Ev.T} (h : OkT g) (last : Bool) : OkT (idN g last) := by
  refine ⟨fun B => ?_, fun B => ?_, fun B => ?_, fun B => Nat.zero_le _⟩ <;> unfold idN
  · split
    · exact gD_le _ _ _
    · split
      · exact drop_le (gD_le _ _ _) (lfG_ok.d _)
      · split
        · exact gD_le _ _ _
        · split
          · exact drop_le (gD_le _ _ _) (hv_d h zT)
          · split <;> exact drop_le (gD_le _ _ _) (hv_d h zT)
  · split
    · exact fun z => absurd (show (6 : Nat) = 0 from z) (by decide)
    · split
      · exact lfG_ok.e _
      · split
        · exact fun z => absurd (show (3 : Nat) = 0 from z) (by decide)
        · split
          · rename_i q; exact fun q' => absurd q' q
          · rename_i q
            split
            · exact fun z => absurd (show (6 : Nat) = 0 from z) (by decide)
            · exact fun _ => hv_e h zT (Decidable.not_not.1 q)
  · split
    · exact Nat.zero_le _
    · split
      · exact lfG_ok.s _
      · split
        · exact Nat.zero_le _
        · split
          · exact Nat.zero_le _
          · split
            · exact Nat.zero_le _
            · exact pair_depth _ _
theorem idG_ok : ∀ f, OkT (idG f)
  | 0 => idN_ok okZ true
  | f + 1 => idN_ok (idG_ok f) false
/- what was written is read again -/
theorem rdB_app {A X : List Bool} : ∀ {k : Nat}, k ≤ A.length → rdB (A ++ X) k = rdB A k
  | 0, _ => rfl
  | k + 1, h => by
    rw [rdB, rdB, rdB_app (k := k) (by omega), List.getD_eq_getElem?_getD, List.getD_eq_getElem?_getD, List.getElem?_append_left (by omega)]
theorem gD_app {A X : List Bool} : gD 0 (A ++ X) A.length = A.length := by unfold gD; rw [if_pos ⟨rfl, by simp⟩]
theorem gE_app {A X : List Bool} : gE 0 (A ++ X) A.length = 0 := by unfold gE; rw [if_neg (fun q => by have := q.2; simp at this; omega)]
theorem gV_app {A X : List Bool} : gV 0 (A ++ X) A.length = rdB A A.length := by unfold gV; rw [if_pos ⟨rfl, by simp⟩, rdB_app (Nat.le_refl _)]
theorem g2 (a b : Bool) (X : List Bool) : gD 0 (a :: b :: X) 2 = 2 ∧ gE 0 (a :: b :: X) 2 = 0 ∧ gV 0 (a :: b :: X) 2 = 2 * a.toNat + b.toNat := by
  refine ⟨gD_app (A := [a, b]), gE_app (A := [a, b]), ?_⟩
  rw [show a :: b :: X = [a, b] ++ X by rfl]
  have := gV_app (A := [a, b]) (X := X)
  rw [show ([a, b] : List Bool).length = 2 by rfl] at this
  rw [this]
  simp [rdB]
theorem g1 (a : Bool) (X : List Bool) : gD 0 (a :: X) 1 = 1 ∧ gE 0 (a :: X) 1 = 0 ∧ gV 0 (a :: X) 1 = a.toNat := by
  refine ⟨gD_app (A := [a]), gE_app (A := [a]), ?_⟩
  have := gV_app (A := [a]) (X := X)
  rw [show ([a] : List Bool).length = 1 by rfl] at this
  rw [show a :: X = [a] ++ X by rfl, this]
  simp [rdB]
end Go.Proofs.YtgmigcmhnmmdkaaDoor

/- Halves of ids are read. -/
set_option linter.all false
set_option maxRecDepth 100000
namespace Go.Proofs.YtgmigcmhnmmdkaaDoor
open Go.RowKit Go.Sep
attribute [local irreducible] Go.wpList Go.Code.wp

theorem getE_c {I : IM} {l : List UInt8} {a : Option Addr} {c : Nat} {r p e : Nat} {B : List Bool} (hl : BSl I l (.slice a l.length c)) (hn9 : l.length ≤ 1000000) (hp : p ≤ l.length * 8) (hB : (bitsL l).drop p = B) {k : Nat} (hk : k ≤ 64) : FunM Tryd.prog 16 #[.pointer (some ⟨r, 0, none⟩), .int .i64 ((k : Nat) : Int)] I [(r, .cells #[.slice a l.length c, .int .i64 ((p : Nat) : Int), .int .i64 ((e : Nat) : Int)] 74)] (fun v J H' => ∃ b' : OB, H' = [b'] ∧ b'.1 = r ∧ v = .int .u64 ((gV e B k : Nat) : Int) ∧ b' = (r, .cells #[.slice a l.length c, .int .i64 ((p + gD e B k : Nat) : Int), .int .i64 ((gE e B k : Nat) : Int)] 74)) := by
  have h := getG_c (r := r) (p := p) (e := e) (z := ((k : Nat) : Int)) hl hn9 hp
  have hc : clampN ((k : Nat) : Int) = k := by unfold clampN; omega
  rw [hc, gV_ge hp, gD_ge, gE_ge, hB] at h
  exact h
theorem getK_c {I : IM} {l : List UInt8} {a : Option Addr} {c : Nat} {r p e : Nat} {B : List Bool} (hl : BSl I l (.slice a l.length c)) (hn9 : l.length ≤ 1000000) (hp : p ≤ l.length * 8) (hB : (bitsL l).drop p = B) (he : e = 0) {k : Nat} (hk : k ≤ 64) : FunM Tryd.prog 16 #[.pointer (some ⟨r, 0, none⟩), .int .i64 ((k : Nat) : Int)] I [(r, .cells #[.slice a l.length c, .int .i64 ((p : Nat) : Int), .int .i64 ((e : Nat) : Int)] 74)] (fun v J H' => ∃ b' : OB, H' = [b'] ∧ b'.1 = r ∧ v = .int .u64 ((gV 0 B k : Nat) : Int) ∧ b' = (r, .cells #[.slice a l.length c, .int .i64 ((p + gD 0 B k : Nat) : Int), .int .i64 ((gE 0 B k : Nat) : Int)] 74)) := by
  subst he; exact getE_c hl hn9 hp hB hk

theorem failed_c {I : IM} {r e : Nat} {v0 v1 : Value} : FunM Tryd.prog 70 #[.agg #[.pointer (some ⟨r, 0, none⟩)]] I [(r, .cells #[v0, v1, .int .i64 ((e : Nat) : Int)] 74)] (fun v J H' => ∃ b' : OB, H' = [b'] ∧ b'.1 = r ∧ v = .bool (decide (e ≠ 0)) ∧ b' = (r, .cells #[v0, v1, .int .i64 ((e : Nat) : Int)] 74)) := by
 refine enterM_rule 7 [(0, .agg #[pB r])] Tryd.func70 rfl (by kernel_rfl) ?_
 intro w s
 refine seqR ?_
 refine oAD [(r, .cells #[v0, v1, .int .i64 e] 74)] [] 2 [] 1 (fun φ1 => [(2, .bool false), (1, pB (φ1 0))]) (fun φ1 => [(r, .cells #[v0, v1, .int .i64 e] 74), (φ1 0, .cells #[pB r] 71)]) (fun φ1 => []) s (fun φ1 => by kernel_rfl) (by kernel_rfl) ?_
 intro φ1 w1 s
 refine seqR ?_
 refine oK _ [] 2 [.o 1] 0 (fun φ2 => [(4, pB r), (3, pB (φ1 0))]) (fun φ2 => [(φ1 0)]) s (fun φ2 => by kernel_rfl) ?_
 intro φ2 w2 s
 refine callB_rule (b := (r, .cells #[v0, v1, .int .i64 e] 74)) (F := []) (Hr := [(φ1 0, .cells #[pB r] 71)]) (some 5) 0 s (by kernel_rfl) (by kernel_rfl) (err_c (r := r) (v0 := v0) (v1 := v1) (e := e)) (by kernel_rfl) ?_
 rintro v3 I3 w3 b3 le3 - h3 s
 obtain ⟨rfl, rfl⟩ := h3
 refine oK _ [] 2 [] 0 (fun φ4 => [(2, .bool (((e : Nat) : Int) != ((0 : Nat) : Int))), (6, .bool (((e : Nat) : Int) != ((0 : Nat) : Int)))]) (fun φ4 => []) s (fun φ4 => by kernel_rfl) ?_
 intro φ4 w4 s
 rw [nat_neq (a := e) (b := 0)]
 refine ops_done (by kernel_rfl) ?_
 refine wp_ret ?_
 refine ret_rule (C := []) _ [] (.bool (decide (e ≠ 0))) [] [] s trivial (by kernel_rfl) ?_
 replace s := s.drop (List.Sublist.append (List.Sublist.cons₂ _ (List.Sublist.cons _ List.Sublist.slnil)) (List.Sublist.refl []))
 exact ⟨_, _, _, rfl, s, ⟨_, rfl, rfl, rfl, rfl⟩⟩

set_option maxHeartbeats 1000000 in
theorem leafID_c {I : IM} {l : List UInt8} {a : Option Addr} {c : Nat} {r p e : Nat} {B : List Bool} (hl : BSl I l (.slice a l.length c)) (hn9 : l.length ≤ 1000000) (hp : p ≤ l.length * 8) (hB : (bitsL l).drop p = B) (he : e = 0) : FunM Tryd.prog 72 #[.agg #[.pointer (some ⟨r, 0, none⟩)]] I [(r, .cells #[.slice a l.length c, .int .i64 ((p : Nat) : Int), .int .i64 ((e : Nat) : Int)] 74)] (fun v J H' => ∃ b' : OB, H' = [b'] ∧ b'.1 = r ∧ ∃ bi pi, v = .tuple #[.agg #[.bool bi, .pointer pi], .int .i64 (((lfG B).er : Nat) : Int)] ∧ b' = (r, .cells #[.slice a l.length c, .int .i64 ((p + (lfG B).d : Nat) : Int), .int .i64 (((lfG B).e : Nat) : Int)] 74) ∧ Ev.TRep J (lfG B).t bi pi) := by
 refine enterM_rule 17 [(0, .agg #[pB r])] Tryd.func72 rfl (by kernel_rfl) ?_
 intro w s
 refine seqR ?_
 refine oAD [(r, .cells #[.slice a l.length c, .int .i64 p, .int .i64 e] 74)] [] 3 [] 2 (fun φ1 => [(3, .int .i64 0), (2, pB (φ1 1)), (1, pB (φ1 0))]) (fun φ1 => [(r, .cells #[.slice a l.length c, .int .i64 p, .int .i64 e] 74), (φ1 0, .cells #[pB r] 71), (φ1 1, .cells #[.bool false, .pointer none] 27)]) (fun φ1 => []) s (fun φ1 => by kernel_rfl) (by kernel_rfl) ?_
 intro φ1 w1 s
 refine seqR ?_
 refine oK _ [] 2 [.o 1] 0 (fun φ2 => [(6, pB r), (5, pB (φ1 0))]) (fun φ2 => [(φ1 0)]) s (fun φ2 => by kernel_rfl) ?_
 intro φ2 w2 s
 refine callB_rule (b := (r, .cells #[.slice a l.length c, .int .i64 p, .int .i64 e] 74)) (F := []) (Hr := [(φ1 0, .cells #[pB r] 71), (φ1 1, .cells #[.bool false, .pointer none] 27)]) (some 7) 0 s (by kernel_rfl) (by kernel_rfl) (getK_c (k := 1) (r := r) (p := p) (B := B) hl hn9 hp hB he (by decide)) (by kernel_rfl) ?_
 rintro v4 I4 w4 b4 le4 - h4 s
 obtain ⟨rfl, rfl⟩ := h4
 have hB3 := next_B (d := gD 0 B 1) hB
 have hp3 := next_p (d := gD 0 B 1) hp hB (gD_le _ _ _)
 refine oKD _ [] 1 [] 0 (fun φ5 => [(4, .int .u64 (gV 0 B 1))]) (fun φ5 => []) s (fun φ5 => by kernel_rfl) (by kernel_rfl) ?_
 intro φ5 w5 s
 refine wp_seq ?_
 refine wp_block ?_
 refine seqR ?_
 refine oK _ [] 1 [.o 1] 0 (fun φ6 => [(9, .agg #[pB r])]) (fun φ6 => [(φ1 0)]) s (fun φ6 => by kernel_rfl) ?_
 intro φ6 w6 s
 refine callB_rule (b := (r, .cells #[.slice a l.length c, .int .i64 ((p + (gD 0 B 1) : Nat) : Int), .int .i64 (gE 0 B 1)] 74)) (F := []) (Hr := [(φ1 0, .cells #[pB r] 71), (φ1 1, .cells #[.bool false, .pointer none] 27)]) (some 10) 0 s (by kernel_rfl) (by kernel_rfl) (failed_c (r := r) (v0 := .slice a l.length c) (v1 := .int .i64 ((p + (gD 0 B 1) : Nat) : Int)) (e := gE 0 B 1)) (by kernel_rfl) ?_
 rintro v7 I7 w7 b7 le7 - h7 s
 obtain ⟨rfl, rfl⟩ := h7
 refine oKD _ [] 1 [] 0 (fun φ8 => [(8, .bool (decide (gE 0 B 1 ≠ 0)))]) (fun φ8 => []) s (fun φ8 => by kernel_rfl) (by kernel_rfl) ?_
 intro φ8 w8 s
 rcases Bool.eq_false_or_eq_true (decide (gE 0 B 1 ≠ 0)) with hc9 | hc9
 ·
  rw [hc9]
  refine cond_true_rule (b := true) (by kernel_rfl) rfl ?_
  refine seqR ?_
  refine call_rule (some 11) s (Ev.tzero_c) (by kernel_rfl) ?_
  intro v10 I10 w10 le10 h10 s
  obtain rfl := h10
  refine oKD _ [] 2 [.o 2, .o 2] 0 (fun φ11 => [(3, .int .i64 6)]) (fun φ11 => [φ1 1, φ1 1]) s (fun φ11 => by kernel_rfl) (by kernel_rfl) ?_
  intro φ11 w11 s
  refine wp_ret ?_
  refine ret_rule (C := []) _ [] (.tuple #[.agg #[.bool false, .pointer none], .int .i64 6]) [.o 2, .o 2] [φ1 1, φ1 1] s trivial (by kernel_rfl) ?_
  replace s := s.drop (List.Sublist.append (List.Sublist.cons₂ _ (List.Sublist.cons _ (List.Sublist.cons _ List.Sublist.slnil))) (List.Sublist.refl []))
  have e9 : lfG B = ⟨Ev.T.zero, 6, gD 0 B 1, gE 0 B 1⟩ := by unfold lfG; rw [if_pos (of_decide_eq_true hc9)]
  exact ⟨_, _, _, rfl, s, (by rw [e9]; exact ⟨_, rfl, rfl, _, _, rfl, rfl, (Ev.TRep.z _)⟩)⟩
 ·
  rw [hc9]
  refine cond_false_rule (b := false) (by kernel_rfl) rfl ?_
  refine seqR ?_
  refine oK _ [] 3 [] 0 (fun φ12 => [(12, .bool (((gV 0 B 1 : Nat) : Int) == ((1 : Nat) : Int))), (14, .bool (((gV 0 B 1 : Nat) : Int) == ((1 : Nat) : Int))), (13, .int .u64 (gV 0 B 1))]) (fun φ12 => []) s (fun φ12 => by kernel_rfl) ?_
  intro φ12 w12 s
  rw [nat_eql (a := (gV 0 B 1)) (b := 1)]
  refine ops_done (by kernel_rfl) ?_
  rcases Bool.eq_false_or_eq_true (decide ((gV 0 B 1) = 1)) with hc13 | hc13
  ·
   rw [hc13]
   refine cond_true_rule (b := true) (by kernel_rfl) rfl ?_
   refine seqR ?_
   refine call_rule (some 15) s (Ev.tone_c) (by kernel_rfl) ?_
   intro v14 I14 w14 le14 h14 s
   obtain rfl := h14
   refine oAD _ [] 2 [.o 2, .o 2] 0 (fun φ15 => [(3, .int .i64 0)]) (fun φ15 => [(r, .cells #[.slice a l.length c, .int .i64 ((p + (gD 0 B 1) : Nat) : Int), .int .i64 (gE 0 B 1)] 74), (φ1 0, .cells #[pB r] 71), (φ1 1, .cells #[.bool true, .pointer none] 27)]) (fun φ15 => [φ1 1, φ1 1]) s (fun φ15 => by kernel_rfl) (by kernel_rfl) ?_
   intro φ15 w15 s
   refine wp_ret ?_
   refine ret_rule (C := []) _ [] (.tuple #[.agg #[.bool true, .pointer none], .int .i64 0]) [.o 2, .o 2] [φ1 1, φ1 1] s trivial (by kernel_rfl) ?_
   replace s := s.drop (List.Sublist.append (List.Sublist.cons₂ _ (List.Sublist.cons _ (List.Sublist.cons _ List.Sublist.slnil))) (List.Sublist.refl []))
   have e9 : lfG B = ⟨Ev.T.one, 0, gD 0 B 1, gE 0 B 1⟩ := by unfold lfG; rw [if_neg (of_decide_eq_false hc9), if_pos (of_decide_eq_true hc13)]
   exact ⟨_, _, _, rfl, s, (by rw [e9]; exact ⟨_, rfl, rfl, _, _, rfl, rfl, (Ev.TRep.o _)⟩)⟩
  ·
   rw [hc13]
   refine cond_false_rule (b := false) (by kernel_rfl) rfl ?_
   refine wp_skip ?_
   refine seqR ?_
   refine call_rule (some 16) s (Ev.tzero_c) (by kernel_rfl) ?_
   intro v16 I16 w16 le16 h16 s
   obtain rfl := h16
   refine oKD _ [] 2 [.o 2, .o 2] 0 (fun φ17 => [(3, .int .i64 0)]) (fun φ17 => [φ1 1, φ1 1]) s (fun φ17 => by kernel_rfl) (by kernel_rfl) ?_
   intro φ17 w17 s
   refine wp_ret ?_
   refine ret_rule (C := []) _ [] (.tuple #[.agg #[.bool false, .pointer none], .int .i64 0]) [.o 2, .o 2] [φ1 1, φ1 1] s trivial (by kernel_rfl) ?_
   replace s := s.drop (List.Sublist.append (List.Sublist.cons₂ _ (List.Sublist.cons _ (List.Sublist.cons _ List.Sublist.slnil))) (List.Sublist.refl []))
   have e9 : lfG B = ⟨Ev.T.zero, 0, gD 0 B 1, gE 0 B 1⟩ := by unfold lfG; rw [if_neg (of_decide_eq_false hc9), if_neg (of_decide_eq_false hc13)]
   exact ⟨_, _, _, rfl, s, (by rw [e9]; exact ⟨_, rfl, rfl, _, _, rfl, rfl, (Ev.TRep.z _)⟩)⟩

set_option maxHeartbeats 1000000 in
theorem halvesT_c {I : IM} {l : List UInt8} {a : Option Addr} {c : Nat} {r p e : Nat} {B : List Bool} (hl : BSl I l (.slice a l.length c)) (hn9 : l.length ≤ 1000000) (hp : p ≤ l.length * 8) (hB : (bitsL l).drop p = B) (he : e = 0) {g : List Bool → Rd Ev.T} (hg : OkT g) {deep : Nat} (ih : ∀ {J : IM} {p e : Nat} {B : List Bool}, BSl J l (.slice a l.length c) → p ≤ l.length * 8 → (bitsL l).drop p = B → e = 0 → FunM Tryd.prog 37 #[.agg #[.pointer (some ⟨r, 0, none⟩)], .int .i64 ((deep : Nat) : Int)] J [(r, .cells #[.slice a l.length c, .int .i64 ((p : Nat) : Int), .int .i64 ((e : Nat) : Int)] 74)] (fun v J H' => ∃ b' : OB, H' = [b'] ∧ b'.1 = r ∧ ∃ bi pi, v = .tuple #[.agg #[.bool bi, .pointer pi], .int .i64 (((g B).er : Nat) : Int)] ∧ b' = (r, .cells #[.slice a l.length c, .int .i64 ((p + (g B).d : Nat) : Int), .int .i64 (((g B).e : Nat) : Int)] 74) ∧ Ev.TRep J (g B).t bi pi)) {xa xb : Bool} : FunM Tryd.prog 73 #[.bool xa, .bool xb, .int .i64 ((deep : Nat) : Int), .func (.func 37) #[.agg #[.pointer (some ⟨r, 0, none⟩)]] #[]] I [(r, .cells #[.slice a l.length c, .int .i64 ((p : Nat) : Int), .int .i64 ((e : Nat) : Int)] 74)] (fun v J H' => ∃ b' : OB, H' = [b'] ∧ b'.1 = r ∧ ∃ b1 p1 b2 p2, v = .tuple #[.agg #[.bool b1, .pointer p1], .agg #[.bool b2, .pointer p2], .int .i64 (((hvG g Ev.T.zero xa xb B).er : Nat) : Int)] ∧ b' = (r, .cells #[.slice a l.length c, .int .i64 ((p + (hvG g Ev.T.zero xa xb B).d : Nat) : Int), .int .i64 (((hvG g Ev.T.zero xa xb B).e : Nat) : Int)] 74) ∧ Ev.TRep J (hvG g Ev.T.zero xa xb B).l b1 p1 ∧ Ev.TRep J (hvG g Ev.T.zero xa xb B).r b2 p2) := by
 refine enterM_rule 32 [(0, .bool xa), (1, .bool xb), (2, .int .i64 deep), (3, .func (.func 37) #[.agg #[pB r]] #[])] Tryd.func73 rfl (by kernel_rfl) ?_
 intro w s
 refine seqR ?_
 refine oAD [(r, .cells #[.slice a l.length c, .int .i64 p, .int .i64 e] 74)] [] 3 [] 2 (fun φ1 => [(10, .int .i64 0), (9, pB (φ1 1)), (8, pB (φ1 0))]) (fun φ1 => [(r, .cells #[.slice a l.length c, .int .i64 p, .int .i64 e] 74), (φ1 0, .cells #[.bool false, .pointer none] 27), (φ1 1, .cells #[.bool false, .pointer none] 27)]) (fun φ1 => []) s (fun φ1 => by kernel_rfl) (by kernel_rfl) ?_
 intro φ1 w1 s
 refine wp_seq ?_
 refine seqR ?_
 refine oKD _ [] 1 [] 0 (fun φ2 => [(11, .bool xa)]) (fun φ2 => []) s (fun φ2 => by kernel_rfl) (by kernel_rfl) ?_
 intro φ2 w2 s
 rcases Bool.eq_false_or_eq_true (xa) with hc3 | hc3
 ·
  rw [hc3]
  refine cond_true_rule (b := true) (by kernel_rfl) rfl ?_
  refine region_rule ?_
  refine oK _ [] 2 [] 0 (fun φ4 => [(14, .int .i64 deep), (13, .func (.func 37) #[.agg #[pB r]] #[])]) (fun φ4 => []) s (fun φ4 => by kernel_rfl) ?_
  intro φ4 w4 s
  refine callB_rule (b := (r, .cells #[.slice a l.length c, .int .i64 p, .int .i64 e] 74)) (F := []) (Hr := [(φ1 0, .cells #[.bool false, .pointer none] 27), (φ1 1, .cells #[.bool false, .pointer none] 27)]) (some 15) 0 s (by kernel_rfl) (by kernel_rfl) (ih hl hp hB he) (by kernel_rfl) ?_
  rintro v6 I6 w6 b6 le6 - h6 s
  replace hl := BSl.mono le6 hl
  obtain ⟨bi6, pi6, rfl, rfl, h6_0⟩ := h6
  have hB5 := next_B (d := (g B).d) hB
  have hp5 := next_p (d := (g B).d) hp hB (hg.d _)
  refine oAD _ [] 5 [.o 1, .o 1] 0 (fun φ7 => [(10, .int .i64 (((g B).er : Nat) : Int)), (17, .int .i64 (((g B).er : Nat) : Int)), (16, .agg #[.bool bi6, .pointer pi6]), (12, .tuple #[.agg #[.bool bi6, .pointer pi6], .int .i64 (((g B).er : Nat) : Int)])]) (fun φ7 => [(r, .cells #[.slice a l.length c, .int .i64 ((p + ((g B).d) : Nat) : Int), .int .i64 (((g B).e : Nat) : Int)] 74), (φ1 0, .cells #[.bool bi6, .pointer pi6] 27), (φ1 1, .cells #[.bool false, .pointer none] 27)]) (fun φ7 => [φ1 0, φ1 0]) s (fun φ7 => by kernel_rfl) (by kernel_rfl) ?_
  intro φ7 w7 s
  refine wp_seq ?_
  refine seqR ?_
  refine oK _ [] 2 [] 0 (fun φ8 => [(19, .bool xb), (18, .bool xb)]) (fun φ8 => []) s (fun φ8 => by kernel_rfl) ?_
  intro φ8 w8 s
  rcases Bool.eq_false_or_eq_true (xb) with hc9 | hc9
  ·
   rw [hc9]
   refine oK _ [] 3 [] 0 (fun φ10 => [(22, .bool ((((g B).er : Nat) : Int) == ((0 : Nat) : Int))), (21, .bool ((((g B).er : Nat) : Int) == ((0 : Nat) : Int))), (20, .int .i64 (((g B).er : Nat) : Int))]) (fun φ10 => []) s (fun φ10 => by kernel_rfl) ?_
   intro φ10 w10 s
   rw [nat_eql (a := ((g B).er)) (b := 0)]
   refine ops_done (by kernel_rfl) ?_
   rcases Bool.eq_false_or_eq_true (decide (((g B).er) = 0)) with hc11 | hc11
   ·
    rw [hc11]
    refine cond_true_rule (b := true) (by kernel_rfl) rfl ?_
    refine region_rule ?_
    refine oK _ [] 2 [] 0 (fun φ12 => [(25, .int .i64 deep), (24, .func (.func 37) #[.agg #[pB r]] #[])]) (fun φ12 => []) s (fun φ12 => by kernel_rfl) ?_
    intro φ12 w12 s
    refine callB_rule (b := (r, .cells #[.slice a l.length c, .int .i64 ((p + ((g B).d) : Nat) : Int), .int .i64 (((g B).e : Nat) : Int)] 74)) (F := []) (Hr := [(φ1 0, .cells #[.bool bi6, .pointer pi6] 27), (φ1 1, .cells #[.bool false, .pointer none] 27)]) (some 26) 0 s (by kernel_rfl) (by kernel_rfl) (ih hl hp5 hB5 (hg.e _ (of_decide_eq_true hc11))) (by kernel_rfl) ?_
    rintro v14 I14 w14 b14 le14 - h14 s
    replace hl := BSl.mono le14 hl
    replace h6_0 := Ev.TRep.mono le14 h6_0
    obtain ⟨bi14, pi14, rfl, rfl, h14_0⟩ := h14
    have hB13 := next_B (d := (g (B.drop ((g B).d))).d) hB5
    have hp13 := next_p (d := (g (B.drop ((g B).d))).d) hp5 hB5 (hg.d _)
    refine oAD _ [] 5 [.o 2, .o 2] 0 (fun φ15 => [(10, .int .i64 (((g (B.drop ((g B).d))).er : Nat) : Int)), (28, .int .i64 (((g (B.drop ((g B).d))).er : Nat) : Int)), (27, .agg #[.bool bi14, .pointer pi14]), (23, .tuple #[.agg #[.bool bi14, .pointer pi14], .int .i64 (((g (B.drop ((g B).d))).er : Nat) : Int)])]) (fun φ15 => [(r, .cells #[.slice a l.length c, .int .i64 ((p + ((g B).d) + ((g (B.drop ((g B).d))).d) : Nat) : Int), .int .i64 (((g (B.drop ((g B).d))).e : Nat) : Int)] 74), (φ1 0, .cells #[.bool bi6, .pointer pi6] 27), (φ1 1, .cells #[.bool bi14, .pointer pi14] 27)]) (fun φ15 => [φ1 1, φ1 1]) s (fun φ15 => by kernel_rfl) (by kernel_rfl) ?_
    intro φ15 w15 s
    refine wp_seq ?_
    refine draw_rule (C := []) ⟨(fun φ16 xs16 => [.look 0 [.o 1, .o 1] [φ1 0, φ1 0], .look 0 [.o 2, .o 2] [φ1 1, φ1 1], .look 0 [] [], .store 0 [.o 1, .o 1] [φ1 0, φ1 0], .store 1 [.o 2, .o 2] [φ1 1, φ1 1], .look 2 [] []]), (fun φ16 xs16 => [.agg #[.bool bi6, .pointer pi6], .agg #[.bool bi14, .pointer pi14], .int .i64 (((g (B.drop ((g B).d))).er : Nat) : Int), undef, undef, .int .i64 (((g (B.drop ((g B).d))).er : Nat) : Int)]), (fun φ16 xs16 => [[(r, .cells #[.slice a l.length c, .int .i64 ((p + ((g B).d) + ((g (B.drop ((g B).d))).d) : Nat) : Int), .int .i64 (((g (B.drop ((g B).d))).e : Nat) : Int)] 74), (φ1 0, .cells #[.bool bi6, .pointer pi6] 27), (φ1 1, .cells #[.bool bi14, .pointer pi14] 27)], [(r, .cells #[.slice a l.length c, .int .i64 ((p + ((g B).d) + ((g (B.drop ((g B).d))).d) : Nat) : Int), .int .i64 (((g (B.drop ((g B).d))).e : Nat) : Int)] 74), (φ1 0, .cells #[.bool bi6, .pointer pi6] 27), (φ1 1, .cells #[.bool bi14, .pointer pi14] 27)], [(r, .cells #[.slice a l.length c, .int .i64 ((p + ((g B).d) + ((g (B.drop ((g B).d))).d) : Nat) : Int), .int .i64 (((g (B.drop ((g B).d))).e : Nat) : Int)] 74), (φ1 0, .cells #[.bool bi6, .pointer pi6] 27), (φ1 1, .cells #[.bool bi14, .pointer pi14] 27)]]), (fun φ16 xs16 => [[default, default, default, default, default, default], [default, default, default, default, default, default], [default, default, default, default, default, default]]), [3, 4], [1, 1, 1, 4, 4, 1]⟩ (fun j => ([MP.any] : List MP).getD j MP.any) [] [] [] (fun φ16 xs16 => [[none, none, none, none, none, none], [none, none, none, none, none, none]]) (fun φ16 xs16 => [(29, .agg #[.bool bi6, .pointer pi6]), (30, .agg #[.bool bi14, .pointer pi14]), (31, .int .i64 (((g (B.drop ((g B).d))).er : Nat) : Int)), (10, .int .i64 (((g (B.drop ((g B).d))).er : Nat) : Int))]) (fun φ16 xs16 => [(r, .cells #[.slice a l.length c, .int .i64 ((p + ((g B).d) + ((g (B.drop ((g B).d))).d) : Nat) : Int), .int .i64 (((g (B.drop ((g B).d))).e : Nat) : Int)] 74), (φ1 0, .cells #[.bool bi6, .pointer pi6] 27), (φ1 1, .cells #[.bool bi14, .pointer pi14] 27)]) s trivial (by kernel_rfl) (by kernel_rfl) (fun _ _ => by kernel_rfl) (fun _ _ => by kernel_rfl) ⟨fun _ _ => by kernel_rfl, fun _ _ => by kernel_rfl, fun _ _ => by kernel_rfl, fun _ _ => by kernel_rfl⟩ (fun _ _ _ => by kernel_rfl) (fun _ _ => by kernel_rfl) (fun _ _ => by kernel_rfl) (fun _ _ => by kernel_rfl) (fun _ _ => by kernel_rfl) (fun _ _ => by kernel_rfl) trivial trivial (by kernel_rfl) trivial ?k16
    case k16 =>
     rintro φ16 xs16 I16 w16 le16 s 
     replace hl := BSl.mono le16 hl
     replace h6_0 := Ev.TRep.mono le16 h6_0
     replace h14_0 := Ev.TRep.mono le16 h14_0
     refine wp_ret ?_
     refine ret_rule (C := []) [(r, .cells #[.slice a l.length c, .int .i64 ((p + ((g B).d) + ((g (B.drop ((g B).d))).d) : Nat) : Int), .int .i64 (((g (B.drop ((g B).d))).e : Nat) : Int)] 74), (φ1 0, .cells #[.bool bi6, .pointer pi6] 27), (φ1 1, .cells #[.bool bi14, .pointer pi14] 27)] [] (.tuple #[.agg #[.bool bi6, .pointer pi6], .agg #[.bool bi14, .pointer pi14], .int .i64 (((g (B.drop ((g B).d))).er : Nat) : Int)]) [.o 1, .o 1, .o 2, .o 2] [φ1 0, φ1 0, φ1 1, φ1 1] s trivial (by kernel_rfl) ?_
     replace s := s.drop (List.Sublist.append (List.Sublist.cons₂ _ (List.Sublist.cons _ (List.Sublist.cons _ List.Sublist.slnil))) (List.Sublist.refl []))
     have e9 : hvG g Ev.T.zero true true B = ⟨(g B).t, (g (B.drop ((g B).d))).t, (g (B.drop ((g B).d))).er, ((g B).d) + ((g (B.drop ((g B).d))).d), (g (B.drop ((g B).d))).e⟩ := by unfold hvG hR hL; simp [hc3, hc9, of_decide_eq_true hc11]
     exact ⟨_, _, _, rfl, s, (by rw [e9]; exact ⟨_, rfl, rfl, _, _, _, _, rfl, (by simp only [Nat.add_assoc, Nat.add_zero]), h6_0, h14_0⟩)⟩
   ·
    rw [hc11]
    refine cond_false_rule (b := false) (by kernel_rfl) rfl ?_
    refine wp_skip ?_
    refine wp_seq ?_
    refine draw_rule (C := []) ⟨(fun φ17 xs17 => [.look 0 [.o 1, .o 1] [φ1 0, φ1 0], .look 0 [.o 2, .o 2] [φ1 1, φ1 1], .look 0 [] [], .store 0 [.o 1, .o 1] [φ1 0, φ1 0], .store 1 [.o 2, .o 2] [φ1 1, φ1 1], .look 2 [] []]), (fun φ17 xs17 => [.agg #[.bool bi6, .pointer pi6], .agg #[.bool false, .pointer none], .int .i64 (((g B).er : Nat) : Int), undef, undef, .int .i64 (((g B).er : Nat) : Int)]), (fun φ17 xs17 => [[(r, .cells #[.slice a l.length c, .int .i64 ((p + ((g B).d) : Nat) : Int), .int .i64 (((g B).e : Nat) : Int)] 74), (φ1 0, .cells #[.bool bi6, .pointer pi6] 27), (φ1 1, .cells #[.bool false, .pointer none] 27)], [(r, .cells #[.slice a l.length c, .int .i64 ((p + ((g B).d) : Nat) : Int), .int .i64 (((g B).e : Nat) : Int)] 74), (φ1 0, .cells #[.bool bi6, .pointer pi6] 27), (φ1 1, .cells #[.bool false, .pointer none] 27)], [(r, .cells #[.slice a l.length c, .int .i64 ((p + ((g B).d) : Nat) : Int), .int .i64 (((g B).e : Nat) : Int)] 74), (φ1 0, .cells #[.bool bi6, .pointer pi6] 27), (φ1 1, .cells #[.bool false, .pointer none] 27)]]), (fun φ17 xs17 => [[default, default, default, default, default, default], [default, default, default, default, default, default], [default, default, default, default, default, default]]), [3, 4], [1, 1, 1, 4, 4, 1]⟩ (fun j => ([MP.any] : List MP).getD j MP.any) [] [] [] (fun φ17 xs17 => [[none, none, none, none, none, none], [none, none, none, none, none, none]]) (fun φ17 xs17 => [(29, .agg #[.bool bi6, .pointer pi6]), (30, .agg #[.bool false, .pointer none]), (31, .int .i64 (((g B).er : Nat) : Int)), (10, .int .i64 (((g B).er : Nat) : Int))]) (fun φ17 xs17 => [(r, .cells #[.slice a l.length c, .int .i64 ((p + ((g B).d) : Nat) : Int), .int .i64 (((g B).e : Nat) : Int)] 74), (φ1 0, .cells #[.bool bi6, .pointer pi6] 27), (φ1 1, .cells #[.bool false, .pointer none] 27)]) s trivial (by kernel_rfl) (by kernel_rfl) (fun _ _ => by kernel_rfl) (fun _ _ => by kernel_rfl) ⟨fun _ _ => by kernel_rfl, fun _ _ => by kernel_rfl, fun _ _ => by kernel_rfl, fun _ _ => by kernel_rfl⟩ (fun _ _ _ => by kernel_rfl) (fun _ _ => by kernel_rfl) (fun _ _ => by kernel_rfl) (fun _ _ => by kernel_rfl) (fun _ _ => by kernel_rfl) (fun _ _ => by kernel_rfl) trivial trivial (by kernel_rfl) trivial ?k17
    case k17 =>
     rintro φ17 xs17 I17 w17 le17 s 
     replace hl := BSl.mono le17 hl
     replace h6_0 := Ev.TRep.mono le17 h6_0
     refine wp_ret ?_
     refine ret_rule (C := []) [(r, .cells #[.slice a l.length c, .int .i64 ((p + ((g B).d) : Nat) : Int), .int .i64 (((g B).e : Nat) : Int)] 74), (φ1 0, .cells #[.bool bi6, .pointer pi6] 27), (φ1 1, .cells #[.bool false, .pointer none] 27)] [] (.tuple #[.agg #[.bool bi6, .pointer pi6], .agg #[.bool false, .pointer none], .int .i64 (((g B).er : Nat) : Int)]) [.o 1, .o 1, .o 2, .o 2] [φ1 0, φ1 0, φ1 1, φ1 1] s trivial (by kernel_rfl) ?_
     replace s := s.drop (List.Sublist.append (List.Sublist.cons₂ _ (List.Sublist.cons _ (List.Sublist.cons _ List.Sublist.slnil))) (List.Sublist.refl []))
     have e9 : hvG g Ev.T.zero true true B = ⟨(g B).t, Ev.T.zero, (g B).er, ((g B).d), (g B).e⟩ := by unfold hvG hR hL; simp [hc3, hc9, of_decide_eq_false hc11]
     exact ⟨_, _, _, rfl, s, (by rw [e9]; exact ⟨_, rfl, rfl, _, _, _, _, rfl, (by simp only [Nat.add_assoc, Nat.add_zero]), h6_0, (Ev.TRep.z _)⟩)⟩
  ·
   rw [hc9]
   refine oKD _ [] 3 [] 0 (fun φ18 => [(22, .bool false), (21, undef), (20, undef)]) (fun φ18 => []) s (fun φ18 => by kernel_rfl) (by kernel_rfl) ?_
   intro φ18 w18 s
   refine cond_false_rule (b := false) (by kernel_rfl) rfl ?_
   refine wp_skip ?_
   refine wp_seq ?_
   refine draw_rule (C := []) ⟨(fun φ19 xs19 => [.look 0 [.o 1, .o 1] [φ1 0, φ1 0], .look 0 [.o 2, .o 2] [φ1 1, φ1 1], .look 0 [] [], .store 0 [.o 1, .o 1] [φ1 0, φ1 0], .store 1 [.o 2, .o 2] [φ1 1, φ1 1], .look 2 [] []]), (fun φ19 xs19 => [.agg #[.bool bi6, .pointer pi6], .agg #[.bool false, .pointer none], .int .i64 (((g B).er : Nat) : Int), undef, undef, .int .i64 (((g B).er : Nat) : Int)]), (fun φ19 xs19 => [[(r, .cells #[.slice a l.length c, .int .i64 ((p + ((g B).d) : Nat) : Int), .int .i64 (((g B).e : Nat) : Int)] 74), (φ1 0, .cells #[.bool bi6, .pointer pi6] 27), (φ1 1, .cells #[.bool false, .pointer none] 27)], [(r, .cells #[.slice a l.length c, .int .i64 ((p + ((g B).d) : Nat) : Int), .int .i64 (((g B).e : Nat) : Int)] 74), (φ1 0, .cells #[.bool bi6, .pointer pi6] 27), (φ1 1, .cells #[.bool false, .pointer none] 27)], [(r, .cells #[.slice a l.length c, .int .i64 ((p + ((g B).d) : Nat) : Int), .int .i64 (((g B).e : Nat) : Int)] 74), (φ1 0, .cells #[.bool bi6, .pointer pi6] 27), (φ1 1, .cells #[.bool false, .pointer none] 27)]]), (fun φ19 xs19 => [[default, default, default, default, default, default], [default, default, default, default, default, default], [default, default, default, default, default, default]]), [3, 4], [1, 1, 1, 4, 4, 1]⟩ (fun j => ([MP.any] : List MP).getD j MP.any) [] [] [] (fun φ19 xs19 => [[none, none, none, none, none, none], [none, none, none, none, none, none]]) (fun φ19 xs19 => [(29, .agg #[.bool bi6, .pointer pi6]), (30, .agg #[.bool false, .pointer none]), (31, .int .i64 (((g B).er : Nat) : Int)), (10, .int .i64 (((g B).er : Nat) : Int))]) (fun φ19 xs19 => [(r, .cells #[.slice a l.length c, .int .i64 ((p + ((g B).d) : Nat) : Int), .int .i64 (((g B).e : Nat) : Int)] 74), (φ1 0, .cells #[.bool bi6, .pointer pi6] 27), (φ1 1, .cells #[.bool false, .pointer none] 27)]) s trivial (by kernel_rfl) (by kernel_rfl) (fun _ _ => by kernel_rfl) (fun _ _ => by kernel_rfl) ⟨fun _ _ => by kernel_rfl, fun _ _ => by kernel_rfl, fun _ _ => by kernel_rfl, fun _ _ => by kernel_rfl⟩ (fun _ _ _ => by kernel_rfl) (fun _ _ => by kernel_rfl) (fun _ _ => by kernel_rfl) (fun _ _ => by kernel_rfl) (fun _ _ => by kernel_rfl) (fun _ _ => by kernel_rfl) trivial trivial (by kernel_rfl) trivial ?k19
   case k19 =>
    rintro φ19 xs19 I19 w19 le19 s 
    replace hl := BSl.mono le19 hl
    replace h6_0 := Ev.TRep.mono le19 h6_0
    refine wp_ret ?_
    refine ret_rule (C := []) [(r, .cells #[.slice a l.length c, .int .i64 ((p + ((g B).d) : Nat) : Int), .int .i64 (((g B).e : Nat) : Int)] 74), (φ1 0, .cells #[.bool bi6, .pointer pi6] 27), (φ1 1, .cells #[.bool false, .pointer none] 27)] [] (.tuple #[.agg #[.bool bi6, .pointer pi6], .agg #[.bool false, .pointer none], .int .i64 (((g B).er : Nat) : Int)]) [.o 1, .o 1, .o 2, .o 2] [φ1 0, φ1 0, φ1 1, φ1 1] s trivial (by kernel_rfl) ?_
    replace s := s.drop (List.Sublist.append (List.Sublist.cons₂ _ (List.Sublist.cons _ (List.Sublist.cons _ List.Sublist.slnil))) (List.Sublist.refl []))
    have e9 : hvG g Ev.T.zero true false B = ⟨(g B).t, Ev.T.zero, (g B).er, ((g B).d), (g B).e⟩ := by unfold hvG hR hL; simp [hc3, hc9]
    exact ⟨_, _, _, rfl, s, (by rw [e9]; exact ⟨_, rfl, rfl, _, _, _, _, rfl, (by simp only [Nat.add_assoc, Nat.add_zero]), h6_0, (Ev.TRep.z _)⟩)⟩
 ·
  rw [hc3]
  refine cond_false_rule (b := false) (by kernel_rfl) rfl ?_
  refine wp_skip ?_
  refine wp_seq ?_
  refine seqR ?_
  refine oK _ [] 2 [] 0 (fun φ20 => [(19, .bool xb), (18, .bool xb)]) (fun φ20 => []) s (fun φ20 => by kernel_rfl) ?_
  intro φ20 w20 s
  rcases Bool.eq_false_or_eq_true (xb) with hc21 | hc21
  ·
   rw [hc21]
   refine oKD _ [] 3 [] 0 (fun φ22 => [(22, .bool true), (21, .bool true), (20, .int .i64 0)]) (fun φ22 => []) s (fun φ22 => by kernel_rfl) (by kernel_rfl) ?_
   intro φ22 w22 s
   refine cond_true_rule (b := true) (by kernel_rfl) rfl ?_
   refine region_rule ?_
   refine oK _ [] 2 [] 0 (fun φ23 => [(25, .int .i64 deep), (24, .func (.func 37) #[.agg #[pB r]] #[])]) (fun φ23 => []) s (fun φ23 => by kernel_rfl) ?_
   intro φ23 w23 s
   refine callB_rule (b := (r, .cells #[.slice a l.length c, .int .i64 p, .int .i64 e] 74)) (F := []) (Hr := [(φ1 0, .cells #[.bool false, .pointer none] 27), (φ1 1, .cells #[.bool false, .pointer none] 27)]) (some 26) 0 s (by kernel_rfl) (by kernel_rfl) (ih hl hp hB he) (by kernel_rfl) ?_
   rintro v25 I25 w25 b25 le25 - h25 s
   obtain ⟨bi25, pi25, rfl, rfl, h25_0⟩ := h25
   have hB24 := next_B (d := (g B).d) hB
   have hp24 := next_p (d := (g B).d) hp hB (hg.d _)
   refine oAD _ [] 5 [.o 2, .o 2] 0 (fun φ26 => [(10, .int .i64 (((g B).er : Nat) : Int)), (28, .int .i64 (((g B).er : Nat) : Int)), (27, .agg #[.bool bi25, .pointer pi25]), (23, .tuple #[.agg #[.bool bi25, .pointer pi25], .int .i64 (((g B).er : Nat) : Int)])]) (fun φ26 => [(r, .cells #[.slice a l.length c, .int .i64 ((p + ((g B).d) : Nat) : Int), .int .i64 (((g B).e : Nat) : Int)] 74), (φ1 0, .cells #[.bool false, .pointer none] 27), (φ1 1, .cells #[.bool bi25, .pointer pi25] 27)]) (fun φ26 => [φ1 1, φ1 1]) s (fun φ26 => by kernel_rfl) (by kernel_rfl) ?_
   intro φ26 w26 s
   refine wp_seq ?_
   refine draw_rule (C := []) ⟨(fun φ27 xs27 => [.look 0 [.o 1, .o 1] [φ1 0, φ1 0], .look 0 [.o 2, .o 2] [φ1 1, φ1 1], .look 0 [] [], .store 0 [.o 1, .o 1] [φ1 0, φ1 0], .store 1 [.o 2, .o 2] [φ1 1, φ1 1], .look 2 [] []]), (fun φ27 xs27 => [.agg #[.bool false, .pointer none], .agg #[.bool bi25, .pointer pi25], .int .i64 (((g B).er : Nat) : Int), undef, undef, .int .i64 (((g B).er : Nat) : Int)]), (fun φ27 xs27 => [[(r, .cells #[.slice a l.length c, .int .i64 ((p + ((g B).d) : Nat) : Int), .int .i64 (((g B).e : Nat) : Int)] 74), (φ1 0, .cells #[.bool false, .pointer none] 27), (φ1 1, .cells #[.bool bi25, .pointer pi25] 27)], [(r, .cells #[.slice a l.length c, .int .i64 ((p + ((g B).d) : Nat) : Int), .int .i64 (((g B).e : Nat) : Int)] 74), (φ1 0, .cells #[.bool false, .pointer none] 27), (φ1 1, .cells #[.bool bi25, .pointer pi25] 27)], [(r, .cells #[.slice a l.length c, .int .i64 ((p + ((g B).d) : Nat) : Int), .int .i64 (((g B).e : Nat) : Int)] 74), (φ1 0, .cells #[.bool false, .pointer none] 27), (φ1 1, .cells #[.bool bi25, .pointer pi25] 27)]]), (fun φ27 xs27 => [[default, default, default, default, default, default], [default, default, default, default, default, default], [default, default, default, default, default, default]]), [3, 4], [1, 1, 1, 4, 4, 1]⟩ (fun j => ([MP.any] : List MP).getD j MP.any) [] [] [] (fun φ27 xs27 => [[none, none, none, none, none, none], [none, none, none, none, none, none]]) (fun φ27 xs27 => [(29, .agg #[.bool false, .pointer none]), (30, .agg #[.bool bi25, .pointer pi25]), (31, .int .i64 (((g B).er : Nat) : Int)), (10, .int .i64 (((g B).er : Nat) : Int))]) (fun φ27 xs27 => [(r, .cells #[.slice a l.length c, .int .i64 ((p + ((g B).d) : Nat) : Int), .int .i64 (((g B).e : Nat) : Int)] 74), (φ1 0, .cells #[.bool false, .pointer none] 27), (φ1 1, .cells #[.bool bi25, .pointer pi25] 27)]) s trivial (by kernel_rfl) (by kernel_rfl) (fun _ _ => by kernel_rfl) (fun _ _ => by kernel_rfl) ⟨fun _ _ => by kernel_rfl, fun _ _ => by kernel_rfl, fun _ _ => by kernel_rfl, fun _ _ => by kernel_rfl⟩ (fun _ _ _ => by kernel_rfl) (fun _ _ => by kernel_rfl) (fun _ _ => by kernel_rfl) (fun _ _ => by kernel_rfl) (fun _ _ => by kernel_rfl) (fun _ _ => by kernel_rfl) trivial trivial (by kernel_rfl) trivial ?k27
   case k27 =>
    rintro φ27 xs27 I27 w27 le27 s 
    replace h25_0 := Ev.TRep.mono le27 h25_0
    refine wp_ret ?_
    refine ret_rule (C := []) [(r, .cells #[.slice a l.length c, .int .i64 ((p + ((g B).d) : Nat) : Int), .int .i64 (((g B).e : Nat) : Int)] 74), (φ1 0, .cells #[.bool false, .pointer none] 27), (φ1 1, .cells #[.bool bi25, .pointer pi25] 27)] [] (.tuple #[.agg #[.bool false, .pointer none], .agg #[.bool bi25, .pointer pi25], .int .i64 (((g B).er : Nat) : Int)]) [.o 1, .o 1, .o 2, .o 2] [φ1 0, φ1 0, φ1 1, φ1 1] s trivial (by kernel_rfl) ?_
    replace s := s.drop (List.Sublist.append (List.Sublist.cons₂ _ (List.Sublist.cons _ (List.Sublist.cons _ List.Sublist.slnil))) (List.Sublist.refl []))
    have e9 : hvG g Ev.T.zero false true B = ⟨Ev.T.zero, (g B).t, (g B).er, ((g B).d), (g B).e⟩ := by unfold hvG hR hL; simp [hc3, hc21]
    exact ⟨_, _, _, rfl, s, (by rw [e9]; exact ⟨_, rfl, rfl, _, _, _, _, rfl, (by simp only [Nat.add_assoc, Nat.add_zero]), (Ev.TRep.z _), h25_0⟩)⟩
  ·
   rw [hc21]
   refine oKD _ [] 3 [] 0 (fun φ28 => [(22, .bool false), (21, undef), (20, undef)]) (fun φ28 => []) s (fun φ28 => by kernel_rfl) (by kernel_rfl) ?_
   intro φ28 w28 s
   refine cond_false_rule (b := false) (by kernel_rfl) rfl ?_
   refine wp_skip ?_
   refine wp_seq ?_
   refine draw_rule (C := []) ⟨(fun φ29 xs29 => [.look 0 [.o 1, .o 1] [φ1 0, φ1 0], .look 0 [.o 2, .o 2] [φ1 1, φ1 1], .look 0 [] [], .store 0 [.o 1, .o 1] [φ1 0, φ1 0], .store 1 [.o 2, .o 2] [φ1 1, φ1 1], .look 2 [] []]), (fun φ29 xs29 => [.agg #[.bool false, .pointer none], .agg #[.bool false, .pointer none], .int .i64 0, undef, undef, .int .i64 0]), (fun φ29 xs29 => [[(r, .cells #[.slice a l.length c, .int .i64 p, .int .i64 e] 74), (φ1 0, .cells #[.bool false, .pointer none] 27), (φ1 1, .cells #[.bool false, .pointer none] 27)], [(r, .cells #[.slice a l.length c, .int .i64 p, .int .i64 e] 74), (φ1 0, .cells #[.bool false, .pointer none] 27), (φ1 1, .cells #[.bool false, .pointer none] 27)], [(r, .cells #[.slice a l.length c, .int .i64 p, .int .i64 e] 74), (φ1 0, .cells #[.bool false, .pointer none] 27), (φ1 1, .cells #[.bool false, .pointer none] 27)]]), (fun φ29 xs29 => [[default, default, default, default, default, default], [default, default, default, default, default, default], [default, default, default, default, default, default]]), [3, 4], [1, 1, 1, 4, 4, 1]⟩ (fun j => ([MP.any] : List MP).getD j MP.any) [] [] [] (fun φ29 xs29 => [[none, none, none, none, none, none], [none, none, none, none, none, none]]) (fun φ29 xs29 => [(29, .agg #[.bool false, .pointer none]), (30, .agg #[.bool false, .pointer none]), (31, .int .i64 0), (10, .int .i64 0)]) (fun φ29 xs29 => [(r, .cells #[.slice a l.length c, .int .i64 p, .int .i64 e] 74), (φ1 0, .cells #[.bool false, .pointer none] 27), (φ1 1, .cells #[.bool false, .pointer none] 27)]) s trivial (by kernel_rfl) (by kernel_rfl) (fun _ _ => by kernel_rfl) (fun _ _ => by kernel_rfl) ⟨fun _ _ => by kernel_rfl, fun _ _ => by kernel_rfl, fun _ _ => by kernel_rfl, fun _ _ => by kernel_rfl⟩ (fun _ _ _ => by kernel_rfl) (fun _ _ => by kernel_rfl) (fun _ _ => by kernel_rfl) (fun _ _ => by kernel_rfl) (fun _ _ => by kernel_rfl) (fun _ _ => by kernel_rfl) trivial trivial (by kernel_rfl) trivial ?k29
   case k29 =>
    rintro φ29 xs29 I29 w29 le29 s 
    refine wp_ret ?_
    refine ret_rule (C := []) [(r, .cells #[.slice a l.length c, .int .i64 p, .int .i64 e] 74), (φ1 0, .cells #[.bool false, .pointer none] 27), (φ1 1, .cells #[.bool false, .pointer none] 27)] [] (.tuple #[.agg #[.bool false, .pointer none], .agg #[.bool false, .pointer none], .int .i64 0]) [.o 1, .o 1, .o 2, .o 2] [φ1 0, φ1 0, φ1 1, φ1 1] s trivial (by kernel_rfl) ?_
    replace s := s.drop (List.Sublist.append (List.Sublist.cons₂ _ (List.Sublist.cons _ (List.Sublist.cons _ List.Sublist.slnil))) (List.Sublist.refl []))
    have e9 : hvG g Ev.T.zero false false B = ⟨Ev.T.zero, Ev.T.zero, 0, 0, e⟩ := by unfold hvG hR hL; simp [hc3, hc21, he]
    exact ⟨_, _, _, rfl, s, (by rw [e9]; exact ⟨_, rfl, rfl, _, _, _, _, rfl, (by simp only [Nat.add_assoc, Nat.add_zero]), (Ev.TRep.z _), (Ev.TRep.z _)⟩)⟩

end Go.Proofs.YtgmigcmhnmmdkaaDoor

/- Ids are read. -/
set_option linter.all false
set_option maxRecDepth 100000
namespace Go.Proofs.YtgmigcmhnmmdkaaDoor
open Go.RowKit Go.Sep
attribute [local irreducible] Go.wpList Go.Code.wp

set_option maxHeartbeats 4000000 in
theorem id_step {I : IM} {l : List UInt8} {a : Option Addr} {c : Nat} {r p e : Nat} {B : List Bool} (hl : BSl I l (.slice a l.length c)) (hn9 : l.length ≤ 1000000) (hp : p ≤ l.length * 8) (hB : (bitsL l).drop p = B) (he : e = 0) {g : List Bool → Rd Ev.T} (hg : OkT g) {deep : Nat} (hdp : deep ≤ 16) {last : Bool} (hlast : last = decide (deep = 16)) (ih : deep ≠ 16 → ∀ {J : IM} {p e : Nat} {B : List Bool}, BSl J l (.slice a l.length c) → p ≤ l.length * 8 → (bitsL l).drop p = B → e = 0 → FunM Tryd.prog 37 #[.agg #[.pointer (some ⟨r, 0, none⟩)], .int .i64 ((deep + 1 : Nat) : Int)] J [(r, .cells #[.slice a l.length c, .int .i64 ((p : Nat) : Int), .int .i64 ((e : Nat) : Int)] 74)] (fun v J H' => ∃ b' : OB, H' = [b'] ∧ b'.1 = r ∧ ∃ bi pi, v = .tuple #[.agg #[.bool bi, .pointer pi], .int .i64 (((g B).er : Nat) : Int)] ∧ b' = (r, .cells #[.slice a l.length c, .int .i64 ((p + (g B).d : Nat) : Int), .int .i64 (((g B).e : Nat) : Int)] 74) ∧ Ev.TRep J (g B).t bi pi)) : FunM Tryd.prog 37 #[.agg #[.pointer (some ⟨r, 0, none⟩)], .int .i64 ((deep : Nat) : Int)] I [(r, .cells #[.slice a l.length c, .int .i64 ((p : Nat) : Int), .int .i64 ((e : Nat) : Int)] 74)] (fun v J H' => ∃ b' : OB, H' = [b'] ∧ b'.1 = r ∧ ∃ bi pi, v = .tuple #[.agg #[.bool bi, .pointer pi], .int .i64 (((idN g last B).er : Nat) : Int)] ∧ b' = (r, .cells #[.slice a l.length c, .int .i64 ((p + (idN g last B).d : Nat) : Int), .int .i64 (((idN g last B).e : Nat) : Int)] 74) ∧ Ev.TRep J (idN g last B).t bi pi) := by
 refine enterM_rule 59 [(0, .agg #[pB r]), (1, .int .i64 deep)] Tryd.func37 rfl (by kernel_rfl) ?_
 intro w s
 refine seqR ?_
 refine oAD [(r, .cells #[.slice a l.length c, .int .i64 p, .int .i64 e] 74)] [] 3 [] 2 (fun φ1 => [(5, .int .i64 0), (4, pB (φ1 1)), (2, pB (φ1 0))]) (fun φ1 => [(r, .cells #[.slice a l.length c, .int .i64 p, .int .i64 e] 74), (φ1 0, .cells #[pB r] 71), (φ1 1, .cells #[.bool false, .pointer none] 27)]) (fun φ1 => []) s (fun φ1 => by kernel_rfl) (by kernel_rfl) ?_
 intro φ1 w1 s
 refine seqR ?_
 refine oK _ [] 2 [.o 1] 0 (fun φ2 => [(12, pB r), (11, pB (φ1 0))]) (fun φ2 => [(φ1 0)]) s (fun φ2 => by kernel_rfl) ?_
 intro φ2 w2 s
 refine callB_rule (b := (r, .cells #[.slice a l.length c, .int .i64 p, .int .i64 e] 74)) (F := []) (Hr := [(φ1 0, .cells #[pB r] 71), (φ1 1, .cells #[.bool false, .pointer none] 27)]) (some 13) 0 s (by kernel_rfl) (by kernel_rfl) (getK_c (k := 2) (r := r) (p := p) (B := B) hl hn9 hp hB he (by decide)) (by kernel_rfl) ?_
 rintro v4 I4 w4 b4 le4 - h4 s
 replace hl := BSl.mono le4 hl
 obtain ⟨rfl, rfl⟩ := h4
 have hB3 := next_B (d := gD 0 B 2) hB
 have hp3 := next_p (d := gD 0 B 2) hp hB (gD_le _ _ _)
 refine oKD _ [] 1 [] 0 (fun φ5 => [(6, .int .u64 (gV 0 B 2))]) (fun φ5 => []) s (fun φ5 => by kernel_rfl) (by kernel_rfl) ?_
 intro φ5 w5 s
 refine wp_seq ?_
 refine wp_block ?_
 refine seqR ?_
 refine oK _ [] 1 [.o 1] 0 (fun φ6 => [(15, .agg #[pB r])]) (fun φ6 => [(φ1 0)]) s (fun φ6 => by kernel_rfl) ?_
 intro φ6 w6 s
 refine callB_rule (b := (r, .cells #[.slice a l.length c, .int .i64 ((p + (gD 0 B 2) : Nat) : Int), .int .i64 (gE 0 B 2)] 74)) (F := []) (Hr := [(φ1 0, .cells #[pB r] 71), (φ1 1, .cells #[.bool false, .pointer none] 27)]) (some 16) 0 s (by kernel_rfl) (by kernel_rfl) (failed_c (r := r) (v0 := .slice a l.length c) (v1 := .int .i64 ((p + (gD 0 B 2) : Nat) : Int)) (e := gE 0 B 2)) (by kernel_rfl) ?_
 rintro v7 I7 w7 b7 le7 - h7 s
 replace hl := BSl.mono le7 hl
 obtain ⟨rfl, rfl⟩ := h7
 refine oKD _ [] 1 [] 0 (fun φ8 => [(14, .bool (decide (gE 0 B 2 ≠ 0)))]) (fun φ8 => []) s (fun φ8 => by kernel_rfl) (by kernel_rfl) ?_
 intro φ8 w8 s
 rcases Bool.eq_false_or_eq_true (decide (gE 0 B 2 ≠ 0)) with hc9 | hc9
 ·
  rw [hc9]
  refine cond_true_rule (b := true) (by kernel_rfl) rfl ?_
  refine seqR ?_
  refine call_rule (some 17) s (Ev.tzero_c) (by kernel_rfl) ?_
  intro v10 I10 w10 le10 h10 s
  replace hl := BSl.mono le10 hl
  obtain rfl := h10
  refine oKD _ [] 2 [.o 2, .o 2] 0 (fun φ11 => [(5, .int .i64 6)]) (fun φ11 => [φ1 1, φ1 1]) s (fun φ11 => by kernel_rfl) (by kernel_rfl) ?_
  intro φ11 w11 s
  refine wp_ret ?_
  refine ret_rule (C := []) _ [] (.tuple #[.agg #[.bool false, .pointer none], .int .i64 6]) [.o 2, .o 2] [φ1 1, φ1 1] s trivial (by kernel_rfl) ?_
  replace s := s.drop (List.Sublist.append (List.Sublist.cons₂ _ (List.Sublist.cons _ (List.Sublist.cons _ List.Sublist.slnil))) (List.Sublist.refl []))
  have e9 : idN g last B = ⟨Ev.T.zero, 6, (gD 0 B 2), gE 0 B 2⟩ := by unfold idN; rw [if_pos (of_decide_eq_true hc9)]
  exact ⟨_, _, _, rfl, s, (by rw [e9]; exact ⟨_, rfl, rfl, _, _, rfl, (by simp only [Nat.add_assoc, Nat.add_zero]), (Ev.TRep.z _)⟩)⟩
 ·
  rw [hc9]
  refine cond_false_rule (b := false) (by kernel_rfl) rfl ?_
  refine seqR ?_
  refine oK _ [] 3 [] 0 (fun φ12 => [(18, .bool (((gV 0 B 2 : Nat) : Int) == ((0 : Nat) : Int))), (20, .bool (((gV 0 B 2 : Nat) : Int) == ((0 : Nat) : Int))), (19, .int .u64 (gV 0 B 2))]) (fun φ12 => []) s (fun φ12 => by kernel_rfl) ?_
  intro φ12 w12 s
  rw [nat_eql (a := (gV 0 B 2)) (b := 0)]
  refine ops_done (by kernel_rfl) ?_
  rcases Bool.eq_false_or_eq_true (decide ((gV 0 B 2) = 0)) with hc13 | hc13
  ·
   rw [hc13]
   refine cond_true_rule (b := true) (by kernel_rfl) rfl ?_
   refine seqR ?_
   refine oK _ [] 1 [.o 1] 0 (fun φ14 => [(21, .agg #[pB r])]) (fun φ14 => [(φ1 0)]) s (fun φ14 => by kernel_rfl) ?_
   intro φ14 w14 s
   refine callB_rule (b := (r, .cells #[.slice a l.length c, .int .i64 ((p + (gD 0 B 2) : Nat) : Int), .int .i64 (gE 0 B 2)] 74)) (F := []) (Hr := [(φ1 0, .cells #[pB r] 71), (φ1 1, .cells #[.bool false, .pointer none] 27)]) (some 22) 0 s (by kernel_rfl) (by kernel_rfl) (leafID_c (r := r) (p := p + (gD 0 B 2)) (B := (B.drop (gD 0 B 2))) hl hn9 hp3 hB3 (Decidable.not_not.1 (of_decide_eq_false hc9))) (by kernel_rfl) ?_
   rintro v16 I16 w16 b16 le16 - h16 s
   replace hl := BSl.mono le16 hl
   obtain ⟨bi16, pi16, rfl, rfl, h16_0⟩ := h16
   have hB15 := next_B (d := (lfG (B.drop (gD 0 B 2))).d) hB3
   have hp15 := next_p (d := (lfG (B.drop (gD 0 B 2))).d) hp3 hB3 (lfG_ok.d _)
   refine oAD _ [] 4 [.o 2, .o 2] 0 (fun φ17 => [(5, .int .i64 (((lfG (B.drop (gD 0 B 2))).er : Nat) : Int)), (24, .int .i64 (((lfG (B.drop (gD 0 B 2))).er : Nat) : Int)), (23, .agg #[.bool bi16, .pointer pi16])]) (fun φ17 => [(r, .cells #[.slice a l.length c, .int .i64 ((p + (gD 0 B 2) + ((lfG (B.drop (gD 0 B 2))).d) : Nat) : Int), .int .i64 (((lfG (B.drop (gD 0 B 2))).e : Nat) : Int)] 74), (φ1 0, .cells #[pB r] 71), (φ1 1, .cells #[.bool bi16, .pointer pi16] 27)]) (fun φ17 => [φ1 1, φ1 1]) s (fun φ17 => by kernel_rfl) (by kernel_rfl) ?_
   intro φ17 w17 s
   refine wp_ret ?_
   refine ret_rule (C := []) _ [] (.tuple #[.agg #[.bool bi16, .pointer pi16], .int .i64 (((lfG (B.drop (gD 0 B 2))).er : Nat) : Int)]) [.o 2, .o 2] [φ1 1, φ1 1] s trivial (by kernel_rfl) ?_
   replace s := s.drop (List.Sublist.append (List.Sublist.cons₂ _ (List.Sublist.cons _ (List.Sublist.cons _ List.Sublist.slnil))) (List.Sublist.refl []))
   have e9 : idN g last B = ⟨(lfG (B.drop (gD 0 B 2))).t, (lfG (B.drop (gD 0 B 2))).er, (gD 0 B 2) + ((lfG (B.drop (gD 0 B 2))).d), (lfG (B.drop (gD 0 B 2))).e⟩ := by unfold idN; rw [if_neg (of_decide_eq_false hc9), if_pos (of_decide_eq_true hc13)]
   exact ⟨_, _, _, rfl, s, (by rw [e9]; exact ⟨_, rfl, rfl, _, _, rfl, (by simp only [Nat.add_assoc, Nat.add_zero]), h16_0⟩)⟩
  ·
   rw [hc13]
   refine cond_false_rule (b := false) (by kernel_rfl) rfl ?_
   refine seqR ?_
   refine oK _ [] 3 [] 0 (fun φ18 => [(25, .bool (((deep : Nat) : Int) == ((16 : Nat) : Int))), (27, .bool (((deep : Nat) : Int) == ((16 : Nat) : Int))), (26, .int .i64 deep)]) (fun φ18 => []) s (fun φ18 => by kernel_rfl) ?_
   intro φ18 w18 s
   rw [nat_eql (a := deep) (b := 16)]
   refine ops_done (by kernel_rfl) ?_
   rcases Bool.eq_false_or_eq_true (decide (deep = 16)) with hc19 | hc19
   ·
    rw [hc19]
    refine cond_true_rule (b := true) (by kernel_rfl) rfl ?_
    refine seqR ?_
    refine call_rule (some 28) s (Ev.tzero_c) (by kernel_rfl) ?_
    intro v20 I20 w20 le20 h20 s
    replace hl := BSl.mono le20 hl
    obtain rfl := h20
    refine oKD _ [] 2 [.o 2, .o 2] 0 (fun φ21 => [(5, .int .i64 3)]) (fun φ21 => [φ1 1, φ1 1]) s (fun φ21 => by kernel_rfl) (by kernel_rfl) ?_
    intro φ21 w21 s
    refine wp_ret ?_
    refine ret_rule (C := []) _ [] (.tuple #[.agg #[.bool false, .pointer none], .int .i64 3]) [.o 2, .o 2] [φ1 1, φ1 1] s trivial (by kernel_rfl) ?_
    replace s := s.drop (List.Sublist.append (List.Sublist.cons₂ _ (List.Sublist.cons _ (List.Sublist.cons _ List.Sublist.slnil))) (List.Sublist.refl []))
    have e9 : idN g last B = ⟨Ev.T.zero, 3, (gD 0 B 2), gE 0 B 2⟩ := by unfold idN; rw [if_neg (of_decide_eq_false hc9), if_neg (of_decide_eq_false hc13), if_pos (show last = true by rw [hlast, hc19])]
    exact ⟨_, _, _, rfl, s, (by rw [e9]; exact ⟨_, rfl, rfl, _, _, rfl, (by simp only [Nat.add_assoc, Nat.add_zero]), (Ev.TRep.z _)⟩)⟩
   ·
    rw [hc19]
    refine cond_false_rule (b := false) (by kernel_rfl) rfl ?_
    refine wp_skip ?_
    refine seqR ?_
    refine oK _ [] 8 [.o 1] 0 (fun φ22 => [(37, .func (.func 37) #[.agg #[pB r]] #[]), (36, .agg #[pB r]), (35, .int .i64 (IntKind.wrap .i64 (((deep : Nat) : Int) + ((1 : Nat) : Int)))), (34, .int .i64 deep), (33, .bool (((gV 0 B 2 : Nat) : Int) != ((2 : Nat) : Int))), (32, .int .u64 (gV 0 B 2)), (31, .bool (((gV 0 B 2 : Nat) : Int) != ((1 : Nat) : Int))), (30, .int .u64 (gV 0 B 2))]) (fun φ22 => [(φ1 0)]) s (fun φ22 => by kernel_rfl) ?_
    intro φ22 w22 s
    rw [nat_neq (a := (gV 0 B 2)) (b := 1)]
    rw [nat_neq (a := (gV 0 B 2)) (b := 2)]
    rw [nat_addI (a := deep) (b := 1) (by  have hq0 := of_decide_eq_false hc9; have hq1 := of_decide_eq_false hc13; have hq2 := of_decide_eq_false hc19; omega)]
    refine callB_rule (b := (r, .cells #[.slice a l.length c, .int .i64 ((p + (gD 0 B 2) : Nat) : Int), .int .i64 (gE 0 B 2)] 74)) (F := []) (Hr := [(φ1 0, .cells #[pB r] 71), (φ1 1, .cells #[.bool false, .pointer none] 27)]) (some 38) 0 s (by kernel_rfl) (by kernel_rfl) (halvesT_c (r := r) (p := p + (gD 0 B 2)) (B := (B.drop (gD 0 B 2))) hl hn9 hp3 hB3 (Decidable.not_not.1 (of_decide_eq_false hc9)) hg (deep := deep + 1) (ih (of_decide_eq_false hc19)) (xa := decide ((gV 0 B 2) ≠ 1)) (xb := decide ((gV 0 B 2) ≠ 2))) (by kernel_rfl) ?_
    rintro v24 I24 w24 b24 le24 - h24 s
    obtain ⟨b124, p124, b224, p224, rfl, rfl, h24_0, h24_1⟩ := h24
    have hB23 := next_B (d := (hvG g Ev.T.zero (decide ((gV 0 B 2) ≠ 1)) (decide ((gV 0 B 2) ≠ 2)) (B.drop (gD 0 B 2))).d) hB3
    have hp23 := next_p (d := (hvG g Ev.T.zero (decide ((gV 0 B 2) ≠ 1)) (decide ((gV 0 B 2) ≠ 2)) (B.drop (gD 0 B 2))).d) hp3 hB3 (hv_d hg zT)
    refine oAD _ [] 9 [.o 3, .o 3, .o 4, .o 4] 2 (fun φ25 => [(9, .int .i64 (((hvG g Ev.T.zero (decide ((gV 0 B 2) ≠ 1)) (decide ((gV 0 B 2) ≠ 2)) (B.drop (gD 0 B 2))).er : Nat) : Int)), (8, pB (φ25 1)), (7, pB (φ25 0)), (41, .int .i64 (((hvG g Ev.T.zero (decide ((gV 0 B 2) ≠ 1)) (decide ((gV 0 B 2) ≠ 2)) (B.drop (gD 0 B 2))).er : Nat) : Int)), (40, .agg #[.bool b224, .pointer p224]), (39, .agg #[.bool b124, .pointer p124]), (29, .tuple #[.agg #[.bool b124, .pointer p124], .agg #[.bool b224, .pointer p224], .int .i64 (((hvG g Ev.T.zero (decide ((gV 0 B 2) ≠ 1)) (decide ((gV 0 B 2) ≠ 2)) (B.drop (gD 0 B 2))).er : Nat) : Int)])]) (fun φ25 => [(r, .cells #[.slice a l.length c, .int .i64 ((p + (gD 0 B 2) + ((hvG g Ev.T.zero (decide ((gV 0 B 2) ≠ 1)) (decide ((gV 0 B 2) ≠ 2)) (B.drop (gD 0 B 2))).d) : Nat) : Int), .int .i64 (((hvG g Ev.T.zero (decide ((gV 0 B 2) ≠ 1)) (decide ((gV 0 B 2) ≠ 2)) (B.drop (gD 0 B 2))).e : Nat) : Int)] 74), (φ1 0, .cells #[pB r] 71), (φ1 1, .cells #[.bool false, .pointer none] 27), (φ25 0, .cells #[.bool b124, .pointer p124] 27), (φ25 1, .cells #[.bool b224, .pointer p224] 27)]) (fun φ25 => [φ25 0, φ25 0, φ25 1, φ25 1]) s (fun φ25 => by kernel_rfl) (by kernel_rfl) ?_
    intro φ25 w25 s
    refine wp_seq ?_
    refine seqR ?_
    refine oK _ [] 2 [] 0 (fun φ26 => [(43, .bool ((((hvG g Ev.T.zero (decide ((gV 0 B 2) ≠ 1)) (decide ((gV 0 B 2) ≠ 2)) (B.drop (gD 0 B 2))).er : Nat) : Int) != ((0 : Nat) : Int))), (42, .int .i64 (((hvG g Ev.T.zero (decide ((gV 0 B 2) ≠ 1)) (decide ((gV 0 B 2) ≠ 2)) (B.drop (gD 0 B 2))).er : Nat) : Int))]) (fun φ26 => []) s (fun φ26 => by kernel_rfl) ?_
    intro φ26 w26 s
    rw [nat_neq (a := ((hvG g Ev.T.zero (decide ((gV 0 B 2) ≠ 1)) (decide ((gV 0 B 2) ≠ 2)) (B.drop (gD 0 B 2))).er)) (b := 0)]
    refine ops_done (by kernel_rfl) ?_
    rcases Bool.eq_false_or_eq_true (decide (((hvG g Ev.T.zero (decide ((gV 0 B 2) ≠ 1)) (decide ((gV 0 B 2) ≠ 2)) (B.drop (gD 0 B 2))).er) ≠ 0)) with hc27 | hc27
    ·
     rw [hc27]
     refine cond_true_rule (b := true) (by kernel_rfl) rfl ?_
     refine seqR ?_
     refine call_rule (some 44) s (Ev.tzero_c) (by kernel_rfl) ?_
     intro v28 I28 w28 le28 h28 s
     replace h24_0 := Ev.TRep.mono le28 h24_0
     replace h24_1 := Ev.TRep.mono le28 h24_1
     obtain rfl := h28
     refine oKD _ [] 3 [.o 2, .o 2] 0 (fun φ29 => [(5, .int .i64 (((hvG g Ev.T.zero (decide ((gV 0 B 2) ≠ 1)) (decide ((gV 0 B 2) ≠ 2)) (B.drop (gD 0 B 2))).er : Nat) : Int)), (45, .int .i64 (((hvG g Ev.T.zero (decide ((gV 0 B 2) ≠ 1)) (decide ((gV 0 B 2) ≠ 2)) (B.drop (gD 0 B 2))).er : Nat) : Int))]) (fun φ29 => [φ1 1, φ1 1]) s (fun φ29 => by kernel_rfl) (by kernel_rfl) ?_
     intro φ29 w29 s
     refine wp_ret ?_
     refine ret_rule (C := []) _ [] (.tuple #[.agg #[.bool false, .pointer none], .int .i64 (((hvG g Ev.T.zero (decide ((gV 0 B 2) ≠ 1)) (decide ((gV 0 B 2) ≠ 2)) (B.drop (gD 0 B 2))).er : Nat) : Int)]) [.o 2, .o 2] [φ1 1, φ1 1] s trivial (by kernel_rfl) ?_
     replace s := s.drop (List.Sublist.append (List.Sublist.cons₂ _ (List.Sublist.cons _ (List.Sublist.cons _ (List.Sublist.cons _ (List.Sublist.cons _ List.Sublist.slnil))))) (List.Sublist.refl []))
     have e9 : idN g last B = ⟨Ev.T.zero, (hvG g Ev.T.zero (decide ((gV 0 B 2) ≠ 1)) (decide ((gV 0 B 2) ≠ 2)) (B.drop (gD 0 B 2))).er, (gD 0 B 2) + ((hvG g Ev.T.zero (decide ((gV 0 B 2) ≠ 1)) (decide ((gV 0 B 2) ≠ 2)) (B.drop (gD 0 B 2))).d), (hvG g Ev.T.zero (decide ((gV 0 B 2) ≠ 1)) (decide ((gV 0 B 2) ≠ 2)) (B.drop (gD 0 B 2))).e⟩ := by unfold idN; rw [if_neg (of_decide_eq_false hc9), if_neg (of_decide_eq_false hc13), if_neg (show ¬ last = true by rw [hlast, hc19]; decide), if_pos (of_decide_eq_true hc27)]
     exact ⟨_, _, _, rfl, s, (by rw [e9]; exact ⟨_, rfl, rfl, _, _, rfl, (by simp only [Nat.add_assoc, Nat.add_zero]), (Ev.TRep.z _)⟩)⟩
    ·
     rw [hc27]
     refine cond_false_rule (b := false) (by kernel_rfl) rfl ?_
     refine wp_skip ?_
     refine seqR ?_
     refine oK _ [] 2 [.o 3, .o 3, .o 4, .o 4] 0 (fun φ30 => [(48, .agg #[.bool b224, .pointer p224]), (47, .agg #[.bool b124, .pointer p124])]) (fun φ30 => [φ25 0, φ25 0, φ25 1, φ25 1]) s (fun φ30 => by kernel_rfl) ?_
     intro φ30 w30 s
     refine call_rule (some 49) s (Ev.pair_c h24_0 h24_1 (Nat.le_trans (hv_s hg zT).1.1 (by decide)) (Nat.le_trans (hv_s hg zT).2.1 (by decide))) (by kernel_rfl) ?_
     intro v31 I31 w31 le31 h31 s
     obtain ⟨b31, p31, rfl, h31_0⟩ := h31
     refine oAD _ [] 6 [.o 5, .o 5] 1 (fun φ32 => [(9, .int .i64 (((Ev.pairT ((hvG g Ev.T.zero (decide ((gV 0 B 2) ≠ 1)) (decide ((gV 0 B 2) ≠ 2)) (B.drop (gD 0 B 2))).l) ((hvG g Ev.T.zero (decide ((gV 0 B 2) ≠ 1)) (decide ((gV 0 B 2) ≠ 2)) (B.drop (gD 0 B 2))).r)).2 : Nat) : Int)), (10, pB (φ32 0)), (51, .int .i64 (((Ev.pairT ((hvG g Ev.T.zero (decide ((gV 0 B 2) ≠ 1)) (decide ((gV 0 B 2) ≠ 2)) (B.drop (gD 0 B 2))).l) ((hvG g Ev.T.zero (decide ((gV 0 B 2) ≠ 1)) (decide ((gV 0 B 2) ≠ 2)) (B.drop (gD 0 B 2))).r)).2 : Nat) : Int)), (50, .agg #[.bool b31, .pointer p31]), (46, .tuple #[.agg #[.bool b31, .pointer p31], .int .i64 (((Ev.pairT ((hvG g Ev.T.zero (decide ((gV 0 B 2) ≠ 1)) (decide ((gV 0 B 2) ≠ 2)) (B.drop (gD 0 B 2))).l) ((hvG g Ev.T.zero (decide ((gV 0 B 2) ≠ 1)) (decide ((gV 0 B 2) ≠ 2)) (B.drop (gD 0 B 2))).r)).2 : Nat) : Int)])]) (fun φ32 => [(r, .cells #[.slice a l.length c, .int .i64 ((p + (gD 0 B 2) + ((hvG g Ev.T.zero (decide ((gV 0 B 2) ≠ 1)) (decide ((gV 0 B 2) ≠ 2)) (B.drop (gD 0 B 2))).d) : Nat) : Int), .int .i64 (((hvG g Ev.T.zero (decide ((gV 0 B 2) ≠ 1)) (decide ((gV 0 B 2) ≠ 2)) (B.drop (gD 0 B 2))).e : Nat) : Int)] 74), (φ1 0, .cells #[pB r] 71), (φ1 1, .cells #[.bool false, .pointer none] 27), (φ25 0, .cells #[.bool b124, .pointer p124] 27), (φ25 1, .cells #[.bool b224, .pointer p224] 27), (φ32 0, .cells #[.bool b31, .pointer p31] 27)]) (fun φ32 => [φ32 0, φ32 0]) s (fun φ32 => by kernel_rfl) (by kernel_rfl) ?_
     intro φ32 w32 s
     refine wp_seq ?_
     refine seqR ?_
     refine oK _ [] 1 [.o 5, .o 5] 0 (fun φ33 => [(52, .agg #[.bool b31, .pointer p31])]) (fun φ33 => [φ32 0, φ32 0]) s (fun φ33 => by kernel_rfl) ?_
     intro φ33 w33 s
     refine call_rule (some 53) s (idKind_c h31_0) (by kernel_rfl) ?_
     intro v34 I34 w34 le34 h34 s
     replace h31_0 := Ev.TRep.mono le34 h31_0
     obtain rfl := h34
     refine oK _ [] 2 [] 0 (fun φ35 => [(55, .bool (((idK ((Ev.pairT ((hvG g Ev.T.zero (decide ((gV 0 B 2) ≠ 1)) (decide ((gV 0 B 2) ≠ 2)) (B.drop (gD 0 B 2))).l) ((hvG g Ev.T.zero (decide ((gV 0 B 2) ≠ 1)) (decide ((gV 0 B 2) ≠ 2)) (B.drop (gD 0 B 2))).r)).1) : Nat) : Int) != ((gV 0 B 2 : Nat) : Int))), (54, .int .u64 (gV 0 B 2))]) (fun φ35 => []) s (fun φ35 => by kernel_rfl) ?_
     intro φ35 w35 s
     rw [nat_neq (a := (idK ((Ev.pairT ((hvG g Ev.T.zero (decide ((gV 0 B 2) ≠ 1)) (decide ((gV 0 B 2) ≠ 2)) (B.drop (gD 0 B 2))).l) ((hvG g Ev.T.zero (decide ((gV 0 B 2) ≠ 1)) (decide ((gV 0 B 2) ≠ 2)) (B.drop (gD 0 B 2))).r)).1))) (b := (gV 0 B 2))]
     refine ops_done (by kernel_rfl) ?_
     rcases Bool.eq_false_or_eq_true (decide ((idK ((Ev.pairT ((hvG g Ev.T.zero (decide ((gV 0 B 2) ≠ 1)) (decide ((gV 0 B 2) ≠ 2)) (B.drop (gD 0 B 2))).l) ((hvG g Ev.T.zero (decide ((gV 0 B 2) ≠ 1)) (decide ((gV 0 B 2) ≠ 2)) (B.drop (gD 0 B 2))).r)).1)) ≠ (gV 0 B 2))) with hc36 | hc36
     ·
      rw [hc36]
      refine cond_true_rule (b := true) (by kernel_rfl) rfl ?_
      refine seqR ?_
      refine call_rule (some 56) s (Ev.tzero_c) (by kernel_rfl) ?_
      intro v37 I37 w37 le37 h37 s
      replace h31_0 := Ev.TRep.mono le37 h31_0
      obtain rfl := h37
      refine oKD _ [] 2 [.o 2, .o 2] 0 (fun φ38 => [(5, .int .i64 6)]) (fun φ38 => [φ1 1, φ1 1]) s (fun φ38 => by kernel_rfl) (by kernel_rfl) ?_
      intro φ38 w38 s
      refine wp_ret ?_
      refine ret_rule (C := []) _ [] (.tuple #[.agg #[.bool false, .pointer none], .int .i64 6]) [.o 2, .o 2] [φ1 1, φ1 1] s trivial (by kernel_rfl) ?_
      replace s := s.drop (List.Sublist.append (List.Sublist.cons₂ _ (List.Sublist.cons _ (List.Sublist.cons _ (List.Sublist.cons _ (List.Sublist.cons _ (List.Sublist.cons _ List.Sublist.slnil)))))) (List.Sublist.refl []))
      have e9 : idN g last B = ⟨Ev.T.zero, 6, (gD 0 B 2) + ((hvG g Ev.T.zero (decide ((gV 0 B 2) ≠ 1)) (decide ((gV 0 B 2) ≠ 2)) (B.drop (gD 0 B 2))).d), (hvG g Ev.T.zero (decide ((gV 0 B 2) ≠ 1)) (decide ((gV 0 B 2) ≠ 2)) (B.drop (gD 0 B 2))).e⟩ := by unfold idN; rw [if_neg (of_decide_eq_false hc9), if_neg (of_decide_eq_false hc13), if_neg (show ¬ last = true by rw [hlast, hc19]; decide), if_neg (of_decide_eq_false hc27), if_pos (of_decide_eq_true hc36)]
      exact ⟨_, _, _, rfl, s, (by rw [e9]; exact ⟨_, rfl, rfl, _, _, rfl, (by simp only [Nat.add_assoc, Nat.add_zero]), (Ev.TRep.z _)⟩)⟩
     ·
      rw [hc36]
      refine cond_false_rule (b := false) (by kernel_rfl) rfl ?_
      refine wp_skip ?_
      refine seqR ?_
      refine oAD _ [] 4 [.o 5, .o 5, .o 2, .o 2] 0 (fun φ39 => [(5, .int .i64 (((Ev.pairT ((hvG g Ev.T.zero (decide ((gV 0 B 2) ≠ 1)) (decide ((gV 0 B 2) ≠ 2)) (B.drop (gD 0 B 2))).l) ((hvG g Ev.T.zero (decide ((gV 0 B 2) ≠ 1)) (decide ((gV 0 B 2) ≠ 2)) (B.drop (gD 0 B 2))).r)).2 : Nat) : Int)), (58, .int .i64 (((Ev.pairT ((hvG g Ev.T.zero (decide ((gV 0 B 2) ≠ 1)) (decide ((gV 0 B 2) ≠ 2)) (B.drop (gD 0 B 2))).l) ((hvG g Ev.T.zero (decide ((gV 0 B 2) ≠ 1)) (decide ((gV 0 B 2) ≠ 2)) (B.drop (gD 0 B 2))).r)).2 : Nat) : Int)), (57, .agg #[.bool b31, .pointer p31])]) (fun φ39 => [(r, .cells #[.slice a l.length c, .int .i64 ((p + (gD 0 B 2) + ((hvG g Ev.T.zero (decide ((gV 0 B 2) ≠ 1)) (decide ((gV 0 B 2) ≠ 2)) (B.drop (gD 0 B 2))).d) : Nat) : Int), .int .i64 (((hvG g Ev.T.zero (decide ((gV 0 B 2) ≠ 1)) (decide ((gV 0 B 2) ≠ 2)) (B.drop (gD 0 B 2))).e : Nat) : Int)] 74), (φ1 0, .cells #[pB r] 71), (φ1 1, .cells #[.bool b31, .pointer p31] 27), (φ25 0, .cells #[.bool b124, .pointer p124] 27), (φ25 1, .cells #[.bool b224, .pointer p224] 27), (φ32 0, .cells #[.bool b31, .pointer p31] 27)]) (fun φ39 => [φ32 0, φ32 0, φ1 1, φ1 1]) s (fun φ39 => by kernel_rfl) (by kernel_rfl) ?_
      intro φ39 w39 s
      refine wp_ret ?_
      refine ret_rule (C := []) _ [] (.tuple #[.agg #[.bool b31, .pointer p31], .int .i64 (((Ev.pairT ((hvG g Ev.T.zero (decide ((gV 0 B 2) ≠ 1)) (decide ((gV 0 B 2) ≠ 2)) (B.drop (gD 0 B 2))).l) ((hvG g Ev.T.zero (decide ((gV 0 B 2) ≠ 1)) (decide ((gV 0 B 2) ≠ 2)) (B.drop (gD 0 B 2))).r)).2 : Nat) : Int)]) [.o 2, .o 2] [φ1 1, φ1 1] s trivial (by kernel_rfl) ?_
      replace s := s.drop (List.Sublist.append (List.Sublist.cons₂ _ (List.Sublist.cons _ (List.Sublist.cons _ (List.Sublist.cons _ (List.Sublist.cons _ (List.Sublist.cons _ List.Sublist.slnil)))))) (List.Sublist.refl []))
      have e9 : idN g last B = ⟨(Ev.pairT ((hvG g Ev.T.zero (decide ((gV 0 B 2) ≠ 1)) (decide ((gV 0 B 2) ≠ 2)) (B.drop (gD 0 B 2))).l) ((hvG g Ev.T.zero (decide ((gV 0 B 2) ≠ 1)) (decide ((gV 0 B 2) ≠ 2)) (B.drop (gD 0 B 2))).r)).1, (Ev.pairT ((hvG g Ev.T.zero (decide ((gV 0 B 2) ≠ 1)) (decide ((gV 0 B 2) ≠ 2)) (B.drop (gD 0 B 2))).l) ((hvG g Ev.T.zero (decide ((gV 0 B 2) ≠ 1)) (decide ((gV 0 B 2) ≠ 2)) (B.drop (gD 0 B 2))).r)).2, (gD 0 B 2) + ((hvG g Ev.T.zero (decide ((gV 0 B 2) ≠ 1)) (decide ((gV 0 B 2) ≠ 2)) (B.drop (gD 0 B 2))).d), (hvG g Ev.T.zero (decide ((gV 0 B 2) ≠ 1)) (decide ((gV 0 B 2) ≠ 2)) (B.drop (gD 0 B 2))).e⟩ := by unfold idN; rw [if_neg (of_decide_eq_false hc9), if_neg (of_decide_eq_false hc13), if_neg (show ¬ last = true by rw [hlast, hc19]; decide), if_neg (of_decide_eq_false hc27), if_neg (of_decide_eq_false hc36)]
      exact ⟨_, _, _, rfl, s, (by rw [e9]; exact ⟨_, rfl, rfl, _, _, rfl, (by simp only [Nat.add_assoc, Nat.add_zero]), h31_0⟩)⟩

theorem idG_c : ∀ (f : Nat) {I : IM} {l : List UInt8} {a : Option Addr} {c : Nat} {r p e : Nat} {B : List Bool} (_ : BSl I l (.slice a l.length c)) (_ : l.length ≤ 1000000) (_ : p ≤ l.length * 8) (_ : (bitsL l).drop p = B) (_ : e = 0) {deep : Nat} (_ : deep + f = 16), FunM Tryd.prog 37 #[.agg #[.pointer (some ⟨r, 0, none⟩)], .int .i64 ((deep : Nat) : Int)] I [(r, .cells #[.slice a l.length c, .int .i64 ((p : Nat) : Int), .int .i64 ((e : Nat) : Int)] 74)] (fun v J H' => ∃ b' : OB, H' = [b'] ∧ b'.1 = r ∧ ∃ bi pi, v = .tuple #[.agg #[.bool bi, .pointer pi], .int .i64 (((idG f B).er : Nat) : Int)] ∧ b' = (r, .cells #[.slice a l.length c, .int .i64 ((p + (idG f B).d : Nat) : Int), .int .i64 (((idG f B).e : Nat) : Int)] 74) ∧ Ev.TRep J (idG f B).t bi pi)
  | 0, _, _, _, _, _, _, _, _, hl, hn9, hp, hB, he, deep, hd => id_step hl hn9 hp hB he okZ (by omega) (decide_eq_true (by omega)).symm (fun q => absurd (show deep = 16 by omega) q)
  | f + 1, _, _, _, _, _, _, _, _, hl, hn9, hp, hB, he, deep, hd => id_step hl hn9 hp hB he (idG_ok f) (by omega) (decide_eq_false (by omega)).symm (fun _ {J} {p} {e} {B} a1 a2 a3 a4 => idG_c f a1 hn9 a2 a3 a4 (by omega))

end Go.Proofs.YtgmigcmhnmmdkaaDoor

/- What is read of bits: events. -/
set_option linter.all false
namespace Go.Proofs.YtgmigcmhnmmdkaaDoor

noncomputable def cnG (e : Nat) (B : List Bool) : Rd Nat := if bnE B e ≠ 0 then ⟨0, 6, bnD B e, bnE B e⟩ else if 1048576 < bnV B e then ⟨0, 4, bnD B e, bnE B e⟩ else ⟨bnV B e, 0, bnD B e, bnE B e⟩
theorem cn_d (e : Nat) (B : List Bool) : (cnG e B).d ≤ B.length := by
  unfold cnG; split
  · exact bnD_le _ _
  · split <;> exact bnD_le _ _
theorem cn_e (e : Nat) (B : List Bool) : (cnG e B).er = 0 → (cnG e B).e = 0 := by
  unfold cnG; split
  · exact fun z => absurd (show (6 : Nat) = 0 from z) (by decide)
  · rename_i h; split <;> exact fun _ => Decidable.not_not.1 h
theorem cn_le (e : Nat) (B : List Bool) : (cnG e B).t ≤ 1048576 := by
  unfold cnG; split
  · exact Nat.zero_le _
  · split
    · exact Nat.zero_le _
    · rename_i h; exact Nat.not_lt.1 h
structure Rk where
  k : Nat
  n : Nat
  er : Nat
  d : Nat
  e : Nat
def hdF (k d : Nat) (C : Rd Nat) : Rk := if C.er = 0 then (if C.t = 0 then ⟨k, C.t, 6, d + C.d, C.e⟩ else ⟨k, C.t, C.er, d + C.d, C.e⟩) else ⟨k, C.t, C.er, d + C.d, C.e⟩
noncomputable def hdG (B : List Bool) : Rk :=
  if gE 0 B 2 ≠ 0 then ⟨0, 0, 6, gD 0 B 2, gE 0 B 2⟩
  else if gV 0 B 2 ≠ 3 then ⟨gV 0 B 2, 0, 0, gD 0 B 2, gE 0 B 2⟩
  else if gV 0 (B.drop (gD 0 B 2)) 1 = 0 then
    hdF (gV (gE 0 (B.drop (gD 0 B 2)) 1) ((B.drop (gD 0 B 2)).drop (gD 0 (B.drop (gD 0 B 2)) 1)) 1) (gD 0 B 2 + gD 0 (B.drop (gD 0 B 2)) 1 + gD (gE 0 (B.drop (gD 0 B 2)) 1) ((B.drop (gD 0 B 2)).drop (gD 0 (B.drop (gD 0 B 2)) 1)) 1)
      (cnG (gE (gE 0 (B.drop (gD 0 B 2)) 1) ((B.drop (gD 0 B 2)).drop (gD 0 (B.drop (gD 0 B 2)) 1)) 1) (((B.drop (gD 0 B 2)).drop (gD 0 (B.drop (gD 0 B 2)) 1)).drop (gD (gE 0 (B.drop (gD 0 B 2)) 1) ((B.drop (gD 0 B 2)).drop (gD 0 (B.drop (gD 0 B 2)) 1)) 1)))
  else hdF 2 (gD 0 B 2 + gD 0 (B.drop (gD 0 B 2)) 1) (cnG (gE 0 (B.drop (gD 0 B 2)) 1) ((B.drop (gD 0 B 2)).drop (gD 0 (B.drop (gD 0 B 2)) 1)))
theorem hdF_d {k d : Nat} {C : Rd Nat} : (hdF k d C).d = d + C.d := by unfold hdF; split; · split <;> rfl
                                                                       rfl
theorem hdF_e {k d : Nat} {C : Rd Nat} (h : C.er = 0 → C.e = 0) : (hdF k d C).er = 0 → (hdF k d C).e = 0 := by
  unfold hdF; split
  · split
    · exact fun z => absurd (show (6 : Nat) = 0 from z) (by decide)
    · exact h
  · exact h
theorem hd_d (B : List Bool) : (hdG B).d ≤ B.length := by
  unfold hdG; split
  · exact gD_le _ _ _
  · split
    · exact gD_le _ _ _
    · have h1 := gD_le 0 B 2
      have h2 := drop_le h1 (gD_le 0 (B.drop (gD 0 B 2)) 1)
      split
      · rw [hdF_d]
        have h3 := drop_le h2 (by rw [← drop_drop B]; exact gD_le (gE 0 (B.drop (gD 0 B 2)) 1) ((B.drop (gD 0 B 2)).drop (gD 0 (B.drop (gD 0 B 2)) 1)) 1)
        refine drop_le h3 ?_
        rw [← drop_drop B, ← drop_drop B]
        exact cn_d _ _
      · rw [hdF_d]
        refine drop_le h2 ?_
        rw [← drop_drop B]
        exact cn_d _ _
theorem hd_e (B : List Bool) : (hdG B).er = 0 → (hdG B).e = 0 := by
  unfold hdG; split
  · exact fun z => absurd (show (6 : Nat) = 0 from z) (by decide)
  · rename_i h; split
    · exact fun _ => Decidable.not_not.1 h
    · split <;> exact hdF_e (cn_e _ _)
/- trees -/
def inF (l r : Ev.E) : Bool := decide (min l.base r.base = 0) && decide (0 < max l.top r.top)
noncomputable def ndG (g : List Bool → Rd Ev.E) (B : List Bool) : Rd Ev.E :=
  if (hdG B).er ≠ 0 then ⟨.leaf 0, (hdG B).er, (hdG B).d, (hdG B).e⟩
  else if (hvG g (.leaf 0) (decide ((hdG B).k ≠ 0)) (decide ((hdG B).k ≠ 1)) (B.drop (hdG B).d)).er ≠ 0 then ⟨.leaf 0, (hvG g (.leaf 0) (decide ((hdG B).k ≠ 0)) (decide ((hdG B).k ≠ 1)) (B.drop (hdG B).d)).er, (hdG B).d + (hvG g (.leaf 0) (decide ((hdG B).k ≠ 0)) (decide ((hdG B).k ≠ 1)) (B.drop (hdG B).d)).d, (hvG g (.leaf 0) (decide ((hdG B).k ≠ 0)) (decide ((hdG B).k ≠ 1)) (B.drop (hdG B).d)).e⟩
  else if kindE (hvG g (.leaf 0) (decide ((hdG B).k ≠ 0)) (decide ((hdG B).k ≠ 1)) (B.drop (hdG B).d)).l (hvG g (.leaf 0) (decide ((hdG B).k ≠ 0)) (decide ((hdG B).k ≠ 1)) (B.drop (hdG B).d)).r ≠ (hdG B).k then ⟨.leaf 0, 6, (hdG B).d + (hvG g (.leaf 0) (decide ((hdG B).k ≠ 0)) (decide ((hdG B).k ≠ 1)) (B.drop (hdG B).d)).d, (hvG g (.leaf 0) (decide ((hdG B).k ≠ 0)) (decide ((hdG B).k ≠ 1)) (B.drop (hdG B).d)).e⟩
  else if inF (hvG g (.leaf 0) (decide ((hdG B).k ≠ 0)) (decide ((hdG B).k ≠ 1)) (B.drop (hdG B).d)).l (hvG g (.leaf 0) (decide ((hdG B).k ≠ 0)) (decide ((hdG B).k ≠ 1)) (B.drop (hdG B).d)).r = true then ⟨(Ev.nodeR (hdG B).n (hvG g (.leaf 0) (decide ((hdG B).k ≠ 0)) (decide ((hdG B).k ≠ 1)) (B.drop (hdG B).d)).l (hvG g (.leaf 0) (decide ((hdG B).k ≠ 0)) (decide ((hdG B).k ≠ 1)) (B.drop (hdG B).d)).r).1, (Ev.nodeR (hdG B).n (hvG g (.leaf 0) (decide ((hdG B).k ≠ 0)) (decide ((hdG B).k ≠ 1)) (B.drop (hdG B).d)).l (hvG g (.leaf 0) (decide ((hdG B).k ≠ 0)) (decide ((hdG B).k ≠ 1)) (B.drop (hdG B).d)).r).2, (hdG B).d + (hvG g (.leaf 0) (decide ((hdG B).k ≠ 0)) (decide ((hdG B).k ≠ 1)) (B.drop (hdG B).d)).d, (hvG g (.leaf 0) (decide ((hdG B).k ≠ 0)) (decide ((hdG B).k ≠ 1)) (B.drop (hdG B).d)).e⟩
  else ⟨.leaf 0, 6, (hdG B).d + (hvG g (.leaf 0) (decide ((hdG B).k ≠ 0)) (decide ((hdG B).k ≠ 1)) (B.drop (hdG B).d)).d, (hvG g (.leaf 0) (decide ((hdG B).k ≠ 0)) (decide ((hdG B).k ≠ 1)) (B.drop (hdG B).d)).e⟩
noncomputable def evN (g : List Bool → Rd Ev.E) (last : Bool) (B : List Bool) : Rd Ev.E :=
  if gE 0 B 1 ≠ 0 then ⟨.leaf 0, 6, gD 0 B 1, gE 0 B 1⟩
  else if gV 0 B 1 = 1 then
    (if (cnG 0 (B.drop (gD 0 B 1))).er ≠ 0 then ⟨.leaf 0, (cnG 0 (B.drop (gD 0 B 1))).er, gD 0 B 1 + (cnG 0 (B.drop (gD 0 B 1))).d, (cnG 0 (B.drop (gD 0 B 1))).e⟩ else ⟨.leaf (cnG 0 (B.drop (gD 0 B 1))).t, 0, gD 0 B 1 + (cnG 0 (B.drop (gD 0 B 1))).d, (cnG 0 (B.drop (gD 0 B 1))).e⟩)
  else if last = true then ⟨.leaf 0, 3, gD 0 B 1, gE 0 B 1⟩
  else ⟨(ndG g (B.drop (gD 0 B 1))).t, (ndG g (B.drop (gD 0 B 1))).er, gD 0 B 1 + (ndG g (B.drop (gD 0 B 1))).d, (ndG g (B.drop (gD 0 B 1))).e⟩
noncomputable def evG : Nat → List Bool → Rd Ev.E
  | 0 => evN (fun _ => ⟨.leaf 0, 0, 0, 0⟩) true
  | f + 1 => evN (evG f) false
abbrev OkE := OkG Ev.E.depth Ev.E.top
theorem okZE : OkE (fun _ => ⟨.leaf 0, 0, 0, 0⟩) := ⟨fun _ => Nat.zero_le _, fun _ _ => rfl, fun _ => Nat.zero_le _, fun _ => Nat.zero_le _⟩
theorem zE : (Ev.E.leaf 0).depth ≤ 16 ∧ (Ev.E.leaf 0).top ≤ 1048576 := ⟨Nat.zero_le _, Nat.zero_le _⟩
theorem nodeR_ok (n : Nat) (l r : Ev.E) : (Ev.nodeR n l r).1.depth ≤ 16 ∧ (Ev.nodeR n l r).1.top ≤ 1048576 := by
  unfold Ev.nodeR; split
  · exact zE
  · split
    · exact zE
    · split
      · exact zE
      · have h1 := Ev.E.mk_depth n l r
        have h2 := Ev.E.mk_top n l r
        exact ⟨by show (Ev.E.mk n l r).depth ≤ 16; omega, by show (Ev.E.mk n l r).top ≤ 1048576; omega⟩
theorem ndG_ok {g : List Bool → Rd Ev.E} (h : OkE g) : OkE (ndG g) := by
  refine ⟨fun B => ?_, fun B => ?_, fun B => ?_, fun B => ?_⟩ <;> unfold ndG
  · split
    · exact hd_d B
    · split
      · exact drop_le (hd_d B) (hv_d h zE)
      · split
        · exact drop_le (hd_d B) (hv_d h zE)
        · split <;> exact drop_le (hd_d B) (hv_d h zE)
  · split
    · rename_i q; exact fun q' => absurd q' q
    · split
      · rename_i q; exact fun q' => absurd q' q
      · rename_i q
        split
        · exact fun z => absurd (show (6 : Nat) = 0 from z) (by decide)
        · split
          · exact fun _ => hv_e h zE (Decidable.not_not.1 q)
          · exact fun z => absurd (show (6 : Nat) = 0 from z) (by decide)
  · split
    · exact zE.1
    · split
      · exact zE.1
      · split
        · exact zE.1
        · split
          · exact (nodeR_ok _ _ _).1
          · exact zE.1
  · split
    · exact zE.2
    · split
      · exact zE.2
      · split
        · exact zE.2
        · split
          · exact (nodeR_ok _ _ _).2
          · exact zE.2
theorem evN_ok {g : List Bool → Rd Ev.E} (h : OkE g) (last : Bool) : OkE (evN g last) := by
  refine ⟨fun B => ?_, fun B => ?_, fun B => ?_, fun B => ?_⟩ <;> unfold evN
  · split
    · exact gD_le _ _ _
    · split
      · split <;> exact drop_le (gD_le _ _ _) (cn_d _ _)
      · split
        · exact gD_le _ _ _
        · exact drop_le (gD_le _ _ _) ((ndG_ok h).d _)
  · split
    · exact fun z => absurd (show (6 : Nat) = 0 from z) (by decide)
    · split
      · split
        · rename_i q; exact fun q' => absurd q' q
        · rename_i q; exact fun _ => cn_e _ _ (Decidable.not_not.1 q)
      · split
        · exact fun z => absurd (show (3 : Nat) = 0 from z) (by decide)
        · exact (ndG_ok h).e _
  · split
    · exact zE.1
    · split
      · split
        · exact zE.1
        · exact Nat.zero_le _
      · split
        · exact zE.1
        · exact (ndG_ok h).s _
  · split
    · exact zE.2
    · split
      · split
        · exact zE.2
        · exact cn_le _ _
      · split
        · exact zE.2
        · exact (ndG_ok h).t _
theorem evG_ok : ∀ f, OkE (evG f)
  | 0 => evN_ok okZE true
  | f + 1 => evN_ok (evG_ok f) false
end Go.Proofs.YtgmigcmhnmmdkaaDoor

