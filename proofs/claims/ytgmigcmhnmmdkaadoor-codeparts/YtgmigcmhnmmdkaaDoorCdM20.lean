/- Numbers, heads and halves of events are read. -/
import Derived.Test.YtgmigcmhnmmdkaaDoorCdM19
import Derived.Test.YtgmigcmhnmmdkaaDoorCdM14
import Derived.Test.YtgmigcmhnmmdkaaDoorCdBxW32
set_option linter.all false
set_option maxRecDepth 100000
namespace Go.Proofs.YtgmigcmhnmmdkaaDoor
open Go.RowKit Go.Sep
attribute [local irreducible] Go.wpList Go.Code.wp

set_option maxHeartbeats 1000000 in
theorem numQ_err {I : IM} {l : List UInt8} {a : Option Addr} {c : Nat} {r p e : Nat} {B : List Bool} (hl : BSl I l (.slice a l.length c)) (hn9 : l.length ≤ 1000000) (hp : p ≤ l.length * 8) (hB : (bitsL l).drop p = B) (he : e ≠ 0) : FunM Tryd.prog 103 #[.pointer (some ⟨r, 0, none⟩)] I [(r, .cells #[.slice a l.length c, .int .i64 ((p : Nat) : Int), .int .i64 ((e : Nat) : Int)] 74)] (fun v J H' => ∃ b' : OB, H' = [b'] ∧ b'.1 = r ∧ v = .int .u64 0 ∧ b' = (r, .cells #[.slice a l.length c, .int .i64 ((p : Nat) : Int), .int .i64 ((e : Nat) : Int)] 74)) := by
 refine enterM_rule 49 [(0, pB r)] Tryd.func103 rfl (by kernel_rfl) ?_
 intro w s
 refine seqR ?_
 refine oKD [(r, .cells #[.slice a l.length c, .int .i64 p, .int .i64 e] 74)] [] 1 [] 0 (fun φ1 => [(2, .int .u64 0)]) (fun φ1 => []) s (fun φ1 => by kernel_rfl) (by kernel_rfl) ?_
 intro φ1 w1 s
 refine Go.wp_scope_straight ?_
 refine wp_seq ?_
 refine seqR ?_
 refine oK _ [] 1 [] 0 (fun φ2 => [(7, pB r)]) (fun φ2 => []) s (fun φ2 => by kernel_rfl) ?_
 intro φ2 w2 s
 refine callB_rule (b := (r, .cells #[.slice a l.length c, .int .i64 p, .int .i64 e] 74)) (F := []) (Hr := []) (some 8) 0 s (by kernel_rfl) (by kernel_rfl) (err_c (r := r) (v0 := .slice a l.length c) (v1 := .int .i64 p) (e := e)) (by kernel_rfl) ?_
 rintro v3 I3 w3 b3 le3 - h3 s
 obtain ⟨rfl, rfl⟩ := h3
 refine oK _ [] 1 [] 0 (fun φ4 => [(9, .bool (((e : Nat) : Int) != ((0 : Nat) : Int)))]) (fun φ4 => []) s (fun φ4 => by kernel_rfl) ?_
 intro φ4 w4 s
 rw [nat_neq (a := e) (b := 0)]
 refine ops_done (by kernel_rfl) ?_
 rcases Bool.eq_false_or_eq_true (decide (e ≠ 0)) with hc5 | hc5
 ·
  rw [hc5]
  refine cond_true_rule (b := true) (by kernel_rfl) rfl ?_
  refine seqR ?_
  refine oKD _ [] 1 [] 0 (fun φ6 => [(2, .int .u64 0)]) (fun φ6 => []) s (fun φ6 => by kernel_rfl) (by kernel_rfl) ?_
  intro φ6 w6 s
  refine wp_ret ?_
  refine ret_rule (C := []) _ [] (.int .u64 0) [] [] s trivial (by kernel_rfl) ?_
  exact ⟨_, _, _, rfl, s, ⟨_, rfl, rfl, rfl, rfl⟩⟩
 ·
  exact absurd (of_decide_eq_false hc5) (fun q => q he)

theorem numZ_c {I : IM} {l : List UInt8} {a : Option Addr} {c : Nat} {r p e : Nat} {B : List Bool} (hl : BSl I l (.slice a l.length c)) (hn9 : l.length ≤ 1000000) (hp : p ≤ l.length * 8) (hB : (bitsL l).drop p = B) : FunM Tryd.prog 103 #[.pointer (some ⟨r, 0, none⟩)] I [(r, .cells #[.slice a l.length c, .int .i64 ((p : Nat) : Int), .int .i64 ((e : Nat) : Int)] 74)] (fun v J H' => ∃ b' : OB, H' = [b'] ∧ b'.1 = r ∧ v = .int .u64 ((bnV B e : Nat) : Int) ∧ b' = (r, .cells #[.slice a l.length c, .int .i64 ((p + bnD B e : Nat) : Int), .int .i64 ((bnE B e : Nat) : Int)] 74)) := by
  by_cases he : e = 0
  · subst he
    have h := numR_c (r := r) (p := p) hl hn9 hp
    rw [hB] at h; exact h
  · obtain ⟨a1, a2, a3⟩ := bn_err (bs := B) he
    rw [a1, a2, a3]
    exact numQ_err hl hn9 hp hB he

set_option maxHeartbeats 1000000 in
theorem countE_c {I : IM} {l : List UInt8} {a : Option Addr} {c : Nat} {r p e : Nat} {B : List Bool} (hl : BSl I l (.slice a l.length c)) (hn9 : l.length ≤ 1000000) (hp : p ≤ l.length * 8) (hB : (bitsL l).drop p = B) : FunM Tryd.prog 77 #[.agg #[.pointer (some ⟨r, 0, none⟩)]] I [(r, .cells #[.slice a l.length c, .int .i64 ((p : Nat) : Int), .int .i64 ((e : Nat) : Int)] 74)] (fun v J H' => ∃ b' : OB, H' = [b'] ∧ b'.1 = r ∧ v = .tuple #[.int .u64 (((cnG e B).t : Nat) : Int), .int .i64 (((cnG e B).er : Nat) : Int)] ∧ b' = (r, .cells #[.slice a l.length c, .int .i64 ((p + (cnG e B).d : Nat) : Int), .int .i64 (((cnG e B).e : Nat) : Int)] 74)) := by
 refine enterM_rule 15 [(0, .agg #[pB r])] Tryd.func77 rfl (by kernel_rfl) ?_
 intro w s
 refine seqR ?_
 refine oAD [(r, .cells #[.slice a l.length c, .int .i64 p, .int .i64 e] 74)] [] 3 [] 1 (fun φ1 => [(3, .int .i64 0), (2, .int .u64 0), (1, pB (φ1 0))]) (fun φ1 => [(r, .cells #[.slice a l.length c, .int .i64 p, .int .i64 e] 74), (φ1 0, .cells #[pB r] 71)]) (fun φ1 => []) s (fun φ1 => by kernel_rfl) (by kernel_rfl) ?_
 intro φ1 w1 s
 refine seqR ?_
 refine oK _ [] 2 [.o 1] 0 (fun φ2 => [(6, pB r), (5, pB (φ1 0))]) (fun φ2 => [(φ1 0)]) s (fun φ2 => by kernel_rfl) ?_
 intro φ2 w2 s
 refine callB_rule (b := (r, .cells #[.slice a l.length c, .int .i64 p, .int .i64 e] 74)) (F := []) (Hr := [(φ1 0, .cells #[pB r] 71)]) (some 7) 0 s (by kernel_rfl) (by kernel_rfl) (numZ_c (e := e) (r := r) (p := p) (B := B) hl hn9 hp hB) (by kernel_rfl) ?_
 rintro v4 I4 w4 b4 le4 - h4 s
 obtain ⟨rfl, rfl⟩ := h4
 have hB3 := next_B (d := bnD B e) hB
 have hp3 := next_p (d := bnD B e) hp hB (bnD_le _ _)
 refine oKD _ [] 1 [] 0 (fun φ5 => [(4, .int .u64 (bnV B e))]) (fun φ5 => []) s (fun φ5 => by kernel_rfl) (by kernel_rfl) ?_
 intro φ5 w5 s
 refine wp_seq ?_
 refine wp_block ?_
 refine seqR ?_
 refine oK _ [] 1 [.o 1] 0 (fun φ6 => [(9, .agg #[pB r])]) (fun φ6 => [(φ1 0)]) s (fun φ6 => by kernel_rfl) ?_
 intro φ6 w6 s
 refine callB_rule (b := (r, .cells #[.slice a l.length c, .int .i64 ((p + (bnD B e) : Nat) : Int), .int .i64 (bnE B e)] 74)) (F := []) (Hr := [(φ1 0, .cells #[pB r] 71)]) (some 10) 0 s (by kernel_rfl) (by kernel_rfl) (failed_c (r := r) (v0 := .slice a l.length c) (v1 := .int .i64 ((p + (bnD B e) : Nat) : Int)) (e := bnE B e)) (by kernel_rfl) ?_
 rintro v7 I7 w7 b7 le7 - h7 s
 obtain ⟨rfl, rfl⟩ := h7
 refine oKD _ [] 1 [] 0 (fun φ8 => [(8, .bool (decide (bnE B e ≠ 0)))]) (fun φ8 => []) s (fun φ8 => by kernel_rfl) (by kernel_rfl) ?_
 intro φ8 w8 s
 rcases Bool.eq_false_or_eq_true (decide (bnE B e ≠ 0)) with hc9 | hc9
 ·
  rw [hc9]
  refine cond_true_rule (b := true) (by kernel_rfl) rfl ?_
  refine seqR ?_
  refine oKD _ [] 2 [] 0 (fun φ10 => [(3, .int .i64 6), (2, .int .u64 0)]) (fun φ10 => []) s (fun φ10 => by kernel_rfl) (by kernel_rfl) ?_
  intro φ10 w10 s
  refine wp_ret ?_
  refine ret_rule (C := []) _ [] (.tuple #[.int .u64 0, .int .i64 6]) [] [] s trivial (by kernel_rfl) ?_
  replace s := s.drop (List.Sublist.append (List.Sublist.cons₂ _ (List.Sublist.cons _ List.Sublist.slnil)) (List.Sublist.refl []))
  have e9 : cnG e B = ⟨0, 6, bnD B e, bnE B e⟩ := by unfold cnG; rw [if_pos (of_decide_eq_true hc9)]
  exact ⟨_, _, _, rfl, s, (by rw [e9]; exact ⟨_, rfl, rfl, rfl, rfl⟩)⟩
 ·
  rw [hc9]
  refine cond_false_rule (b := false) (by kernel_rfl) rfl ?_
  refine seqR ?_
  refine oK _ [] 3 [] 0 (fun φ11 => [(11, .bool (decide (((bnV B e : Nat) : Int) > ((1048576 : Nat) : Int)))), (13, .bool (decide (((bnV B e : Nat) : Int) > ((1048576 : Nat) : Int)))), (12, .int .u64 (bnV B e))]) (fun φ11 => []) s (fun φ11 => by kernel_rfl) ?_
  intro φ11 w11 s
  rw [nat_gtr (a := (bnV B e)) (b := 1048576)]
  refine ops_done (by kernel_rfl) ?_
  rcases Bool.eq_false_or_eq_true (decide (1048576 < (bnV B e))) with hc12 | hc12
  ·
   rw [hc12]
   refine cond_true_rule (b := true) (by kernel_rfl) rfl ?_
   refine seqR ?_
   refine oKD _ [] 2 [] 0 (fun φ13 => [(3, .int .i64 4), (2, .int .u64 0)]) (fun φ13 => []) s (fun φ13 => by kernel_rfl) (by kernel_rfl) ?_
   intro φ13 w13 s
   refine wp_ret ?_
   refine ret_rule (C := []) _ [] (.tuple #[.int .u64 0, .int .i64 4]) [] [] s trivial (by kernel_rfl) ?_
   replace s := s.drop (List.Sublist.append (List.Sublist.cons₂ _ (List.Sublist.cons _ List.Sublist.slnil)) (List.Sublist.refl []))
   have e9 : cnG e B = ⟨0, 4, bnD B e, bnE B e⟩ := by unfold cnG; rw [if_neg (of_decide_eq_false hc9), if_pos (of_decide_eq_true hc12)]
   exact ⟨_, _, _, rfl, s, (by rw [e9]; exact ⟨_, rfl, rfl, rfl, rfl⟩)⟩
  ·
   rw [hc12]
   refine cond_false_rule (b := false) (by kernel_rfl) rfl ?_
   refine wp_skip ?_
   refine seqR ?_
   refine oKD _ [] 3 [] 0 (fun φ14 => [(3, .int .i64 0), (2, .int .u64 (bnV B e)), (14, .int .u64 (bnV B e))]) (fun φ14 => []) s (fun φ14 => by kernel_rfl) (by kernel_rfl) ?_
   intro φ14 w14 s
   refine wp_ret ?_
   refine ret_rule (C := []) _ [] (.tuple #[.int .u64 (bnV B e), .int .i64 0]) [] [] s trivial (by kernel_rfl) ?_
   replace s := s.drop (List.Sublist.append (List.Sublist.cons₂ _ (List.Sublist.cons _ List.Sublist.slnil)) (List.Sublist.refl []))
   have e9 : cnG e B = ⟨bnV B e, 0, bnD B e, bnE B e⟩ := by unfold cnG; rw [if_neg (of_decide_eq_false hc9), if_neg (of_decide_eq_false hc12)]
   exact ⟨_, _, _, rfl, s, (by rw [e9]; exact ⟨_, rfl, rfl, rfl, rfl⟩)⟩

theorem countK_c {I : IM} {l : List UInt8} {a : Option Addr} {c : Nat} {r p e : Nat} {B : List Bool} (hl : BSl I l (.slice a l.length c)) (hn9 : l.length ≤ 1000000) (hp : p ≤ l.length * 8) (hB : (bitsL l).drop p = B) (he : e = 0) : FunM Tryd.prog 77 #[.agg #[.pointer (some ⟨r, 0, none⟩)]] I [(r, .cells #[.slice a l.length c, .int .i64 ((p : Nat) : Int), .int .i64 ((e : Nat) : Int)] 74)] (fun v J H' => ∃ b' : OB, H' = [b'] ∧ b'.1 = r ∧ v = .tuple #[.int .u64 (((cnG 0 B).t : Nat) : Int), .int .i64 (((cnG 0 B).er : Nat) : Int)] ∧ b' = (r, .cells #[.slice a l.length c, .int .i64 ((p + (cnG 0 B).d : Nat) : Int), .int .i64 (((cnG 0 B).e : Nat) : Int)] 74)) := by
  subst he; exact countE_c hl hn9 hp hB

set_option maxHeartbeats 4000000 in
theorem head_c {I : IM} {l : List UInt8} {a : Option Addr} {c : Nat} {r p e : Nat} {B : List Bool} (hl : BSl I l (.slice a l.length c)) (hn9 : l.length ≤ 1000000) (hp : p ≤ l.length * 8) (hB : (bitsL l).drop p = B) (he : e = 0) : FunM Tryd.prog 104 #[.agg #[.pointer (some ⟨r, 0, none⟩)]] I [(r, .cells #[.slice a l.length c, .int .i64 ((p : Nat) : Int), .int .i64 ((e : Nat) : Int)] 74)] (fun v J H' => ∃ b' : OB, H' = [b'] ∧ b'.1 = r ∧ v = .tuple #[.int .u64 (((hdG B).k : Nat) : Int), .int .u64 (((hdG B).n : Nat) : Int), .int .i64 (((hdG B).er : Nat) : Int)] ∧ b' = (r, .cells #[.slice a l.length c, .int .i64 ((p + (hdG B).d : Nat) : Int), .int .i64 (((hdG B).e : Nat) : Int)] 74)) := by
 refine enterM_rule 34 [(0, .agg #[pB r])] Tryd.func104 rfl (by kernel_rfl) ?_
 intro w s
 refine seqR ?_
 refine oAD [(r, .cells #[.slice a l.length c, .int .i64 p, .int .i64 e] 74)] [] 4 [] 1 (fun φ1 => [(4, .int .i64 0), (3, .int .u64 0), (2, .int .u64 0), (1, pB (φ1 0))]) (fun φ1 => [(r, .cells #[.slice a l.length c, .int .i64 p, .int .i64 e] 74), (φ1 0, .cells #[pB r] 71)]) (fun φ1 => []) s (fun φ1 => by kernel_rfl) (by kernel_rfl) ?_
 intro φ1 w1 s
 refine seqR ?_
 refine oK _ [] 2 [.o 1] 0 (fun φ2 => [(6, pB r), (5, pB (φ1 0))]) (fun φ2 => [(φ1 0)]) s (fun φ2 => by kernel_rfl) ?_
 intro φ2 w2 s
 refine callB_rule (b := (r, .cells #[.slice a l.length c, .int .i64 p, .int .i64 e] 74)) (F := []) (Hr := [(φ1 0, .cells #[pB r] 71)]) (some 7) 0 s (by kernel_rfl) (by kernel_rfl) (getK_c (k := 2) (r := r) (p := p) (B := B) hl hn9 hp hB he (by decide)) (by kernel_rfl) ?_
 rintro v4 I4 w4 b4 le4 - h4 s
 replace hl := BSl.mono le4 hl
 obtain ⟨rfl, rfl⟩ := h4
 have hB3 := next_B (d := gD 0 B 2) hB
 have hp3 := next_p (d := gD 0 B 2) hp hB (gD_le _ _ _)
 refine oKD _ [] 1 [] 0 (fun φ5 => [(2, .int .u64 (gV 0 B 2))]) (fun φ5 => []) s (fun φ5 => by kernel_rfl) (by kernel_rfl) ?_
 intro φ5 w5 s
 refine wp_seq ?_
 refine seqR ?_
 refine oK _ [] 1 [.o 1] 0 (fun φ6 => [(8, .agg #[pB r])]) (fun φ6 => [(φ1 0)]) s (fun φ6 => by kernel_rfl) ?_
 intro φ6 w6 s
 refine callB_rule (b := (r, .cells #[.slice a l.length c, .int .i64 ((p + (gD 0 B 2) : Nat) : Int), .int .i64 (gE 0 B 2)] 74)) (F := []) (Hr := [(φ1 0, .cells #[pB r] 71)]) (some 9) 0 s (by kernel_rfl) (by kernel_rfl) (failed_c (r := r) (v0 := .slice a l.length c) (v1 := .int .i64 ((p + (gD 0 B 2) : Nat) : Int)) (e := gE 0 B 2)) (by kernel_rfl) ?_
 rintro v7 I7 w7 b7 le7 - h7 s
 replace hl := BSl.mono le7 hl
 obtain ⟨rfl, rfl⟩ := h7
 refine ops_done (by kernel_rfl) ?_
 rcases Bool.eq_false_or_eq_true (decide (gE 0 B 2 ≠ 0)) with hc8 | hc8
 ·
  rw [hc8]
  refine cond_true_rule (b := true) (by kernel_rfl) rfl ?_
  refine seqR ?_
  refine oKD _ [] 3 [] 0 (fun φ9 => [(4, .int .i64 6), (3, .int .u64 0), (2, .int .u64 0)]) (fun φ9 => []) s (fun φ9 => by kernel_rfl) (by kernel_rfl) ?_
  intro φ9 w9 s
  refine wp_ret ?_
  refine ret_rule (C := []) _ [] (.tuple #[.int .u64 0, .int .u64 0, .int .i64 6]) [] [] s trivial (by kernel_rfl) ?_
  replace s := s.drop (List.Sublist.append (List.Sublist.cons₂ _ (List.Sublist.cons _ List.Sublist.slnil)) (List.Sublist.refl []))
  have e9 : hdG B = ⟨0, 0, 6, (gD 0 B 2), gE 0 B 2⟩ := by
   unfold hdG; rw [if_pos (of_decide_eq_true hc8)]
  exact ⟨_, _, _, rfl, s, (by rw [e9]; exact ⟨_, rfl, rfl, rfl, (by simp only [Nat.add_assoc])⟩)⟩
 ·
  rw [hc8]
  refine cond_false_rule (b := false) (by kernel_rfl) rfl ?_
  refine wp_skip ?_
  refine wp_seq ?_
  refine seqR ?_
  refine oK _ [] 2 [] 0 (fun φ10 => [(11, .bool (((gV 0 B 2 : Nat) : Int) != ((3 : Nat) : Int))), (10, .int .u64 (gV 0 B 2))]) (fun φ10 => []) s (fun φ10 => by kernel_rfl) ?_
  intro φ10 w10 s
  rw [nat_neq (a := (gV 0 B 2)) (b := 3)]
  refine ops_done (by kernel_rfl) ?_
  rcases Bool.eq_false_or_eq_true (decide ((gV 0 B 2) ≠ 3)) with hc11 | hc11
  ·
   rw [hc11]
   refine cond_true_rule (b := true) (by kernel_rfl) rfl ?_
   refine seqR ?_
   refine oKD _ [] 4 [] 0 (fun φ12 => [(4, .int .i64 0), (3, .int .u64 0), (2, .int .u64 (gV 0 B 2)), (12, .int .u64 (gV 0 B 2))]) (fun φ12 => []) s (fun φ12 => by kernel_rfl) (by kernel_rfl) ?_
   intro φ12 w12 s
   refine wp_ret ?_
   refine ret_rule (C := []) _ [] (.tuple #[.int .u64 (gV 0 B 2), .int .u64 0, .int .i64 0]) [] [] s trivial (by kernel_rfl) ?_
   replace s := s.drop (List.Sublist.append (List.Sublist.cons₂ _ (List.Sublist.cons _ List.Sublist.slnil)) (List.Sublist.refl []))
   have e9 : hdG B = ⟨gV 0 B 2, 0, 0, (gD 0 B 2), gE 0 B 2⟩ := by
    unfold hdG; rw [if_neg (of_decide_eq_false hc8), if_pos (of_decide_eq_true hc11)]
   exact ⟨_, _, _, rfl, s, (by rw [e9]; exact ⟨_, rfl, rfl, rfl, (by simp only [Nat.add_assoc])⟩)⟩
  ·
   rw [hc11]
   refine cond_false_rule (b := false) (by kernel_rfl) rfl ?_
   refine wp_skip ?_
   refine seqR ?_
   refine oKD _ [] 1 [] 0 (fun φ13 => [(2, .int .u64 2)]) (fun φ13 => []) s (fun φ13 => by kernel_rfl) (by kernel_rfl) ?_
   intro φ13 w13 s
   refine wp_seq ?_
   refine seqR ?_
   refine oK _ [] 2 [.o 1] 0 (fun φ14 => [(14, pB r), (13, pB (φ1 0))]) (fun φ14 => [(φ1 0)]) s (fun φ14 => by kernel_rfl) ?_
   intro φ14 w14 s
   refine callB_rule (b := (r, .cells #[.slice a l.length c, .int .i64 ((p + (gD 0 B 2) : Nat) : Int), .int .i64 (gE 0 B 2)] 74)) (F := []) (Hr := [(φ1 0, .cells #[pB r] 71)]) (some 15) 0 s (by kernel_rfl) (by kernel_rfl) (getK_c (k := 1) (r := r) (p := p + (gD 0 B 2)) (B := (B.drop (gD 0 B 2))) hl hn9 hp3 hB3 (Decidable.not_not.1 (of_decide_eq_false hc8)) (by decide)) (by kernel_rfl) ?_
   rintro v16 I16 w16 b16 le16 - h16 s
   replace hl := BSl.mono le16 hl
   obtain ⟨rfl, rfl⟩ := h16
   have hB15 := next_B (d := gD 0 (B.drop (gD 0 B 2)) 1) hB3
   have hp15 := next_p (d := gD 0 (B.drop (gD 0 B 2)) 1) hp3 hB3 (gD_le _ _ _)
   refine oK _ [] 1 [] 0 (fun φ17 => [(16, .bool (((gV 0 (B.drop (gD 0 B 2)) 1 : Nat) : Int) == ((0 : Nat) : Int)))]) (fun φ17 => []) s (fun φ17 => by kernel_rfl) ?_
   intro φ17 w17 s
   rw [nat_eql (a := (gV 0 (B.drop (gD 0 B 2)) 1)) (b := 0)]
   refine ops_done (by kernel_rfl) ?_
   rcases Bool.eq_false_or_eq_true (decide ((gV 0 (B.drop (gD 0 B 2)) 1) = 0)) with hc18 | hc18
   ·
    rw [hc18]
    refine cond_true_rule (b := true) (by kernel_rfl) rfl ?_
    refine region_rule ?_
    refine oK _ [] 2 [.o 1] 0 (fun φ19 => [(18, pB r), (17, pB (φ1 0))]) (fun φ19 => [(φ1 0)]) s (fun φ19 => by kernel_rfl) ?_
    intro φ19 w19 s
    refine callB_rule (b := (r, .cells #[.slice a l.length c, .int .i64 ((p + (gD 0 B 2) + (gD 0 (B.drop (gD 0 B 2)) 1) : Nat) : Int), .int .i64 (gE 0 (B.drop (gD 0 B 2)) 1)] 74)) (F := []) (Hr := [(φ1 0, .cells #[pB r] 71)]) (some 19) 0 s (by kernel_rfl) (by kernel_rfl) (getE_c (k := 1) (e := gE 0 (B.drop (gD 0 B 2)) 1) (r := r) (p := p + (gD 0 B 2) + (gD 0 (B.drop (gD 0 B 2)) 1)) (B := ((B.drop (gD 0 B 2)).drop (gD 0 (B.drop (gD 0 B 2)) 1))) hl hn9 hp15 hB15 (by decide)) (by kernel_rfl) ?_
    rintro v21 I21 w21 b21 le21 - h21 s
    replace hl := BSl.mono le21 hl
    obtain ⟨rfl, rfl⟩ := h21
    have hB20 := next_B (d := gD (gE 0 (B.drop (gD 0 B 2)) 1) ((B.drop (gD 0 B 2)).drop (gD 0 (B.drop (gD 0 B 2)) 1)) 1) hB15
    have hp20 := next_p (d := gD (gE 0 (B.drop (gD 0 B 2)) 1) ((B.drop (gD 0 B 2)).drop (gD 0 (B.drop (gD 0 B 2)) 1)) 1) hp15 hB15 (gD_le _ _ _)
    refine oKD _ [] 1 [] 0 (fun φ22 => [(2, .int .u64 ((gV (gE 0 (B.drop (gD 0 B 2)) 1) ((B.drop (gD 0 B 2)).drop (gD 0 (B.drop (gD 0 B 2)) 1)) 1 : Nat) : Int))]) (fun φ22 => []) s (fun φ22 => by kernel_rfl) (by kernel_rfl) ?_
    intro φ22 w22 s
    refine seqR ?_
    refine oK _ [] 1 [.o 1] 0 (fun φ23 => [(21, .agg #[pB r])]) (fun φ23 => [(φ1 0)]) s (fun φ23 => by kernel_rfl) ?_
    intro φ23 w23 s
    refine callB_rule (b := (r, .cells #[.slice a l.length c, .int .i64 ((p + (gD 0 B 2) + (gD 0 (B.drop (gD 0 B 2)) 1) + (gD (gE 0 (B.drop (gD 0 B 2)) 1) ((B.drop (gD 0 B 2)).drop (gD 0 (B.drop (gD 0 B 2)) 1)) 1) : Nat) : Int), .int .i64 ((gE (gE 0 (B.drop (gD 0 B 2)) 1) ((B.drop (gD 0 B 2)).drop (gD 0 (B.drop (gD 0 B 2)) 1)) 1 : Nat) : Int)] 74)) (F := []) (Hr := [(φ1 0, .cells #[pB r] 71)]) (some 22) 0 s (by kernel_rfl) (by kernel_rfl) (countE_c (e := gE (gE 0 (B.drop (gD 0 B 2)) 1) ((B.drop (gD 0 B 2)).drop (gD 0 (B.drop (gD 0 B 2)) 1)) 1) (r := r) (p := p + (gD 0 B 2) + (gD 0 (B.drop (gD 0 B 2)) 1) + (gD (gE 0 (B.drop (gD 0 B 2)) 1) ((B.drop (gD 0 B 2)).drop (gD 0 (B.drop (gD 0 B 2)) 1)) 1)) (B := (((B.drop (gD 0 B 2)).drop (gD 0 (B.drop (gD 0 B 2)) 1)).drop (gD (gE 0 (B.drop (gD 0 B 2)) 1) ((B.drop (gD 0 B 2)).drop (gD 0 (B.drop (gD 0 B 2)) 1)) 1))) hl hn9 hp20 hB20) (by kernel_rfl) ?_
    rintro v25 I25 w25 b25 le25 - h25 s
    replace hl := BSl.mono le25 hl
    obtain ⟨rfl, rfl⟩ := h25
    have hB24 := next_B (d := (cnG (gE (gE 0 (B.drop (gD 0 B 2)) 1) ((B.drop (gD 0 B 2)).drop (gD 0 (B.drop (gD 0 B 2)) 1)) 1) (((B.drop (gD 0 B 2)).drop (gD 0 (B.drop (gD 0 B 2)) 1)).drop (gD (gE 0 (B.drop (gD 0 B 2)) 1) ((B.drop (gD 0 B 2)).drop (gD 0 (B.drop (gD 0 B 2)) 1)) 1))).d) hB20
    have hp24 := next_p (d := (cnG (gE (gE 0 (B.drop (gD 0 B 2)) 1) ((B.drop (gD 0 B 2)).drop (gD 0 (B.drop (gD 0 B 2)) 1)) 1) (((B.drop (gD 0 B 2)).drop (gD 0 (B.drop (gD 0 B 2)) 1)).drop (gD (gE 0 (B.drop (gD 0 B 2)) 1) ((B.drop (gD 0 B 2)).drop (gD 0 (B.drop (gD 0 B 2)) 1)) 1))).d) hp20 hB20 (cn_d _ _)
    refine oKD _ [] 5 [] 0 (fun φ26 => [(4, .int .i64 (((cnG (gE (gE 0 (B.drop (gD 0 B 2)) 1) ((B.drop (gD 0 B 2)).drop (gD 0 (B.drop (gD 0 B 2)) 1)) 1) (((B.drop (gD 0 B 2)).drop (gD 0 (B.drop (gD 0 B 2)) 1)).drop (gD (gE 0 (B.drop (gD 0 B 2)) 1) ((B.drop (gD 0 B 2)).drop (gD 0 (B.drop (gD 0 B 2)) 1)) 1))).er : Nat) : Int)), (3, .int .u64 (((cnG (gE (gE 0 (B.drop (gD 0 B 2)) 1) ((B.drop (gD 0 B 2)).drop (gD 0 (B.drop (gD 0 B 2)) 1)) 1) (((B.drop (gD 0 B 2)).drop (gD 0 (B.drop (gD 0 B 2)) 1)).drop (gD (gE 0 (B.drop (gD 0 B 2)) 1) ((B.drop (gD 0 B 2)).drop (gD 0 (B.drop (gD 0 B 2)) 1)) 1))).t : Nat) : Int)), (24, .int .i64 (((cnG (gE (gE 0 (B.drop (gD 0 B 2)) 1) ((B.drop (gD 0 B 2)).drop (gD 0 (B.drop (gD 0 B 2)) 1)) 1) (((B.drop (gD 0 B 2)).drop (gD 0 (B.drop (gD 0 B 2)) 1)).drop (gD (gE 0 (B.drop (gD 0 B 2)) 1) ((B.drop (gD 0 B 2)).drop (gD 0 (B.drop (gD 0 B 2)) 1)) 1))).er : Nat) : Int)), (23, .int .u64 (((cnG (gE (gE 0 (B.drop (gD 0 B 2)) 1) ((B.drop (gD 0 B 2)).drop (gD 0 (B.drop (gD 0 B 2)) 1)) 1) (((B.drop (gD 0 B 2)).drop (gD 0 (B.drop (gD 0 B 2)) 1)).drop (gD (gE 0 (B.drop (gD 0 B 2)) 1) ((B.drop (gD 0 B 2)).drop (gD 0 (B.drop (gD 0 B 2)) 1)) 1))).t : Nat) : Int)), (20, .tuple #[.int .u64 (((cnG (gE (gE 0 (B.drop (gD 0 B 2)) 1) ((B.drop (gD 0 B 2)).drop (gD 0 (B.drop (gD 0 B 2)) 1)) 1) (((B.drop (gD 0 B 2)).drop (gD 0 (B.drop (gD 0 B 2)) 1)).drop (gD (gE 0 (B.drop (gD 0 B 2)) 1) ((B.drop (gD 0 B 2)).drop (gD 0 (B.drop (gD 0 B 2)) 1)) 1))).t : Nat) : Int), .int .i64 (((cnG (gE (gE 0 (B.drop (gD 0 B 2)) 1) ((B.drop (gD 0 B 2)).drop (gD 0 (B.drop (gD 0 B 2)) 1)) 1) (((B.drop (gD 0 B 2)).drop (gD 0 (B.drop (gD 0 B 2)) 1)).drop (gD (gE 0 (B.drop (gD 0 B 2)) 1) ((B.drop (gD 0 B 2)).drop (gD 0 (B.drop (gD 0 B 2)) 1)) 1))).er : Nat) : Int)])]) (fun φ26 => []) s (fun φ26 => by kernel_rfl) (by kernel_rfl) ?_
    intro φ26 w26 s
    refine wp_seq ?_
    refine seqR ?_
    refine oK _ [] 3 [] 0 (fun φ27 => [(27, .bool ((((cnG (gE (gE 0 (B.drop (gD 0 B 2)) 1) ((B.drop (gD 0 B 2)).drop (gD 0 (B.drop (gD 0 B 2)) 1)) 1) (((B.drop (gD 0 B 2)).drop (gD 0 (B.drop (gD 0 B 2)) 1)).drop (gD (gE 0 (B.drop (gD 0 B 2)) 1) ((B.drop (gD 0 B 2)).drop (gD 0 (B.drop (gD 0 B 2)) 1)) 1))).er : Nat) : Int) == ((0 : Nat) : Int))), (26, .bool ((((cnG (gE (gE 0 (B.drop (gD 0 B 2)) 1) ((B.drop (gD 0 B 2)).drop (gD 0 (B.drop (gD 0 B 2)) 1)) 1) (((B.drop (gD 0 B 2)).drop (gD 0 (B.drop (gD 0 B 2)) 1)).drop (gD (gE 0 (B.drop (gD 0 B 2)) 1) ((B.drop (gD 0 B 2)).drop (gD 0 (B.drop (gD 0 B 2)) 1)) 1))).er : Nat) : Int) == ((0 : Nat) : Int))), (25, .int .i64 (((cnG (gE (gE 0 (B.drop (gD 0 B 2)) 1) ((B.drop (gD 0 B 2)).drop (gD 0 (B.drop (gD 0 B 2)) 1)) 1) (((B.drop (gD 0 B 2)).drop (gD 0 (B.drop (gD 0 B 2)) 1)).drop (gD (gE 0 (B.drop (gD 0 B 2)) 1) ((B.drop (gD 0 B 2)).drop (gD 0 (B.drop (gD 0 B 2)) 1)) 1))).er : Nat) : Int))]) (fun φ27 => []) s (fun φ27 => by kernel_rfl) ?_
    intro φ27 w27 s
    rw [nat_eql (a := ((cnG (gE (gE 0 (B.drop (gD 0 B 2)) 1) ((B.drop (gD 0 B 2)).drop (gD 0 (B.drop (gD 0 B 2)) 1)) 1) (((B.drop (gD 0 B 2)).drop (gD 0 (B.drop (gD 0 B 2)) 1)).drop (gD (gE 0 (B.drop (gD 0 B 2)) 1) ((B.drop (gD 0 B 2)).drop (gD 0 (B.drop (gD 0 B 2)) 1)) 1))).er)) (b := 0)]
    rcases Bool.eq_false_or_eq_true (decide (((cnG (gE (gE 0 (B.drop (gD 0 B 2)) 1) ((B.drop (gD 0 B 2)).drop (gD 0 (B.drop (gD 0 B 2)) 1)) 1) (((B.drop (gD 0 B 2)).drop (gD 0 (B.drop (gD 0 B 2)) 1)).drop (gD (gE 0 (B.drop (gD 0 B 2)) 1) ((B.drop (gD 0 B 2)).drop (gD 0 (B.drop (gD 0 B 2)) 1)) 1))).er) = 0)) with hc28 | hc28
    ·
     rw [hc28]
     refine oK _ [] 3 [] 0 (fun φ29 => [(30, .bool ((((cnG (gE (gE 0 (B.drop (gD 0 B 2)) 1) ((B.drop (gD 0 B 2)).drop (gD 0 (B.drop (gD 0 B 2)) 1)) 1) (((B.drop (gD 0 B 2)).drop (gD 0 (B.drop (gD 0 B 2)) 1)).drop (gD (gE 0 (B.drop (gD 0 B 2)) 1) ((B.drop (gD 0 B 2)).drop (gD 0 (B.drop (gD 0 B 2)) 1)) 1))).t : Nat) : Int) == ((0 : Nat) : Int))), (29, .bool ((((cnG (gE (gE 0 (B.drop (gD 0 B 2)) 1) ((B.drop (gD 0 B 2)).drop (gD 0 (B.drop (gD 0 B 2)) 1)) 1) (((B.drop (gD 0 B 2)).drop (gD 0 (B.drop (gD 0 B 2)) 1)).drop (gD (gE 0 (B.drop (gD 0 B 2)) 1) ((B.drop (gD 0 B 2)).drop (gD 0 (B.drop (gD 0 B 2)) 1)) 1))).t : Nat) : Int) == ((0 : Nat) : Int))), (28, .int .u64 (((cnG (gE (gE 0 (B.drop (gD 0 B 2)) 1) ((B.drop (gD 0 B 2)).drop (gD 0 (B.drop (gD 0 B 2)) 1)) 1) (((B.drop (gD 0 B 2)).drop (gD 0 (B.drop (gD 0 B 2)) 1)).drop (gD (gE 0 (B.drop (gD 0 B 2)) 1) ((B.drop (gD 0 B 2)).drop (gD 0 (B.drop (gD 0 B 2)) 1)) 1))).t : Nat) : Int))]) (fun φ29 => []) s (fun φ29 => by kernel_rfl) ?_
     intro φ29 w29 s
     rw [nat_eql (a := ((cnG (gE (gE 0 (B.drop (gD 0 B 2)) 1) ((B.drop (gD 0 B 2)).drop (gD 0 (B.drop (gD 0 B 2)) 1)) 1) (((B.drop (gD 0 B 2)).drop (gD 0 (B.drop (gD 0 B 2)) 1)).drop (gD (gE 0 (B.drop (gD 0 B 2)) 1) ((B.drop (gD 0 B 2)).drop (gD 0 (B.drop (gD 0 B 2)) 1)) 1))).t)) (b := 0)]
     refine ops_done (by kernel_rfl) ?_
     rcases Bool.eq_false_or_eq_true (decide (((cnG (gE (gE 0 (B.drop (gD 0 B 2)) 1) ((B.drop (gD 0 B 2)).drop (gD 0 (B.drop (gD 0 B 2)) 1)) 1) (((B.drop (gD 0 B 2)).drop (gD 0 (B.drop (gD 0 B 2)) 1)).drop (gD (gE 0 (B.drop (gD 0 B 2)) 1) ((B.drop (gD 0 B 2)).drop (gD 0 (B.drop (gD 0 B 2)) 1)) 1))).t) = 0)) with hc30 | hc30
     ·
      rw [hc30]
      refine cond_true_rule (b := true) (by kernel_rfl) rfl ?_
      refine region_rule ?_
      refine oKD _ [] 1 [] 0 (fun φ31 => [(4, .int .i64 6)]) (fun φ31 => []) s (fun φ31 => by kernel_rfl) (by kernel_rfl) ?_
      intro φ31 w31 s
      refine seqR ?_
      refine oKD _ [] 6 [] 0 (fun φ32 => [(4, .int .i64 6), (3, .int .u64 (((cnG (gE (gE 0 (B.drop (gD 0 B 2)) 1) ((B.drop (gD 0 B 2)).drop (gD 0 (B.drop (gD 0 B 2)) 1)) 1) (((B.drop (gD 0 B 2)).drop (gD 0 (B.drop (gD 0 B 2)) 1)).drop (gD (gE 0 (B.drop (gD 0 B 2)) 1) ((B.drop (gD 0 B 2)).drop (gD 0 (B.drop (gD 0 B 2)) 1)) 1))).t : Nat) : Int)), (2, .int .u64 ((gV (gE 0 (B.drop (gD 0 B 2)) 1) ((B.drop (gD 0 B 2)).drop (gD 0 (B.drop (gD 0 B 2)) 1)) 1 : Nat) : Int)), (33, .int .i64 6), (32, .int .u64 (((cnG (gE (gE 0 (B.drop (gD 0 B 2)) 1) ((B.drop (gD 0 B 2)).drop (gD 0 (B.drop (gD 0 B 2)) 1)) 1) (((B.drop (gD 0 B 2)).drop (gD 0 (B.drop (gD 0 B 2)) 1)).drop (gD (gE 0 (B.drop (gD 0 B 2)) 1) ((B.drop (gD 0 B 2)).drop (gD 0 (B.drop (gD 0 B 2)) 1)) 1))).t : Nat) : Int)), (31, .int .u64 ((gV (gE 0 (B.drop (gD 0 B 2)) 1) ((B.drop (gD 0 B 2)).drop (gD 0 (B.drop (gD 0 B 2)) 1)) 1 : Nat) : Int))]) (fun φ32 => []) s (fun φ32 => by kernel_rfl) (by kernel_rfl) ?_
      intro φ32 w32 s
      refine wp_ret ?_
      refine ret_rule (C := []) _ [] (.tuple #[.int .u64 ((gV (gE 0 (B.drop (gD 0 B 2)) 1) ((B.drop (gD 0 B 2)).drop (gD 0 (B.drop (gD 0 B 2)) 1)) 1 : Nat) : Int), .int .u64 (((cnG (gE (gE 0 (B.drop (gD 0 B 2)) 1) ((B.drop (gD 0 B 2)).drop (gD 0 (B.drop (gD 0 B 2)) 1)) 1) (((B.drop (gD 0 B 2)).drop (gD 0 (B.drop (gD 0 B 2)) 1)).drop (gD (gE 0 (B.drop (gD 0 B 2)) 1) ((B.drop (gD 0 B 2)).drop (gD 0 (B.drop (gD 0 B 2)) 1)) 1))).t : Nat) : Int), .int .i64 6]) [] [] s trivial (by kernel_rfl) ?_
      replace s := s.drop (List.Sublist.append (List.Sublist.cons₂ _ (List.Sublist.cons _ List.Sublist.slnil)) (List.Sublist.refl []))
      have e9 : hdG B = ⟨gV (gE 0 (B.drop (gD 0 B 2)) 1) ((B.drop (gD 0 B 2)).drop (gD 0 (B.drop (gD 0 B 2)) 1)) 1, (cnG (gE (gE 0 (B.drop (gD 0 B 2)) 1) ((B.drop (gD 0 B 2)).drop (gD 0 (B.drop (gD 0 B 2)) 1)) 1) (((B.drop (gD 0 B 2)).drop (gD 0 (B.drop (gD 0 B 2)) 1)).drop (gD (gE 0 (B.drop (gD 0 B 2)) 1) ((B.drop (gD 0 B 2)).drop (gD 0 (B.drop (gD 0 B 2)) 1)) 1))).t, 6, (gD 0 B 2) + (gD 0 (B.drop (gD 0 B 2)) 1) + (gD (gE 0 (B.drop (gD 0 B 2)) 1) ((B.drop (gD 0 B 2)).drop (gD 0 (B.drop (gD 0 B 2)) 1)) 1) + ((cnG (gE (gE 0 (B.drop (gD 0 B 2)) 1) ((B.drop (gD 0 B 2)).drop (gD 0 (B.drop (gD 0 B 2)) 1)) 1) (((B.drop (gD 0 B 2)).drop (gD 0 (B.drop (gD 0 B 2)) 1)).drop (gD (gE 0 (B.drop (gD 0 B 2)) 1) ((B.drop (gD 0 B 2)).drop (gD 0 (B.drop (gD 0 B 2)) 1)) 1))).d), (cnG (gE (gE 0 (B.drop (gD 0 B 2)) 1) ((B.drop (gD 0 B 2)).drop (gD 0 (B.drop (gD 0 B 2)) 1)) 1) (((B.drop (gD 0 B 2)).drop (gD 0 (B.drop (gD 0 B 2)) 1)).drop (gD (gE 0 (B.drop (gD 0 B 2)) 1) ((B.drop (gD 0 B 2)).drop (gD 0 (B.drop (gD 0 B 2)) 1)) 1))).e⟩ := by
       unfold hdG; rw [if_neg (of_decide_eq_false hc8), if_neg (of_decide_eq_false hc11), if_pos (of_decide_eq_true hc18)]
       unfold hdF
       rw [if_pos (of_decide_eq_true hc28), if_pos (of_decide_eq_true hc30)]
      exact ⟨_, _, _, rfl, s, (by rw [e9]; exact ⟨_, rfl, rfl, rfl, (by simp only [Nat.add_assoc])⟩)⟩
     ·
      rw [hc30]
      refine cond_false_rule (b := false) (by kernel_rfl) rfl ?_
      refine wp_skip ?_
      refine seqR ?_
      refine oKD _ [] 6 [] 0 (fun φ33 => [(4, .int .i64 (((cnG (gE (gE 0 (B.drop (gD 0 B 2)) 1) ((B.drop (gD 0 B 2)).drop (gD 0 (B.drop (gD 0 B 2)) 1)) 1) (((B.drop (gD 0 B 2)).drop (gD 0 (B.drop (gD 0 B 2)) 1)).drop (gD (gE 0 (B.drop (gD 0 B 2)) 1) ((B.drop (gD 0 B 2)).drop (gD 0 (B.drop (gD 0 B 2)) 1)) 1))).er : Nat) : Int)), (3, .int .u64 (((cnG (gE (gE 0 (B.drop (gD 0 B 2)) 1) ((B.drop (gD 0 B 2)).drop (gD 0 (B.drop (gD 0 B 2)) 1)) 1) (((B.drop (gD 0 B 2)).drop (gD 0 (B.drop (gD 0 B 2)) 1)).drop (gD (gE 0 (B.drop (gD 0 B 2)) 1) ((B.drop (gD 0 B 2)).drop (gD 0 (B.drop (gD 0 B 2)) 1)) 1))).t : Nat) : Int)), (2, .int .u64 ((gV (gE 0 (B.drop (gD 0 B 2)) 1) ((B.drop (gD 0 B 2)).drop (gD 0 (B.drop (gD 0 B 2)) 1)) 1 : Nat) : Int)), (33, .int .i64 (((cnG (gE (gE 0 (B.drop (gD 0 B 2)) 1) ((B.drop (gD 0 B 2)).drop (gD 0 (B.drop (gD 0 B 2)) 1)) 1) (((B.drop (gD 0 B 2)).drop (gD 0 (B.drop (gD 0 B 2)) 1)).drop (gD (gE 0 (B.drop (gD 0 B 2)) 1) ((B.drop (gD 0 B 2)).drop (gD 0 (B.drop (gD 0 B 2)) 1)) 1))).er : Nat) : Int)), (32, .int .u64 (((cnG (gE (gE 0 (B.drop (gD 0 B 2)) 1) ((B.drop (gD 0 B 2)).drop (gD 0 (B.drop (gD 0 B 2)) 1)) 1) (((B.drop (gD 0 B 2)).drop (gD 0 (B.drop (gD 0 B 2)) 1)).drop (gD (gE 0 (B.drop (gD 0 B 2)) 1) ((B.drop (gD 0 B 2)).drop (gD 0 (B.drop (gD 0 B 2)) 1)) 1))).t : Nat) : Int)), (31, .int .u64 ((gV (gE 0 (B.drop (gD 0 B 2)) 1) ((B.drop (gD 0 B 2)).drop (gD 0 (B.drop (gD 0 B 2)) 1)) 1 : Nat) : Int))]) (fun φ33 => []) s (fun φ33 => by kernel_rfl) (by kernel_rfl) ?_
      intro φ33 w33 s
      refine wp_ret ?_
      refine ret_rule (C := []) _ [] (.tuple #[.int .u64 ((gV (gE 0 (B.drop (gD 0 B 2)) 1) ((B.drop (gD 0 B 2)).drop (gD 0 (B.drop (gD 0 B 2)) 1)) 1 : Nat) : Int), .int .u64 (((cnG (gE (gE 0 (B.drop (gD 0 B 2)) 1) ((B.drop (gD 0 B 2)).drop (gD 0 (B.drop (gD 0 B 2)) 1)) 1) (((B.drop (gD 0 B 2)).drop (gD 0 (B.drop (gD 0 B 2)) 1)).drop (gD (gE 0 (B.drop (gD 0 B 2)) 1) ((B.drop (gD 0 B 2)).drop (gD 0 (B.drop (gD 0 B 2)) 1)) 1))).t : Nat) : Int), .int .i64 (((cnG (gE (gE 0 (B.drop (gD 0 B 2)) 1) ((B.drop (gD 0 B 2)).drop (gD 0 (B.drop (gD 0 B 2)) 1)) 1) (((B.drop (gD 0 B 2)).drop (gD 0 (B.drop (gD 0 B 2)) 1)).drop (gD (gE 0 (B.drop (gD 0 B 2)) 1) ((B.drop (gD 0 B 2)).drop (gD 0 (B.drop (gD 0 B 2)) 1)) 1))).er : Nat) : Int)]) [] [] s trivial (by kernel_rfl) ?_
      replace s := s.drop (List.Sublist.append (List.Sublist.cons₂ _ (List.Sublist.cons _ List.Sublist.slnil)) (List.Sublist.refl []))
      have e9 : hdG B = ⟨gV (gE 0 (B.drop (gD 0 B 2)) 1) ((B.drop (gD 0 B 2)).drop (gD 0 (B.drop (gD 0 B 2)) 1)) 1, (cnG (gE (gE 0 (B.drop (gD 0 B 2)) 1) ((B.drop (gD 0 B 2)).drop (gD 0 (B.drop (gD 0 B 2)) 1)) 1) (((B.drop (gD 0 B 2)).drop (gD 0 (B.drop (gD 0 B 2)) 1)).drop (gD (gE 0 (B.drop (gD 0 B 2)) 1) ((B.drop (gD 0 B 2)).drop (gD 0 (B.drop (gD 0 B 2)) 1)) 1))).t, (cnG (gE (gE 0 (B.drop (gD 0 B 2)) 1) ((B.drop (gD 0 B 2)).drop (gD 0 (B.drop (gD 0 B 2)) 1)) 1) (((B.drop (gD 0 B 2)).drop (gD 0 (B.drop (gD 0 B 2)) 1)).drop (gD (gE 0 (B.drop (gD 0 B 2)) 1) ((B.drop (gD 0 B 2)).drop (gD 0 (B.drop (gD 0 B 2)) 1)) 1))).er, (gD 0 B 2) + (gD 0 (B.drop (gD 0 B 2)) 1) + (gD (gE 0 (B.drop (gD 0 B 2)) 1) ((B.drop (gD 0 B 2)).drop (gD 0 (B.drop (gD 0 B 2)) 1)) 1) + ((cnG (gE (gE 0 (B.drop (gD 0 B 2)) 1) ((B.drop (gD 0 B 2)).drop (gD 0 (B.drop (gD 0 B 2)) 1)) 1) (((B.drop (gD 0 B 2)).drop (gD 0 (B.drop (gD 0 B 2)) 1)).drop (gD (gE 0 (B.drop (gD 0 B 2)) 1) ((B.drop (gD 0 B 2)).drop (gD 0 (B.drop (gD 0 B 2)) 1)) 1))).d), (cnG (gE (gE 0 (B.drop (gD 0 B 2)) 1) ((B.drop (gD 0 B 2)).drop (gD 0 (B.drop (gD 0 B 2)) 1)) 1) (((B.drop (gD 0 B 2)).drop (gD 0 (B.drop (gD 0 B 2)) 1)).drop (gD (gE 0 (B.drop (gD 0 B 2)) 1) ((B.drop (gD 0 B 2)).drop (gD 0 (B.drop (gD 0 B 2)) 1)) 1))).e⟩ := by
       unfold hdG; rw [if_neg (of_decide_eq_false hc8), if_neg (of_decide_eq_false hc11), if_pos (of_decide_eq_true hc18)]
       unfold hdF
       rw [if_pos (of_decide_eq_true hc28), if_neg (of_decide_eq_false hc30)]
      exact ⟨_, _, _, rfl, s, (by rw [e9]; exact ⟨_, rfl, rfl, rfl, (by simp only [Nat.add_assoc])⟩)⟩
    ·
     rw [hc28]
     refine oKD _ [] 3 [] 0 (fun φ34 => [(30, .bool false), (29, undef), (28, undef)]) (fun φ34 => []) s (fun φ34 => by kernel_rfl) (by kernel_rfl) ?_
     intro φ34 w34 s
     refine cond_false_rule (b := false) (by kernel_rfl) rfl ?_
     refine wp_skip ?_
     refine seqR ?_
     refine oKD _ [] 6 [] 0 (fun φ35 => [(4, .int .i64 (((cnG (gE (gE 0 (B.drop (gD 0 B 2)) 1) ((B.drop (gD 0 B 2)).drop (gD 0 (B.drop (gD 0 B 2)) 1)) 1) (((B.drop (gD 0 B 2)).drop (gD 0 (B.drop (gD 0 B 2)) 1)).drop (gD (gE 0 (B.drop (gD 0 B 2)) 1) ((B.drop (gD 0 B 2)).drop (gD 0 (B.drop (gD 0 B 2)) 1)) 1))).er : Nat) : Int)), (3, .int .u64 (((cnG (gE (gE 0 (B.drop (gD 0 B 2)) 1) ((B.drop (gD 0 B 2)).drop (gD 0 (B.drop (gD 0 B 2)) 1)) 1) (((B.drop (gD 0 B 2)).drop (gD 0 (B.drop (gD 0 B 2)) 1)).drop (gD (gE 0 (B.drop (gD 0 B 2)) 1) ((B.drop (gD 0 B 2)).drop (gD 0 (B.drop (gD 0 B 2)) 1)) 1))).t : Nat) : Int)), (2, .int .u64 ((gV (gE 0 (B.drop (gD 0 B 2)) 1) ((B.drop (gD 0 B 2)).drop (gD 0 (B.drop (gD 0 B 2)) 1)) 1 : Nat) : Int)), (33, .int .i64 (((cnG (gE (gE 0 (B.drop (gD 0 B 2)) 1) ((B.drop (gD 0 B 2)).drop (gD 0 (B.drop (gD 0 B 2)) 1)) 1) (((B.drop (gD 0 B 2)).drop (gD 0 (B.drop (gD 0 B 2)) 1)).drop (gD (gE 0 (B.drop (gD 0 B 2)) 1) ((B.drop (gD 0 B 2)).drop (gD 0 (B.drop (gD 0 B 2)) 1)) 1))).er : Nat) : Int)), (32, .int .u64 (((cnG (gE (gE 0 (B.drop (gD 0 B 2)) 1) ((B.drop (gD 0 B 2)).drop (gD 0 (B.drop (gD 0 B 2)) 1)) 1) (((B.drop (gD 0 B 2)).drop (gD 0 (B.drop (gD 0 B 2)) 1)).drop (gD (gE 0 (B.drop (gD 0 B 2)) 1) ((B.drop (gD 0 B 2)).drop (gD 0 (B.drop (gD 0 B 2)) 1)) 1))).t : Nat) : Int)), (31, .int .u64 ((gV (gE 0 (B.drop (gD 0 B 2)) 1) ((B.drop (gD 0 B 2)).drop (gD 0 (B.drop (gD 0 B 2)) 1)) 1 : Nat) : Int))]) (fun φ35 => []) s (fun φ35 => by kernel_rfl) (by kernel_rfl) ?_
     intro φ35 w35 s
     refine wp_ret ?_
     refine ret_rule (C := []) _ [] (.tuple #[.int .u64 ((gV (gE 0 (B.drop (gD 0 B 2)) 1) ((B.drop (gD 0 B 2)).drop (gD 0 (B.drop (gD 0 B 2)) 1)) 1 : Nat) : Int), .int .u64 (((cnG (gE (gE 0 (B.drop (gD 0 B 2)) 1) ((B.drop (gD 0 B 2)).drop (gD 0 (B.drop (gD 0 B 2)) 1)) 1) (((B.drop (gD 0 B 2)).drop (gD 0 (B.drop (gD 0 B 2)) 1)).drop (gD (gE 0 (B.drop (gD 0 B 2)) 1) ((B.drop (gD 0 B 2)).drop (gD 0 (B.drop (gD 0 B 2)) 1)) 1))).t : Nat) : Int), .int .i64 (((cnG (gE (gE 0 (B.drop (gD 0 B 2)) 1) ((B.drop (gD 0 B 2)).drop (gD 0 (B.drop (gD 0 B 2)) 1)) 1) (((B.drop (gD 0 B 2)).drop (gD 0 (B.drop (gD 0 B 2)) 1)).drop (gD (gE 0 (B.drop (gD 0 B 2)) 1) ((B.drop (gD 0 B 2)).drop (gD 0 (B.drop (gD 0 B 2)) 1)) 1))).er : Nat) : Int)]) [] [] s trivial (by kernel_rfl) ?_
     replace s := s.drop (List.Sublist.append (List.Sublist.cons₂ _ (List.Sublist.cons _ List.Sublist.slnil)) (List.Sublist.refl []))
     have e9 : hdG B = ⟨gV (gE 0 (B.drop (gD 0 B 2)) 1) ((B.drop (gD 0 B 2)).drop (gD 0 (B.drop (gD 0 B 2)) 1)) 1, (cnG (gE (gE 0 (B.drop (gD 0 B 2)) 1) ((B.drop (gD 0 B 2)).drop (gD 0 (B.drop (gD 0 B 2)) 1)) 1) (((B.drop (gD 0 B 2)).drop (gD 0 (B.drop (gD 0 B 2)) 1)).drop (gD (gE 0 (B.drop (gD 0 B 2)) 1) ((B.drop (gD 0 B 2)).drop (gD 0 (B.drop (gD 0 B 2)) 1)) 1))).t, (cnG (gE (gE 0 (B.drop (gD 0 B 2)) 1) ((B.drop (gD 0 B 2)).drop (gD 0 (B.drop (gD 0 B 2)) 1)) 1) (((B.drop (gD 0 B 2)).drop (gD 0 (B.drop (gD 0 B 2)) 1)).drop (gD (gE 0 (B.drop (gD 0 B 2)) 1) ((B.drop (gD 0 B 2)).drop (gD 0 (B.drop (gD 0 B 2)) 1)) 1))).er, (gD 0 B 2) + (gD 0 (B.drop (gD 0 B 2)) 1) + (gD (gE 0 (B.drop (gD 0 B 2)) 1) ((B.drop (gD 0 B 2)).drop (gD 0 (B.drop (gD 0 B 2)) 1)) 1) + ((cnG (gE (gE 0 (B.drop (gD 0 B 2)) 1) ((B.drop (gD 0 B 2)).drop (gD 0 (B.drop (gD 0 B 2)) 1)) 1) (((B.drop (gD 0 B 2)).drop (gD 0 (B.drop (gD 0 B 2)) 1)).drop (gD (gE 0 (B.drop (gD 0 B 2)) 1) ((B.drop (gD 0 B 2)).drop (gD 0 (B.drop (gD 0 B 2)) 1)) 1))).d), (cnG (gE (gE 0 (B.drop (gD 0 B 2)) 1) ((B.drop (gD 0 B 2)).drop (gD 0 (B.drop (gD 0 B 2)) 1)) 1) (((B.drop (gD 0 B 2)).drop (gD 0 (B.drop (gD 0 B 2)) 1)).drop (gD (gE 0 (B.drop (gD 0 B 2)) 1) ((B.drop (gD 0 B 2)).drop (gD 0 (B.drop (gD 0 B 2)) 1)) 1))).e⟩ := by
      unfold hdG; rw [if_neg (of_decide_eq_false hc8), if_neg (of_decide_eq_false hc11), if_pos (of_decide_eq_true hc18)]
      unfold hdF
      rw [if_neg (of_decide_eq_false hc28)]
     exact ⟨_, _, _, rfl, s, (by rw [e9]; exact ⟨_, rfl, rfl, rfl, (by simp only [Nat.add_assoc])⟩)⟩
   ·
    rw [hc18]
    refine cond_false_rule (b := false) (by kernel_rfl) rfl ?_
    refine wp_skip ?_
    refine seqR ?_
    refine oK _ [] 1 [.o 1] 0 (fun φ36 => [(21, .agg #[pB r])]) (fun φ36 => [(φ1 0)]) s (fun φ36 => by kernel_rfl) ?_
    intro φ36 w36 s
    refine callB_rule (b := (r, .cells #[.slice a l.length c, .int .i64 ((p + (gD 0 B 2) + (gD 0 (B.drop (gD 0 B 2)) 1) : Nat) : Int), .int .i64 (gE 0 (B.drop (gD 0 B 2)) 1)] 74)) (F := []) (Hr := [(φ1 0, .cells #[pB r] 71)]) (some 22) 0 s (by kernel_rfl) (by kernel_rfl) (countE_c (e := gE 0 (B.drop (gD 0 B 2)) 1) (r := r) (p := p + (gD 0 B 2) + (gD 0 (B.drop (gD 0 B 2)) 1)) (B := ((B.drop (gD 0 B 2)).drop (gD 0 (B.drop (gD 0 B 2)) 1))) hl hn9 hp15 hB15) (by kernel_rfl) ?_
    rintro v38 I38 w38 b38 le38 - h38 s
    obtain ⟨rfl, rfl⟩ := h38
    have hB37 := next_B (d := (cnG (gE 0 (B.drop (gD 0 B 2)) 1) ((B.drop (gD 0 B 2)).drop (gD 0 (B.drop (gD 0 B 2)) 1))).d) hB15
    have hp37 := next_p (d := (cnG (gE 0 (B.drop (gD 0 B 2)) 1) ((B.drop (gD 0 B 2)).drop (gD 0 (B.drop (gD 0 B 2)) 1))).d) hp15 hB15 (cn_d _ _)
    refine oKD _ [] 5 [] 0 (fun φ39 => [(4, .int .i64 (((cnG (gE 0 (B.drop (gD 0 B 2)) 1) ((B.drop (gD 0 B 2)).drop (gD 0 (B.drop (gD 0 B 2)) 1))).er : Nat) : Int)), (3, .int .u64 (((cnG (gE 0 (B.drop (gD 0 B 2)) 1) ((B.drop (gD 0 B 2)).drop (gD 0 (B.drop (gD 0 B 2)) 1))).t : Nat) : Int)), (24, .int .i64 (((cnG (gE 0 (B.drop (gD 0 B 2)) 1) ((B.drop (gD 0 B 2)).drop (gD 0 (B.drop (gD 0 B 2)) 1))).er : Nat) : Int)), (23, .int .u64 (((cnG (gE 0 (B.drop (gD 0 B 2)) 1) ((B.drop (gD 0 B 2)).drop (gD 0 (B.drop (gD 0 B 2)) 1))).t : Nat) : Int)), (20, .tuple #[.int .u64 (((cnG (gE 0 (B.drop (gD 0 B 2)) 1) ((B.drop (gD 0 B 2)).drop (gD 0 (B.drop (gD 0 B 2)) 1))).t : Nat) : Int), .int .i64 (((cnG (gE 0 (B.drop (gD 0 B 2)) 1) ((B.drop (gD 0 B 2)).drop (gD 0 (B.drop (gD 0 B 2)) 1))).er : Nat) : Int)])]) (fun φ39 => []) s (fun φ39 => by kernel_rfl) (by kernel_rfl) ?_
    intro φ39 w39 s
    refine wp_seq ?_
    refine seqR ?_
    refine oK _ [] 3 [] 0 (fun φ40 => [(27, .bool ((((cnG (gE 0 (B.drop (gD 0 B 2)) 1) ((B.drop (gD 0 B 2)).drop (gD 0 (B.drop (gD 0 B 2)) 1))).er : Nat) : Int) == ((0 : Nat) : Int))), (26, .bool ((((cnG (gE 0 (B.drop (gD 0 B 2)) 1) ((B.drop (gD 0 B 2)).drop (gD 0 (B.drop (gD 0 B 2)) 1))).er : Nat) : Int) == ((0 : Nat) : Int))), (25, .int .i64 (((cnG (gE 0 (B.drop (gD 0 B 2)) 1) ((B.drop (gD 0 B 2)).drop (gD 0 (B.drop (gD 0 B 2)) 1))).er : Nat) : Int))]) (fun φ40 => []) s (fun φ40 => by kernel_rfl) ?_
    intro φ40 w40 s
    rw [nat_eql (a := ((cnG (gE 0 (B.drop (gD 0 B 2)) 1) ((B.drop (gD 0 B 2)).drop (gD 0 (B.drop (gD 0 B 2)) 1))).er)) (b := 0)]
    rcases Bool.eq_false_or_eq_true (decide (((cnG (gE 0 (B.drop (gD 0 B 2)) 1) ((B.drop (gD 0 B 2)).drop (gD 0 (B.drop (gD 0 B 2)) 1))).er) = 0)) with hc41 | hc41
    ·
     rw [hc41]
     refine oK _ [] 3 [] 0 (fun φ42 => [(30, .bool ((((cnG (gE 0 (B.drop (gD 0 B 2)) 1) ((B.drop (gD 0 B 2)).drop (gD 0 (B.drop (gD 0 B 2)) 1))).t : Nat) : Int) == ((0 : Nat) : Int))), (29, .bool ((((cnG (gE 0 (B.drop (gD 0 B 2)) 1) ((B.drop (gD 0 B 2)).drop (gD 0 (B.drop (gD 0 B 2)) 1))).t : Nat) : Int) == ((0 : Nat) : Int))), (28, .int .u64 (((cnG (gE 0 (B.drop (gD 0 B 2)) 1) ((B.drop (gD 0 B 2)).drop (gD 0 (B.drop (gD 0 B 2)) 1))).t : Nat) : Int))]) (fun φ42 => []) s (fun φ42 => by kernel_rfl) ?_
     intro φ42 w42 s
     rw [nat_eql (a := ((cnG (gE 0 (B.drop (gD 0 B 2)) 1) ((B.drop (gD 0 B 2)).drop (gD 0 (B.drop (gD 0 B 2)) 1))).t)) (b := 0)]
     refine ops_done (by kernel_rfl) ?_
     rcases Bool.eq_false_or_eq_true (decide (((cnG (gE 0 (B.drop (gD 0 B 2)) 1) ((B.drop (gD 0 B 2)).drop (gD 0 (B.drop (gD 0 B 2)) 1))).t) = 0)) with hc43 | hc43
     ·
      rw [hc43]
      refine cond_true_rule (b := true) (by kernel_rfl) rfl ?_
      refine region_rule ?_
      refine oKD _ [] 1 [] 0 (fun φ44 => [(4, .int .i64 6)]) (fun φ44 => []) s (fun φ44 => by kernel_rfl) (by kernel_rfl) ?_
      intro φ44 w44 s
      refine seqR ?_
      refine oKD _ [] 6 [] 0 (fun φ45 => [(4, .int .i64 6), (3, .int .u64 (((cnG (gE 0 (B.drop (gD 0 B 2)) 1) ((B.drop (gD 0 B 2)).drop (gD 0 (B.drop (gD 0 B 2)) 1))).t : Nat) : Int)), (2, .int .u64 2), (33, .int .i64 6), (32, .int .u64 (((cnG (gE 0 (B.drop (gD 0 B 2)) 1) ((B.drop (gD 0 B 2)).drop (gD 0 (B.drop (gD 0 B 2)) 1))).t : Nat) : Int)), (31, .int .u64 2)]) (fun φ45 => []) s (fun φ45 => by kernel_rfl) (by kernel_rfl) ?_
      intro φ45 w45 s
      refine wp_ret ?_
      refine ret_rule (C := []) _ [] (.tuple #[.int .u64 2, .int .u64 (((cnG (gE 0 (B.drop (gD 0 B 2)) 1) ((B.drop (gD 0 B 2)).drop (gD 0 (B.drop (gD 0 B 2)) 1))).t : Nat) : Int), .int .i64 6]) [] [] s trivial (by kernel_rfl) ?_
      replace s := s.drop (List.Sublist.append (List.Sublist.cons₂ _ (List.Sublist.cons _ List.Sublist.slnil)) (List.Sublist.refl []))
      have e9 : hdG B = ⟨2, (cnG (gE 0 (B.drop (gD 0 B 2)) 1) ((B.drop (gD 0 B 2)).drop (gD 0 (B.drop (gD 0 B 2)) 1))).t, 6, (gD 0 B 2) + (gD 0 (B.drop (gD 0 B 2)) 1) + ((cnG (gE 0 (B.drop (gD 0 B 2)) 1) ((B.drop (gD 0 B 2)).drop (gD 0 (B.drop (gD 0 B 2)) 1))).d), (cnG (gE 0 (B.drop (gD 0 B 2)) 1) ((B.drop (gD 0 B 2)).drop (gD 0 (B.drop (gD 0 B 2)) 1))).e⟩ := by
       unfold hdG; rw [if_neg (of_decide_eq_false hc8), if_neg (of_decide_eq_false hc11), if_neg (of_decide_eq_false hc18)]
       unfold hdF
       rw [if_pos (of_decide_eq_true hc41), if_pos (of_decide_eq_true hc43)]
      exact ⟨_, _, _, rfl, s, (by rw [e9]; exact ⟨_, rfl, rfl, rfl, (by simp only [Nat.add_assoc])⟩)⟩
     ·
      rw [hc43]
      refine cond_false_rule (b := false) (by kernel_rfl) rfl ?_
      refine wp_skip ?_
      refine seqR ?_
      refine oKD _ [] 6 [] 0 (fun φ46 => [(4, .int .i64 (((cnG (gE 0 (B.drop (gD 0 B 2)) 1) ((B.drop (gD 0 B 2)).drop (gD 0 (B.drop (gD 0 B 2)) 1))).er : Nat) : Int)), (3, .int .u64 (((cnG (gE 0 (B.drop (gD 0 B 2)) 1) ((B.drop (gD 0 B 2)).drop (gD 0 (B.drop (gD 0 B 2)) 1))).t : Nat) : Int)), (2, .int .u64 2), (33, .int .i64 (((cnG (gE 0 (B.drop (gD 0 B 2)) 1) ((B.drop (gD 0 B 2)).drop (gD 0 (B.drop (gD 0 B 2)) 1))).er : Nat) : Int)), (32, .int .u64 (((cnG (gE 0 (B.drop (gD 0 B 2)) 1) ((B.drop (gD 0 B 2)).drop (gD 0 (B.drop (gD 0 B 2)) 1))).t : Nat) : Int)), (31, .int .u64 2)]) (fun φ46 => []) s (fun φ46 => by kernel_rfl) (by kernel_rfl) ?_
      intro φ46 w46 s
      refine wp_ret ?_
      refine ret_rule (C := []) _ [] (.tuple #[.int .u64 2, .int .u64 (((cnG (gE 0 (B.drop (gD 0 B 2)) 1) ((B.drop (gD 0 B 2)).drop (gD 0 (B.drop (gD 0 B 2)) 1))).t : Nat) : Int), .int .i64 (((cnG (gE 0 (B.drop (gD 0 B 2)) 1) ((B.drop (gD 0 B 2)).drop (gD 0 (B.drop (gD 0 B 2)) 1))).er : Nat) : Int)]) [] [] s trivial (by kernel_rfl) ?_
      replace s := s.drop (List.Sublist.append (List.Sublist.cons₂ _ (List.Sublist.cons _ List.Sublist.slnil)) (List.Sublist.refl []))
      have e9 : hdG B = ⟨2, (cnG (gE 0 (B.drop (gD 0 B 2)) 1) ((B.drop (gD 0 B 2)).drop (gD 0 (B.drop (gD 0 B 2)) 1))).t, (cnG (gE 0 (B.drop (gD 0 B 2)) 1) ((B.drop (gD 0 B 2)).drop (gD 0 (B.drop (gD 0 B 2)) 1))).er, (gD 0 B 2) + (gD 0 (B.drop (gD 0 B 2)) 1) + ((cnG (gE 0 (B.drop (gD 0 B 2)) 1) ((B.drop (gD 0 B 2)).drop (gD 0 (B.drop (gD 0 B 2)) 1))).d), (cnG (gE 0 (B.drop (gD 0 B 2)) 1) ((B.drop (gD 0 B 2)).drop (gD 0 (B.drop (gD 0 B 2)) 1))).e⟩ := by
       unfold hdG; rw [if_neg (of_decide_eq_false hc8), if_neg (of_decide_eq_false hc11), if_neg (of_decide_eq_false hc18)]
       unfold hdF
       rw [if_pos (of_decide_eq_true hc41), if_neg (of_decide_eq_false hc43)]
      exact ⟨_, _, _, rfl, s, (by rw [e9]; exact ⟨_, rfl, rfl, rfl, (by simp only [Nat.add_assoc])⟩)⟩
    ·
     rw [hc41]
     refine oKD _ [] 3 [] 0 (fun φ47 => [(30, .bool false), (29, undef), (28, undef)]) (fun φ47 => []) s (fun φ47 => by kernel_rfl) (by kernel_rfl) ?_
     intro φ47 w47 s
     refine cond_false_rule (b := false) (by kernel_rfl) rfl ?_
     refine wp_skip ?_
     refine seqR ?_
     refine oKD _ [] 6 [] 0 (fun φ48 => [(4, .int .i64 (((cnG (gE 0 (B.drop (gD 0 B 2)) 1) ((B.drop (gD 0 B 2)).drop (gD 0 (B.drop (gD 0 B 2)) 1))).er : Nat) : Int)), (3, .int .u64 (((cnG (gE 0 (B.drop (gD 0 B 2)) 1) ((B.drop (gD 0 B 2)).drop (gD 0 (B.drop (gD 0 B 2)) 1))).t : Nat) : Int)), (2, .int .u64 2), (33, .int .i64 (((cnG (gE 0 (B.drop (gD 0 B 2)) 1) ((B.drop (gD 0 B 2)).drop (gD 0 (B.drop (gD 0 B 2)) 1))).er : Nat) : Int)), (32, .int .u64 (((cnG (gE 0 (B.drop (gD 0 B 2)) 1) ((B.drop (gD 0 B 2)).drop (gD 0 (B.drop (gD 0 B 2)) 1))).t : Nat) : Int)), (31, .int .u64 2)]) (fun φ48 => []) s (fun φ48 => by kernel_rfl) (by kernel_rfl) ?_
     intro φ48 w48 s
     refine wp_ret ?_
     refine ret_rule (C := []) _ [] (.tuple #[.int .u64 2, .int .u64 (((cnG (gE 0 (B.drop (gD 0 B 2)) 1) ((B.drop (gD 0 B 2)).drop (gD 0 (B.drop (gD 0 B 2)) 1))).t : Nat) : Int), .int .i64 (((cnG (gE 0 (B.drop (gD 0 B 2)) 1) ((B.drop (gD 0 B 2)).drop (gD 0 (B.drop (gD 0 B 2)) 1))).er : Nat) : Int)]) [] [] s trivial (by kernel_rfl) ?_
     replace s := s.drop (List.Sublist.append (List.Sublist.cons₂ _ (List.Sublist.cons _ List.Sublist.slnil)) (List.Sublist.refl []))
     have e9 : hdG B = ⟨2, (cnG (gE 0 (B.drop (gD 0 B 2)) 1) ((B.drop (gD 0 B 2)).drop (gD 0 (B.drop (gD 0 B 2)) 1))).t, (cnG (gE 0 (B.drop (gD 0 B 2)) 1) ((B.drop (gD 0 B 2)).drop (gD 0 (B.drop (gD 0 B 2)) 1))).er, (gD 0 B 2) + (gD 0 (B.drop (gD 0 B 2)) 1) + ((cnG (gE 0 (B.drop (gD 0 B 2)) 1) ((B.drop (gD 0 B 2)).drop (gD 0 (B.drop (gD 0 B 2)) 1))).d), (cnG (gE 0 (B.drop (gD 0 B 2)) 1) ((B.drop (gD 0 B 2)).drop (gD 0 (B.drop (gD 0 B 2)) 1))).e⟩ := by
      unfold hdG; rw [if_neg (of_decide_eq_false hc8), if_neg (of_decide_eq_false hc11), if_neg (of_decide_eq_false hc18)]
      unfold hdF
      rw [if_neg (of_decide_eq_false hc41)]
     exact ⟨_, _, _, rfl, s, (by rw [e9]; exact ⟨_, rfl, rfl, rfl, (by simp only [Nat.add_assoc])⟩)⟩

set_option maxHeartbeats 400000 in
theorem inForm_c {I : IM} {e e2 : Ev.E} {be be2 : Nat} {pe pe2 : Option Addr} (he : Ev.ERep I e be pe) (he2 : Ev.ERep I e2 be2 pe2) (htop : e.top < 18446744073709551616) (htop2 : e2.top < 18446744073709551616) : Fun Tryd.prog 106 #[.agg #[.int .u64 ((be : Nat) : Int), .pointer pe], .agg #[.int .u64 ((be2 : Nat) : Int), .pointer pe2]] I (fun v J => v = .bool (inF e e2)) := by
 refine enter_rule 19 [(0, .agg #[.int .u64 be, .pointer pe]), (1, .agg #[.int .u64 be2, .pointer pe2])] Tryd.func106 rfl (by kernel_rfl) ?_
 intro w s
 refine seqR ?_
 refine oAD [] [] 3 [] 2 (fun φ1 => [(4, .bool false), (3, pB (φ1 1)), (2, pB (φ1 0))]) (fun φ1 => [(φ1 0, .cells #[.int .u64 be, .pointer pe] 44), (φ1 1, .cells #[.int .u64 be2, .pointer pe2] 44)]) (fun φ1 => []) s (fun φ1 => by kernel_rfl) (by kernel_rfl) ?_
 intro φ1 w1 s
 refine wp_seq ?_
 rcases Bool.eq_false_or_eq_true (decide ((min be be2) = 0)) with hc2 | hc2
 ·
  refine draw_rule (C := []) ⟨(fun φ3 xs3 => [.look 0 [.o 0, .o 0] [φ1 0, φ1 0], .call 116 #[.agg #[.int .u64 be, .pointer pe]], .look 0 [.o 1, .o 1] [φ1 1, φ1 1], .call 116 #[.agg #[.int .u64 be2, .pointer pe2]], .sub 0 [] [] (.int .u64 (if ((be2 : Nat) : Int) < ((be : Nat) : Int) then ((be2 : Nat) : Int) else ((be : Nat) : Int))), .sub 0 [] [] (.bool (((min be be2 : Nat) : Int) == ((0 : Nat) : Int))), .look 0 [] [], .look 0 [.o 0, .o 0] [φ1 0, φ1 0], .call 117 #[.agg #[.int .u64 be, .pointer pe]], .look 0 [.o 1, .o 1] [φ1 1, φ1 1], .call 117 #[.agg #[.int .u64 be2, .pointer pe2]], .sub 0 [] [] (.int .u64 (if ((e2.top : Nat) : Int) > ((e.top : Nat) : Int) then ((e2.top : Nat) : Int) else ((e.top : Nat) : Int))), .sub 0 [] [] (.bool (decide (((max e.top e2.top : Nat) : Int) > ((0 : Nat) : Int)))), .look 0 [] [], .look 0 [] []]), (fun φ3 xs3 => [.agg #[.int .u64 be, .pointer pe], .int .u64 be, .agg #[.int .u64 be2, .pointer pe2], .int .u64 be2, .int .u64 ((min be be2 : Nat) : Int), .bool true, .bool true, .agg #[.int .u64 be, .pointer pe], .int .u64 e.top, .agg #[.int .u64 be2, .pointer pe2], .int .u64 e2.top, .int .u64 ((max e.top e2.top : Nat) : Int), .bool (decide (0 < (max e.top e2.top))), .bool (decide (0 < (max e.top e2.top))), .bool (decide (0 < (max e.top e2.top)))]), (fun φ3 xs3 => [[(φ1 0, .cells #[.int .u64 be, .pointer pe] 44), (φ1 1, .cells #[.int .u64 be2, .pointer pe2] 44)]]), (fun φ3 xs3 => [[default, default, default, default, default, default, default, default, default, default, default, default, default, default, default]]), [], [1, 3, 1, 3, 5, 5, 1, 1, 3, 1, 3, 5, 5, 1, 1]⟩ (fun j => ([MP.any] : List MP).getD j MP.any) [1, 3, 8, 10] [4, 5, 11, 12] [] (fun φ3 xs3 => []) (fun φ3 xs3 => [(5, .agg #[.int .u64 be, .pointer pe]), (6, .int .u64 be), (7, .agg #[.int .u64 be2, .pointer pe2]), (8, .int .u64 be2), (9, .int .u64 ((min be be2 : Nat) : Int)), (10, .bool true), (11, .bool true), (12, .agg #[.int .u64 be, .pointer pe]), (13, .int .u64 e.top), (14, .agg #[.int .u64 be2, .pointer pe2]), (15, .int .u64 e2.top), (16, .int .u64 ((max e.top e2.top : Nat) : Int)), (17, .bool (decide (0 < (max e.top e2.top)))), (18, .bool (decide (0 < (max e.top e2.top)))), (4, .bool (decide (0 < (max e.top e2.top))))]) (fun φ3 xs3 => [(φ1 0, .cells #[.int .u64 be, .pointer pe] 44), (φ1 1, .cells #[.int .u64 be2, .pointer pe2] 44)]) s trivial (by kernel_rfl) (by kernel_rfl) (fun _ _ => by kernel_rfl) (fun _ _ => by kernel_rfl) ⟨fun _ _ => by kernel_rfl, fun _ _ => by kernel_rfl, fun _ _ => by kernel_rfl, fun _ _ => by kernel_rfl⟩ (fun _ _ _ => by kernel_rfl) (fun _ _ => by kernel_rfl) (fun _ _ => by kernel_rfl) (fun _ _ => by kernel_rfl) (fun _ _ => by kernel_rfl) (fun _ _ => by kernel_rfl) ⟨kcast (A := ∀ (φ3 : Nat → Nat) (xs3 : Xs), (.int .u64 (if ((be2 : Nat) : Int) < ((be : Nat) : Int) then ((be2 : Nat) : Int) else ((be : Nat) : Int)) : Value) = .int .u64 ((min be be2 : Nat) : Int)) (by kernel_rfl) (fun φ3 xs3 => congrArg (Value.int .u64) ((nat_min (a := be) (b := be2)))), ⟨kcast (A := ∀ (φ3 : Nat → Nat) (xs3 : Xs), (.bool (((min be be2 : Nat) : Int) == ((0 : Nat) : Int)) : Value) = .bool true) (by kernel_rfl) (fun φ3 xs3 => congrArg Value.bool ((nat_eql (a := (min be be2)) (b := 0)).trans (hc2))), ⟨kcast (A := ∀ (φ3 : Nat → Nat) (xs3 : Xs), (.int .u64 (if ((e2.top : Nat) : Int) > ((e.top : Nat) : Int) then ((e2.top : Nat) : Int) else ((e.top : Nat) : Int)) : Value) = .int .u64 ((max e.top e2.top : Nat) : Int)) (by kernel_rfl) (fun φ3 xs3 => congrArg (Value.int .u64) ((nat_max (a := e.top) (b := e2.top)))), ⟨kcast (A := ∀ (φ3 : Nat → Nat) (xs3 : Xs), (.bool (decide (((max e.top e2.top : Nat) : Int) > ((0 : Nat) : Int))) : Value) = .bool (decide (0 < (max e.top e2.top)))) (by kernel_rfl) (fun φ3 xs3 => congrArg Value.bool ((nat_gtr (a := (max e.top e2.top)) (b := 0)))), trivial⟩⟩⟩⟩ trivial (by kernel_rfl) ⟨?c3_1, ?c3_3, ?c3_8, ?c3_10, trivial⟩ ?k3
  case c3_1 =>
   refine kcast (A := ∀ (φ3 : Nat → Nat) (xs3 : Xs) (J1_3 : IM), I.Le J1_3 → Fun Tryd.prog 116 #[.agg #[.int .u64 be, .pointer pe]] J1_3 (fun v J' => ∃ x : UX, v = .int .u64 be ∧ (True))) (by kernel_rfl) ?_
   intro φ3 xs3 J1_3 leJ
   have he := Ev.ERep.mono leJ he
   exact Fun.mono (Ev.min_c he) (fun v J' _ h => ⟨UX.d, h, trivial⟩)
  case c3_3 =>
   refine kcast (A := ∀ (φ3 : Nat → Nat) (xs3 : Xs) (J3_3 : IM), I.Le J3_3 → (True) → Fun Tryd.prog 116 #[.agg #[.int .u64 be2, .pointer pe2]] J3_3 (fun v J' => ∃ x : UX, v = .int .u64 be2 ∧ (True))) (by kernel_rfl) ?_
   intro φ3 xs3 J3_3 leJ
   rintro _
   have he2 := Ev.ERep.mono leJ he2
   exact Fun.mono (Ev.min_c he2) (fun v J' _ h => ⟨UX.d, h, trivial⟩)
  case c3_8 =>
   refine kcast (A := ∀ (φ3 : Nat → Nat) (xs3 : Xs) (J8_3 : IM), I.Le J8_3 → (True) → (True) → Fun Tryd.prog 117 #[.agg #[.int .u64 be, .pointer pe]] J8_3 (fun v J' => ∃ x : UX, v = .int .u64 e.top ∧ (True))) (by kernel_rfl) ?_
   intro φ3 xs3 J8_3 leJ
   rintro _ _
   have he := Ev.ERep.mono leJ he
   exact Fun.mono (Ev.max_c he (htop)) (fun v J' _ h => ⟨UX.d, h, trivial⟩)
  case c3_10 =>
   refine kcast (A := ∀ (φ3 : Nat → Nat) (xs3 : Xs) (J10_3 : IM), I.Le J10_3 → (True) → (True) → (True) → Fun Tryd.prog 117 #[.agg #[.int .u64 be2, .pointer pe2]] J10_3 (fun v J' => ∃ x : UX, v = .int .u64 e2.top ∧ (True))) (by kernel_rfl) ?_
   intro φ3 xs3 J10_3 leJ
   rintro _ _ _
   have he2 := Ev.ERep.mono leJ he2
   exact Fun.mono (Ev.max_c he2 (htop2)) (fun v J' _ h => ⟨UX.d, h, trivial⟩)
  case k3 =>
   rintro φ3 xs3 I3 w3 le3 s _ _ _ _
   replace he := Ev.ERep.mono le3 he
   replace he2 := Ev.ERep.mono le3 he2
   refine wp_ret ?_
   refine ret_rule (C := []) [(φ1 0, .cells #[.int .u64 be, .pointer pe] 44), (φ1 1, .cells #[.int .u64 be2, .pointer pe2] 44)] [] (.bool (decide (0 < (max e.top e2.top)))) [] [] s trivial (by kernel_rfl) ?_
   exact ⟨_, _, _, rfl, s, (congrArg Value.bool (by unfold inF; rw [← Ev.ERep.base he, ← Ev.ERep.base he2]; simp [of_decide_eq_true hc2]))⟩
 ·
  refine draw_rule (C := []) ⟨(fun φ4 xs4 => [.look 0 [.o 0, .o 0] [φ1 0, φ1 0], .call 116 #[.agg #[.int .u64 be, .pointer pe]], .look 0 [.o 1, .o 1] [φ1 1, φ1 1], .call 116 #[.agg #[.int .u64 be2, .pointer pe2]], .sub 0 [] [] (.int .u64 (if ((be2 : Nat) : Int) < ((be : Nat) : Int) then ((be2 : Nat) : Int) else ((be : Nat) : Int))), .sub 0 [] [] (.bool (((min be be2 : Nat) : Int) == ((0 : Nat) : Int))), .look 0 [] [], .skip, .skip, .skip, .skip, .skip, .skip, .look 0 [] [], .look 0 [] []]), (fun φ4 xs4 => [.agg #[.int .u64 be, .pointer pe], .int .u64 be, .agg #[.int .u64 be2, .pointer pe2], .int .u64 be2, .int .u64 ((min be be2 : Nat) : Int), .bool false, .bool false, undef, undef, undef, undef, undef, undef, .bool false, .bool false]), (fun φ4 xs4 => [[(φ1 0, .cells #[.int .u64 be, .pointer pe] 44), (φ1 1, .cells #[.int .u64 be2, .pointer pe2] 44)]]), (fun φ4 xs4 => [[default, default, default, default, default, default, default, default, default, default, default, default, default, default, default]]), [], [1, 3, 1, 3, 5, 5, 1, 0, 0, 0, 0, 0, 0, 1, 1]⟩ (fun j => ([MP.any] : List MP).getD j MP.any) [1, 3] [4, 5] [] (fun φ4 xs4 => []) (fun φ4 xs4 => [(5, .agg #[.int .u64 be, .pointer pe]), (6, .int .u64 be), (7, .agg #[.int .u64 be2, .pointer pe2]), (8, .int .u64 be2), (9, .int .u64 ((min be be2 : Nat) : Int)), (10, .bool false), (11, .bool false), (12, undef), (13, undef), (14, undef), (15, undef), (16, undef), (17, undef), (18, .bool false), (4, .bool false)]) (fun φ4 xs4 => [(φ1 0, .cells #[.int .u64 be, .pointer pe] 44), (φ1 1, .cells #[.int .u64 be2, .pointer pe2] 44)]) s trivial (by kernel_rfl) (by kernel_rfl) (fun _ _ => by kernel_rfl) (fun _ _ => by kernel_rfl) ⟨fun _ _ => by kernel_rfl, fun _ _ => by kernel_rfl, fun _ _ => by kernel_rfl, fun _ _ => by kernel_rfl⟩ (fun _ _ _ => by kernel_rfl) (fun _ _ => by kernel_rfl) (fun _ _ => by kernel_rfl) (fun _ _ => by kernel_rfl) (fun _ _ => by kernel_rfl) (fun _ _ => by kernel_rfl) ⟨kcast (A := ∀ (φ4 : Nat → Nat) (xs4 : Xs), (.int .u64 (if ((be2 : Nat) : Int) < ((be : Nat) : Int) then ((be2 : Nat) : Int) else ((be : Nat) : Int)) : Value) = .int .u64 ((min be be2 : Nat) : Int)) (by kernel_rfl) (fun φ4 xs4 => congrArg (Value.int .u64) ((nat_min (a := be) (b := be2)))), ⟨kcast (A := ∀ (φ4 : Nat → Nat) (xs4 : Xs), (.bool (((min be be2 : Nat) : Int) == ((0 : Nat) : Int)) : Value) = .bool false) (by kernel_rfl) (fun φ4 xs4 => congrArg Value.bool ((nat_eql (a := (min be be2)) (b := 0)).trans (hc2))), trivial⟩⟩ trivial (by kernel_rfl) ⟨?c4_1, ?c4_3, trivial⟩ ?k4
  case c4_1 =>
   refine kcast (A := ∀ (φ4 : Nat → Nat) (xs4 : Xs) (J1_4 : IM), I.Le J1_4 → Fun Tryd.prog 116 #[.agg #[.int .u64 be, .pointer pe]] J1_4 (fun v J' => ∃ x : UX, v = .int .u64 be ∧ (True))) (by kernel_rfl) ?_
   intro φ4 xs4 J1_4 leJ
   have he := Ev.ERep.mono leJ he
   exact Fun.mono (Ev.min_c he) (fun v J' _ h => ⟨UX.d, h, trivial⟩)
  case c4_3 =>
   refine kcast (A := ∀ (φ4 : Nat → Nat) (xs4 : Xs) (J3_4 : IM), I.Le J3_4 → (True) → Fun Tryd.prog 116 #[.agg #[.int .u64 be2, .pointer pe2]] J3_4 (fun v J' => ∃ x : UX, v = .int .u64 be2 ∧ (True))) (by kernel_rfl) ?_
   intro φ4 xs4 J3_4 leJ
   rintro _
   have he2 := Ev.ERep.mono leJ he2
   exact Fun.mono (Ev.min_c he2) (fun v J' _ h => ⟨UX.d, h, trivial⟩)
  case k4 =>
   rintro φ4 xs4 I4 w4 le4 s _ _
   replace he := Ev.ERep.mono le4 he
   replace he2 := Ev.ERep.mono le4 he2
   refine wp_ret ?_
   refine ret_rule (C := []) [(φ1 0, .cells #[.int .u64 be, .pointer pe] 44), (φ1 1, .cells #[.int .u64 be2, .pointer pe2] 44)] [] (.bool false) [] [] s trivial (by kernel_rfl) ?_
   exact ⟨_, _, _, rfl, s, (congrArg Value.bool (by unfold inF; rw [← Ev.ERep.base he, ← Ev.ERep.base he2]; simp [of_decide_eq_false hc2]))⟩

set_option maxHeartbeats 1000000 in
theorem halvesE_c {I : IM} {l : List UInt8} {a : Option Addr} {c : Nat} {r p e : Nat} {B : List Bool} (hl : BSl I l (.slice a l.length c)) (hn9 : l.length ≤ 1000000) (hp : p ≤ l.length * 8) (hB : (bitsL l).drop p = B) (he : e = 0) {g : List Bool → Rd Ev.E} (hg : OkE g) {deep : Nat} (ih : ∀ {J : IM} {p e : Nat} {B : List Bool}, BSl J l (.slice a l.length c) → p ≤ l.length * 8 → (bitsL l).drop p = B → e = 0 → FunM Tryd.prog 41 #[.agg #[.pointer (some ⟨r, 0, none⟩)], .int .i64 ((deep : Nat) : Int)] J [(r, .cells #[.slice a l.length c, .int .i64 ((p : Nat) : Int), .int .i64 ((e : Nat) : Int)] 74)] (fun v J H' => ∃ b' : OB, H' = [b'] ∧ b'.1 = r ∧ ∃ bi pi, v = .tuple #[.agg #[.int .u64 ((bi : Nat) : Int), .pointer pi], .int .i64 (((g B).er : Nat) : Int)] ∧ b' = (r, .cells #[.slice a l.length c, .int .i64 ((p + (g B).d : Nat) : Int), .int .i64 (((g B).e : Nat) : Int)] 74) ∧ Ev.ERep J (g B).t bi pi)) {xa xb : Bool} : FunM Tryd.prog 105 #[.bool xa, .bool xb, .int .i64 ((deep : Nat) : Int), .func (.func 41) #[.agg #[.pointer (some ⟨r, 0, none⟩)]] #[]] I [(r, .cells #[.slice a l.length c, .int .i64 ((p : Nat) : Int), .int .i64 ((e : Nat) : Int)] 74)] (fun v J H' => ∃ b' : OB, H' = [b'] ∧ b'.1 = r ∧ ∃ b1 p1 b2 p2, v = .tuple #[.agg #[.int .u64 ((b1 : Nat) : Int), .pointer p1], .agg #[.int .u64 ((b2 : Nat) : Int), .pointer p2], .int .i64 (((hvG g (Ev.E.leaf 0) xa xb B).er : Nat) : Int)] ∧ b' = (r, .cells #[.slice a l.length c, .int .i64 ((p + (hvG g (Ev.E.leaf 0) xa xb B).d : Nat) : Int), .int .i64 (((hvG g (Ev.E.leaf 0) xa xb B).e : Nat) : Int)] 74) ∧ Ev.ERep J (hvG g (Ev.E.leaf 0) xa xb B).l b1 p1 ∧ Ev.ERep J (hvG g (Ev.E.leaf 0) xa xb B).r b2 p2) := by
 refine enterM_rule 32 [(0, .bool xa), (1, .bool xb), (2, .int .i64 deep), (3, .func (.func 41) #[.agg #[pB r]] #[])] Tryd.func105 rfl (by kernel_rfl) ?_
 intro w s
 refine seqR ?_
 refine oAD [(r, .cells #[.slice a l.length c, .int .i64 p, .int .i64 e] 74)] [] 3 [] 2 (fun φ1 => [(10, .int .i64 0), (9, pB (φ1 1)), (8, pB (φ1 0))]) (fun φ1 => [(r, .cells #[.slice a l.length c, .int .i64 p, .int .i64 e] 74), (φ1 0, .cells #[.int .u64 0, .pointer none] 44), (φ1 1, .cells #[.int .u64 0, .pointer none] 44)]) (fun φ1 => []) s (fun φ1 => by kernel_rfl) (by kernel_rfl) ?_
 intro φ1 w1 s
 refine wp_seq ?_
 refine seqR ?_
 refine oKD _ [] 1 [] 0 (fun φ2 => [(11, .bool xa)]) (fun φ2 => []) s (fun φ2 => by kernel_rfl) (by kernel_rfl) ?_
 intro φ2 w2 s
 rcases Bool.eq_false_or_eq_true (xa) with hc3 | hc3
 ·
  rw [hc3]
  refine cond_true_rule (b := true) (by kernel_rfl) rfl ?_
  refine region_rule ?_
  refine oK _ [] 2 [] 0 (fun φ4 => [(14, .int .i64 deep), (13, .func (.func 41) #[.agg #[pB r]] #[])]) (fun φ4 => []) s (fun φ4 => by kernel_rfl) ?_
  intro φ4 w4 s
  refine callB_rule (b := (r, .cells #[.slice a l.length c, .int .i64 p, .int .i64 e] 74)) (F := []) (Hr := [(φ1 0, .cells #[.int .u64 0, .pointer none] 44), (φ1 1, .cells #[.int .u64 0, .pointer none] 44)]) (some 15) 0 s (by kernel_rfl) (by kernel_rfl) (ih hl hp hB he) (by kernel_rfl) ?_
  rintro v6 I6 w6 b6 le6 - h6 s
  replace hl := BSl.mono le6 hl
  obtain ⟨bi6, pi6, rfl, rfl, h6_0⟩ := h6
  have hB5 := next_B (d := (g B).d) hB
  have hp5 := next_p (d := (g B).d) hp hB (hg.d _)
  refine oAD _ [] 5 [.o 1, .o 1] 0 (fun φ7 => [(10, .int .i64 (((g B).er : Nat) : Int)), (17, .int .i64 (((g B).er : Nat) : Int)), (16, .agg #[.int .u64 bi6, .pointer pi6]), (12, .tuple #[.agg #[.int .u64 bi6, .pointer pi6], .int .i64 (((g B).er : Nat) : Int)])]) (fun φ7 => [(r, .cells #[.slice a l.length c, .int .i64 ((p + ((g B).d) : Nat) : Int), .int .i64 (((g B).e : Nat) : Int)] 74), (φ1 0, .cells #[.int .u64 bi6, .pointer pi6] 44), (φ1 1, .cells #[.int .u64 0, .pointer none] 44)]) (fun φ7 => [φ1 0, φ1 0]) s (fun φ7 => by kernel_rfl) (by kernel_rfl) ?_
  intro φ7 w7 s
  refine wp_seq ?_
  refine seqR ?_
  refine oK _ [] 2 [] 0 (fun φ8 => [(19, .bool xb), (18, .bool xb)]) (fun φ8 => []) s (fun φ8 => by kernel_rfl) ?_
  intro φ8 w8 s
  rcases Bool.eq_false_or_eq_true (xb) with hc9 | hc9
  ·
   rw [hc9]
   refine oK _ [] 3 [] 0 (fun φ10 => [(22, .bool ((((g B).er : Nat) : Int) == ((0 : Nat) : Int))), (21, .bool ((((g B).er : Nat) : Int) == ((0 : Nat) : Int))), (20, .int .i64 (((g B).er : Nat) : Int))]) (fun φ10 => []) s (fun φ10 => by kernel_rfl) ?_
   intro φ10 w10 s
   rw [nat_eql (a := ((g B).er)) (b := 0)]
   refine ops_done (by kernel_rfl) ?_
   rcases Bool.eq_false_or_eq_true (decide (((g B).er) = 0)) with hc11 | hc11
   ·
    rw [hc11]
    refine cond_true_rule (b := true) (by kernel_rfl) rfl ?_
    refine region_rule ?_
    refine oK _ [] 2 [] 0 (fun φ12 => [(25, .int .i64 deep), (24, .func (.func 41) #[.agg #[pB r]] #[])]) (fun φ12 => []) s (fun φ12 => by kernel_rfl) ?_
    intro φ12 w12 s
    refine callB_rule (b := (r, .cells #[.slice a l.length c, .int .i64 ((p + ((g B).d) : Nat) : Int), .int .i64 (((g B).e : Nat) : Int)] 74)) (F := []) (Hr := [(φ1 0, .cells #[.int .u64 bi6, .pointer pi6] 44), (φ1 1, .cells #[.int .u64 0, .pointer none] 44)]) (some 26) 0 s (by kernel_rfl) (by kernel_rfl) (ih hl hp5 hB5 (hg.e _ (of_decide_eq_true hc11))) (by kernel_rfl) ?_
    rintro v14 I14 w14 b14 le14 - h14 s
    replace hl := BSl.mono le14 hl
    replace h6_0 := Ev.ERep.mono le14 h6_0
    obtain ⟨bi14, pi14, rfl, rfl, h14_0⟩ := h14
    have hB13 := next_B (d := (g (B.drop ((g B).d))).d) hB5
    have hp13 := next_p (d := (g (B.drop ((g B).d))).d) hp5 hB5 (hg.d _)
    refine oAD _ [] 5 [.o 2, .o 2] 0 (fun φ15 => [(10, .int .i64 (((g (B.drop ((g B).d))).er : Nat) : Int)), (28, .int .i64 (((g (B.drop ((g B).d))).er : Nat) : Int)), (27, .agg #[.int .u64 bi14, .pointer pi14]), (23, .tuple #[.agg #[.int .u64 bi14, .pointer pi14], .int .i64 (((g (B.drop ((g B).d))).er : Nat) : Int)])]) (fun φ15 => [(r, .cells #[.slice a l.length c, .int .i64 ((p + ((g B).d) + ((g (B.drop ((g B).d))).d) : Nat) : Int), .int .i64 (((g (B.drop ((g B).d))).e : Nat) : Int)] 74), (φ1 0, .cells #[.int .u64 bi6, .pointer pi6] 44), (φ1 1, .cells #[.int .u64 bi14, .pointer pi14] 44)]) (fun φ15 => [φ1 1, φ1 1]) s (fun φ15 => by kernel_rfl) (by kernel_rfl) ?_
    intro φ15 w15 s
    refine wp_seq ?_
    refine draw_rule (C := []) ⟨(fun φ16 xs16 => [.look 0 [.o 1, .o 1] [φ1 0, φ1 0], .look 0 [.o 2, .o 2] [φ1 1, φ1 1], .look 0 [] [], .store 0 [.o 1, .o 1] [φ1 0, φ1 0], .store 1 [.o 2, .o 2] [φ1 1, φ1 1], .look 2 [] []]), (fun φ16 xs16 => [.agg #[.int .u64 bi6, .pointer pi6], .agg #[.int .u64 bi14, .pointer pi14], .int .i64 (((g (B.drop ((g B).d))).er : Nat) : Int), undef, undef, .int .i64 (((g (B.drop ((g B).d))).er : Nat) : Int)]), (fun φ16 xs16 => [[(r, .cells #[.slice a l.length c, .int .i64 ((p + ((g B).d) + ((g (B.drop ((g B).d))).d) : Nat) : Int), .int .i64 (((g (B.drop ((g B).d))).e : Nat) : Int)] 74), (φ1 0, .cells #[.int .u64 bi6, .pointer pi6] 44), (φ1 1, .cells #[.int .u64 bi14, .pointer pi14] 44)], [(r, .cells #[.slice a l.length c, .int .i64 ((p + ((g B).d) + ((g (B.drop ((g B).d))).d) : Nat) : Int), .int .i64 (((g (B.drop ((g B).d))).e : Nat) : Int)] 74), (φ1 0, .cells #[.int .u64 bi6, .pointer pi6] 44), (φ1 1, .cells #[.int .u64 bi14, .pointer pi14] 44)], [(r, .cells #[.slice a l.length c, .int .i64 ((p + ((g B).d) + ((g (B.drop ((g B).d))).d) : Nat) : Int), .int .i64 (((g (B.drop ((g B).d))).e : Nat) : Int)] 74), (φ1 0, .cells #[.int .u64 bi6, .pointer pi6] 44), (φ1 1, .cells #[.int .u64 bi14, .pointer pi14] 44)]]), (fun φ16 xs16 => [[default, default, default, default, default, default], [default, default, default, default, default, default], [default, default, default, default, default, default]]), [3, 4], [1, 1, 1, 4, 4, 1]⟩ (fun j => ([MP.any] : List MP).getD j MP.any) [] [] [] (fun φ16 xs16 => [[none, none, none, none, none, none], [none, none, none, none, none, none]]) (fun φ16 xs16 => [(29, .agg #[.int .u64 bi6, .pointer pi6]), (30, .agg #[.int .u64 bi14, .pointer pi14]), (31, .int .i64 (((g (B.drop ((g B).d))).er : Nat) : Int)), (10, .int .i64 (((g (B.drop ((g B).d))).er : Nat) : Int))]) (fun φ16 xs16 => [(r, .cells #[.slice a l.length c, .int .i64 ((p + ((g B).d) + ((g (B.drop ((g B).d))).d) : Nat) : Int), .int .i64 (((g (B.drop ((g B).d))).e : Nat) : Int)] 74), (φ1 0, .cells #[.int .u64 bi6, .pointer pi6] 44), (φ1 1, .cells #[.int .u64 bi14, .pointer pi14] 44)]) s trivial (by kernel_rfl) (by kernel_rfl) (fun _ _ => by kernel_rfl) (fun _ _ => by kernel_rfl) ⟨fun _ _ => by kernel_rfl, fun _ _ => by kernel_rfl, fun _ _ => by kernel_rfl, fun _ _ => by kernel_rfl⟩ (fun _ _ _ => by kernel_rfl) (fun _ _ => by kernel_rfl) (fun _ _ => by kernel_rfl) (fun _ _ => by kernel_rfl) (fun _ _ => by kernel_rfl) (fun _ _ => by kernel_rfl) trivial trivial (by kernel_rfl) trivial ?k16
    case k16 =>
     rintro φ16 xs16 I16 w16 le16 s 
     replace hl := BSl.mono le16 hl
     replace h6_0 := Ev.ERep.mono le16 h6_0
     replace h14_0 := Ev.ERep.mono le16 h14_0
     refine wp_ret ?_
     refine ret_rule (C := []) [(r, .cells #[.slice a l.length c, .int .i64 ((p + ((g B).d) + ((g (B.drop ((g B).d))).d) : Nat) : Int), .int .i64 (((g (B.drop ((g B).d))).e : Nat) : Int)] 74), (φ1 0, .cells #[.int .u64 bi6, .pointer pi6] 44), (φ1 1, .cells #[.int .u64 bi14, .pointer pi14] 44)] [] (.tuple #[.agg #[.int .u64 bi6, .pointer pi6], .agg #[.int .u64 bi14, .pointer pi14], .int .i64 (((g (B.drop ((g B).d))).er : Nat) : Int)]) [.o 1, .o 1, .o 2, .o 2] [φ1 0, φ1 0, φ1 1, φ1 1] s trivial (by kernel_rfl) ?_
     replace s := s.drop (List.Sublist.append (List.Sublist.cons₂ _ (List.Sublist.cons _ (List.Sublist.cons _ List.Sublist.slnil))) (List.Sublist.refl []))
     have e9 : hvG g (Ev.E.leaf 0) true true B = ⟨(g B).t, (g (B.drop ((g B).d))).t, (g (B.drop ((g B).d))).er, ((g B).d) + ((g (B.drop ((g B).d))).d), (g (B.drop ((g B).d))).e⟩ := by unfold hvG hR hL; simp [hc3, hc9, of_decide_eq_true hc11]
     exact ⟨_, _, _, rfl, s, (by rw [e9]; exact ⟨_, rfl, rfl, _, _, _, _, rfl, (by simp only [Nat.add_assoc, Nat.add_zero]), h6_0, h14_0⟩)⟩
   ·
    rw [hc11]
    refine cond_false_rule (b := false) (by kernel_rfl) rfl ?_
    refine wp_skip ?_
    refine wp_seq ?_
    refine draw_rule (C := []) ⟨(fun φ17 xs17 => [.look 0 [.o 1, .o 1] [φ1 0, φ1 0], .look 0 [.o 2, .o 2] [φ1 1, φ1 1], .look 0 [] [], .store 0 [.o 1, .o 1] [φ1 0, φ1 0], .store 1 [.o 2, .o 2] [φ1 1, φ1 1], .look 2 [] []]), (fun φ17 xs17 => [.agg #[.int .u64 bi6, .pointer pi6], .agg #[.int .u64 0, .pointer none], .int .i64 (((g B).er : Nat) : Int), undef, undef, .int .i64 (((g B).er : Nat) : Int)]), (fun φ17 xs17 => [[(r, .cells #[.slice a l.length c, .int .i64 ((p + ((g B).d) : Nat) : Int), .int .i64 (((g B).e : Nat) : Int)] 74), (φ1 0, .cells #[.int .u64 bi6, .pointer pi6] 44), (φ1 1, .cells #[.int .u64 0, .pointer none] 44)], [(r, .cells #[.slice a l.length c, .int .i64 ((p + ((g B).d) : Nat) : Int), .int .i64 (((g B).e : Nat) : Int)] 74), (φ1 0, .cells #[.int .u64 bi6, .pointer pi6] 44), (φ1 1, .cells #[.int .u64 0, .pointer none] 44)], [(r, .cells #[.slice a l.length c, .int .i64 ((p + ((g B).d) : Nat) : Int), .int .i64 (((g B).e : Nat) : Int)] 74), (φ1 0, .cells #[.int .u64 bi6, .pointer pi6] 44), (φ1 1, .cells #[.int .u64 0, .pointer none] 44)]]), (fun φ17 xs17 => [[default, default, default, default, default, default], [default, default, default, default, default, default], [default, default, default, default, default, default]]), [3, 4], [1, 1, 1, 4, 4, 1]⟩ (fun j => ([MP.any] : List MP).getD j MP.any) [] [] [] (fun φ17 xs17 => [[none, none, none, none, none, none], [none, none, none, none, none, none]]) (fun φ17 xs17 => [(29, .agg #[.int .u64 bi6, .pointer pi6]), (30, .agg #[.int .u64 0, .pointer none]), (31, .int .i64 (((g B).er : Nat) : Int)), (10, .int .i64 (((g B).er : Nat) : Int))]) (fun φ17 xs17 => [(r, .cells #[.slice a l.length c, .int .i64 ((p + ((g B).d) : Nat) : Int), .int .i64 (((g B).e : Nat) : Int)] 74), (φ1 0, .cells #[.int .u64 bi6, .pointer pi6] 44), (φ1 1, .cells #[.int .u64 0, .pointer none] 44)]) s trivial (by kernel_rfl) (by kernel_rfl) (fun _ _ => by kernel_rfl) (fun _ _ => by kernel_rfl) ⟨fun _ _ => by kernel_rfl, fun _ _ => by kernel_rfl, fun _ _ => by kernel_rfl, fun _ _ => by kernel_rfl⟩ (fun _ _ _ => by kernel_rfl) (fun _ _ => by kernel_rfl) (fun _ _ => by kernel_rfl) (fun _ _ => by kernel_rfl) (fun _ _ => by kernel_rfl) (fun _ _ => by kernel_rfl) trivial trivial (by kernel_rfl) trivial ?k17
    case k17 =>
     rintro φ17 xs17 I17 w17 le17 s 
     replace hl := BSl.mono le17 hl
     replace h6_0 := Ev.ERep.mono le17 h6_0
     refine wp_ret ?_
     refine ret_rule (C := []) [(r, .cells #[.slice a l.length c, .int .i64 ((p + ((g B).d) : Nat) : Int), .int .i64 (((g B).e : Nat) : Int)] 74), (φ1 0, .cells #[.int .u64 bi6, .pointer pi6] 44), (φ1 1, .cells #[.int .u64 0, .pointer none] 44)] [] (.tuple #[.agg #[.int .u64 bi6, .pointer pi6], .agg #[.int .u64 0, .pointer none], .int .i64 (((g B).er : Nat) : Int)]) [.o 1, .o 1, .o 2, .o 2] [φ1 0, φ1 0, φ1 1, φ1 1] s trivial (by kernel_rfl) ?_
     replace s := s.drop (List.Sublist.append (List.Sublist.cons₂ _ (List.Sublist.cons _ (List.Sublist.cons _ List.Sublist.slnil))) (List.Sublist.refl []))
     have e9 : hvG g (Ev.E.leaf 0) true true B = ⟨(g B).t, (Ev.E.leaf 0), (g B).er, ((g B).d), (g B).e⟩ := by unfold hvG hR hL; simp [hc3, hc9, of_decide_eq_false hc11]
     exact ⟨_, _, _, rfl, s, (by rw [e9]; exact ⟨_, rfl, rfl, _, _, _, _, rfl, (by simp only [Nat.add_assoc, Nat.add_zero]), h6_0, (Ev.ERep.lf _ 0)⟩)⟩
  ·
   rw [hc9]
   refine oKD _ [] 3 [] 0 (fun φ18 => [(22, .bool false), (21, undef), (20, undef)]) (fun φ18 => []) s (fun φ18 => by kernel_rfl) (by kernel_rfl) ?_
   intro φ18 w18 s
   refine cond_false_rule (b := false) (by kernel_rfl) rfl ?_
   refine wp_skip ?_
   refine wp_seq ?_
   refine draw_rule (C := []) ⟨(fun φ19 xs19 => [.look 0 [.o 1, .o 1] [φ1 0, φ1 0], .look 0 [.o 2, .o 2] [φ1 1, φ1 1], .look 0 [] [], .store 0 [.o 1, .o 1] [φ1 0, φ1 0], .store 1 [.o 2, .o 2] [φ1 1, φ1 1], .look 2 [] []]), (fun φ19 xs19 => [.agg #[.int .u64 bi6, .pointer pi6], .agg #[.int .u64 0, .pointer none], .int .i64 (((g B).er : Nat) : Int), undef, undef, .int .i64 (((g B).er : Nat) : Int)]), (fun φ19 xs19 => [[(r, .cells #[.slice a l.length c, .int .i64 ((p + ((g B).d) : Nat) : Int), .int .i64 (((g B).e : Nat) : Int)] 74), (φ1 0, .cells #[.int .u64 bi6, .pointer pi6] 44), (φ1 1, .cells #[.int .u64 0, .pointer none] 44)], [(r, .cells #[.slice a l.length c, .int .i64 ((p + ((g B).d) : Nat) : Int), .int .i64 (((g B).e : Nat) : Int)] 74), (φ1 0, .cells #[.int .u64 bi6, .pointer pi6] 44), (φ1 1, .cells #[.int .u64 0, .pointer none] 44)], [(r, .cells #[.slice a l.length c, .int .i64 ((p + ((g B).d) : Nat) : Int), .int .i64 (((g B).e : Nat) : Int)] 74), (φ1 0, .cells #[.int .u64 bi6, .pointer pi6] 44), (φ1 1, .cells #[.int .u64 0, .pointer none] 44)]]), (fun φ19 xs19 => [[default, default, default, default, default, default], [default, default, default, default, default, default], [default, default, default, default, default, default]]), [3, 4], [1, 1, 1, 4, 4, 1]⟩ (fun j => ([MP.any] : List MP).getD j MP.any) [] [] [] (fun φ19 xs19 => [[none, none, none, none, none, none], [none, none, none, none, none, none]]) (fun φ19 xs19 => [(29, .agg #[.int .u64 bi6, .pointer pi6]), (30, .agg #[.int .u64 0, .pointer none]), (31, .int .i64 (((g B).er : Nat) : Int)), (10, .int .i64 (((g B).er : Nat) : Int))]) (fun φ19 xs19 => [(r, .cells #[.slice a l.length c, .int .i64 ((p + ((g B).d) : Nat) : Int), .int .i64 (((g B).e : Nat) : Int)] 74), (φ1 0, .cells #[.int .u64 bi6, .pointer pi6] 44), (φ1 1, .cells #[.int .u64 0, .pointer none] 44)]) s trivial (by kernel_rfl) (by kernel_rfl) (fun _ _ => by kernel_rfl) (fun _ _ => by kernel_rfl) ⟨fun _ _ => by kernel_rfl, fun _ _ => by kernel_rfl, fun _ _ => by kernel_rfl, fun _ _ => by kernel_rfl⟩ (fun _ _ _ => by kernel_rfl) (fun _ _ => by kernel_rfl) (fun _ _ => by kernel_rfl) (fun _ _ => by kernel_rfl) (fun _ _ => by kernel_rfl) (fun _ _ => by kernel_rfl) trivial trivial (by kernel_rfl) trivial ?k19
   case k19 =>
    rintro φ19 xs19 I19 w19 le19 s 
    replace hl := BSl.mono le19 hl
    replace h6_0 := Ev.ERep.mono le19 h6_0
    refine wp_ret ?_
    refine ret_rule (C := []) [(r, .cells #[.slice a l.length c, .int .i64 ((p + ((g B).d) : Nat) : Int), .int .i64 (((g B).e : Nat) : Int)] 74), (φ1 0, .cells #[.int .u64 bi6, .pointer pi6] 44), (φ1 1, .cells #[.int .u64 0, .pointer none] 44)] [] (.tuple #[.agg #[.int .u64 bi6, .pointer pi6], .agg #[.int .u64 0, .pointer none], .int .i64 (((g B).er : Nat) : Int)]) [.o 1, .o 1, .o 2, .o 2] [φ1 0, φ1 0, φ1 1, φ1 1] s trivial (by kernel_rfl) ?_
    replace s := s.drop (List.Sublist.append (List.Sublist.cons₂ _ (List.Sublist.cons _ (List.Sublist.cons _ List.Sublist.slnil))) (List.Sublist.refl []))
    have e9 : hvG g (Ev.E.leaf 0) true false B = ⟨(g B).t, (Ev.E.leaf 0), (g B).er, ((g B).d), (g B).e⟩ := by unfold hvG hR hL; simp [hc3, hc9]
    exact ⟨_, _, _, rfl, s, (by rw [e9]; exact ⟨_, rfl, rfl, _, _, _, _, rfl, (by simp only [Nat.add_assoc, Nat.add_zero]), h6_0, (Ev.ERep.lf _ 0)⟩)⟩
 ·
  rw [hc3]
  refine cond_false_rule (b := false) (by kernel_rfl) rfl ?_
  refine wp_skip ?_
  refine wp_seq ?_
  refine seqR ?_
  refine oK _ [] 2 [] 0 (fun φ20 => [(19, .bool xb), (18, .bool xb)]) (fun φ20 => []) s (fun φ20 => by kernel_rfl) ?_
  intro φ20 w20 s
  rcases Bool.eq_false_or_eq_true (xb) with hc21 | hc21
  ·
   rw [hc21]
   refine oKD _ [] 3 [] 0 (fun φ22 => [(22, .bool true), (21, .bool true), (20, .int .i64 0)]) (fun φ22 => []) s (fun φ22 => by kernel_rfl) (by kernel_rfl) ?_
   intro φ22 w22 s
   refine cond_true_rule (b := true) (by kernel_rfl) rfl ?_
   refine region_rule ?_
   refine oK _ [] 2 [] 0 (fun φ23 => [(25, .int .i64 deep), (24, .func (.func 41) #[.agg #[pB r]] #[])]) (fun φ23 => []) s (fun φ23 => by kernel_rfl) ?_
   intro φ23 w23 s
   refine callB_rule (b := (r, .cells #[.slice a l.length c, .int .i64 p, .int .i64 e] 74)) (F := []) (Hr := [(φ1 0, .cells #[.int .u64 0, .pointer none] 44), (φ1 1, .cells #[.int .u64 0, .pointer none] 44)]) (some 26) 0 s (by kernel_rfl) (by kernel_rfl) (ih hl hp hB he) (by kernel_rfl) ?_
   rintro v25 I25 w25 b25 le25 - h25 s
   obtain ⟨bi25, pi25, rfl, rfl, h25_0⟩ := h25
   have hB24 := next_B (d := (g B).d) hB
   have hp24 := next_p (d := (g B).d) hp hB (hg.d _)
   refine oAD _ [] 5 [.o 2, .o 2] 0 (fun φ26 => [(10, .int .i64 (((g B).er : Nat) : Int)), (28, .int .i64 (((g B).er : Nat) : Int)), (27, .agg #[.int .u64 bi25, .pointer pi25]), (23, .tuple #[.agg #[.int .u64 bi25, .pointer pi25], .int .i64 (((g B).er : Nat) : Int)])]) (fun φ26 => [(r, .cells #[.slice a l.length c, .int .i64 ((p + ((g B).d) : Nat) : Int), .int .i64 (((g B).e : Nat) : Int)] 74), (φ1 0, .cells #[.int .u64 0, .pointer none] 44), (φ1 1, .cells #[.int .u64 bi25, .pointer pi25] 44)]) (fun φ26 => [φ1 1, φ1 1]) s (fun φ26 => by kernel_rfl) (by kernel_rfl) ?_
   intro φ26 w26 s
   refine wp_seq ?_
   refine draw_rule (C := []) ⟨(fun φ27 xs27 => [.look 0 [.o 1, .o 1] [φ1 0, φ1 0], .look 0 [.o 2, .o 2] [φ1 1, φ1 1], .look 0 [] [], .store 0 [.o 1, .o 1] [φ1 0, φ1 0], .store 1 [.o 2, .o 2] [φ1 1, φ1 1], .look 2 [] []]), (fun φ27 xs27 => [.agg #[.int .u64 0, .pointer none], .agg #[.int .u64 bi25, .pointer pi25], .int .i64 (((g B).er : Nat) : Int), undef, undef, .int .i64 (((g B).er : Nat) : Int)]), (fun φ27 xs27 => [[(r, .cells #[.slice a l.length c, .int .i64 ((p + ((g B).d) : Nat) : Int), .int .i64 (((g B).e : Nat) : Int)] 74), (φ1 0, .cells #[.int .u64 0, .pointer none] 44), (φ1 1, .cells #[.int .u64 bi25, .pointer pi25] 44)], [(r, .cells #[.slice a l.length c, .int .i64 ((p + ((g B).d) : Nat) : Int), .int .i64 (((g B).e : Nat) : Int)] 74), (φ1 0, .cells #[.int .u64 0, .pointer none] 44), (φ1 1, .cells #[.int .u64 bi25, .pointer pi25] 44)], [(r, .cells #[.slice a l.length c, .int .i64 ((p + ((g B).d) : Nat) : Int), .int .i64 (((g B).e : Nat) : Int)] 74), (φ1 0, .cells #[.int .u64 0, .pointer none] 44), (φ1 1, .cells #[.int .u64 bi25, .pointer pi25] 44)]]), (fun φ27 xs27 => [[default, default, default, default, default, default], [default, default, default, default, default, default], [default, default, default, default, default, default]]), [3, 4], [1, 1, 1, 4, 4, 1]⟩ (fun j => ([MP.any] : List MP).getD j MP.any) [] [] [] (fun φ27 xs27 => [[none, none, none, none, none, none], [none, none, none, none, none, none]]) (fun φ27 xs27 => [(29, .agg #[.int .u64 0, .pointer none]), (30, .agg #[.int .u64 bi25, .pointer pi25]), (31, .int .i64 (((g B).er : Nat) : Int)), (10, .int .i64 (((g B).er : Nat) : Int))]) (fun φ27 xs27 => [(r, .cells #[.slice a l.length c, .int .i64 ((p + ((g B).d) : Nat) : Int), .int .i64 (((g B).e : Nat) : Int)] 74), (φ1 0, .cells #[.int .u64 0, .pointer none] 44), (φ1 1, .cells #[.int .u64 bi25, .pointer pi25] 44)]) s trivial (by kernel_rfl) (by kernel_rfl) (fun _ _ => by kernel_rfl) (fun _ _ => by kernel_rfl) ⟨fun _ _ => by kernel_rfl, fun _ _ => by kernel_rfl, fun _ _ => by kernel_rfl, fun _ _ => by kernel_rfl⟩ (fun _ _ _ => by kernel_rfl) (fun _ _ => by kernel_rfl) (fun _ _ => by kernel_rfl) (fun _ _ => by kernel_rfl) (fun _ _ => by kernel_rfl) (fun _ _ => by kernel_rfl) trivial trivial (by kernel_rfl) trivial ?k27
   case k27 =>
    rintro φ27 xs27 I27 w27 le27 s 
    replace h25_0 := Ev.ERep.mono le27 h25_0
    refine wp_ret ?_
    refine ret_rule (C := []) [(r, .cells #[.slice a l.length c, .int .i64 ((p + ((g B).d) : Nat) : Int), .int .i64 (((g B).e : Nat) : Int)] 74), (φ1 0, .cells #[.int .u64 0, .pointer none] 44), (φ1 1, .cells #[.int .u64 bi25, .pointer pi25] 44)] [] (.tuple #[.agg #[.int .u64 0, .pointer none], .agg #[.int .u64 bi25, .pointer pi25], .int .i64 (((g B).er : Nat) : Int)]) [.o 1, .o 1, .o 2, .o 2] [φ1 0, φ1 0, φ1 1, φ1 1] s trivial (by kernel_rfl) ?_
    replace s := s.drop (List.Sublist.append (List.Sublist.cons₂ _ (List.Sublist.cons _ (List.Sublist.cons _ List.Sublist.slnil))) (List.Sublist.refl []))
    have e9 : hvG g (Ev.E.leaf 0) false true B = ⟨(Ev.E.leaf 0), (g B).t, (g B).er, ((g B).d), (g B).e⟩ := by unfold hvG hR hL; simp [hc3, hc21]
    exact ⟨_, _, _, rfl, s, (by rw [e9]; exact ⟨_, rfl, rfl, _, _, _, _, rfl, (by simp only [Nat.add_assoc, Nat.add_zero]), (Ev.ERep.lf _ 0), h25_0⟩)⟩
  ·
   rw [hc21]
   refine oKD _ [] 3 [] 0 (fun φ28 => [(22, .bool false), (21, undef), (20, undef)]) (fun φ28 => []) s (fun φ28 => by kernel_rfl) (by kernel_rfl) ?_
   intro φ28 w28 s
   refine cond_false_rule (b := false) (by kernel_rfl) rfl ?_
   refine wp_skip ?_
   refine wp_seq ?_
   refine draw_rule (C := []) ⟨(fun φ29 xs29 => [.look 0 [.o 1, .o 1] [φ1 0, φ1 0], .look 0 [.o 2, .o 2] [φ1 1, φ1 1], .look 0 [] [], .store 0 [.o 1, .o 1] [φ1 0, φ1 0], .store 1 [.o 2, .o 2] [φ1 1, φ1 1], .look 2 [] []]), (fun φ29 xs29 => [.agg #[.int .u64 0, .pointer none], .agg #[.int .u64 0, .pointer none], .int .i64 0, undef, undef, .int .i64 0]), (fun φ29 xs29 => [[(r, .cells #[.slice a l.length c, .int .i64 p, .int .i64 e] 74), (φ1 0, .cells #[.int .u64 0, .pointer none] 44), (φ1 1, .cells #[.int .u64 0, .pointer none] 44)], [(r, .cells #[.slice a l.length c, .int .i64 p, .int .i64 e] 74), (φ1 0, .cells #[.int .u64 0, .pointer none] 44), (φ1 1, .cells #[.int .u64 0, .pointer none] 44)], [(r, .cells #[.slice a l.length c, .int .i64 p, .int .i64 e] 74), (φ1 0, .cells #[.int .u64 0, .pointer none] 44), (φ1 1, .cells #[.int .u64 0, .pointer none] 44)]]), (fun φ29 xs29 => [[default, default, default, default, default, default], [default, default, default, default, default, default], [default, default, default, default, default, default]]), [3, 4], [1, 1, 1, 4, 4, 1]⟩ (fun j => ([MP.any] : List MP).getD j MP.any) [] [] [] (fun φ29 xs29 => [[none, none, none, none, none, none], [none, none, none, none, none, none]]) (fun φ29 xs29 => [(29, .agg #[.int .u64 0, .pointer none]), (30, .agg #[.int .u64 0, .pointer none]), (31, .int .i64 0), (10, .int .i64 0)]) (fun φ29 xs29 => [(r, .cells #[.slice a l.length c, .int .i64 p, .int .i64 e] 74), (φ1 0, .cells #[.int .u64 0, .pointer none] 44), (φ1 1, .cells #[.int .u64 0, .pointer none] 44)]) s trivial (by kernel_rfl) (by kernel_rfl) (fun _ _ => by kernel_rfl) (fun _ _ => by kernel_rfl) ⟨fun _ _ => by kernel_rfl, fun _ _ => by kernel_rfl, fun _ _ => by kernel_rfl, fun _ _ => by kernel_rfl⟩ (fun _ _ _ => by kernel_rfl) (fun _ _ => by kernel_rfl) (fun _ _ => by kernel_rfl) (fun _ _ => by kernel_rfl) (fun _ _ => by kernel_rfl) (fun _ _ => by kernel_rfl) trivial trivial (by kernel_rfl) trivial ?k29
   case k29 =>
    rintro φ29 xs29 I29 w29 le29 s 
    refine wp_ret ?_
    refine ret_rule (C := []) [(r, .cells #[.slice a l.length c, .int .i64 p, .int .i64 e] 74), (φ1 0, .cells #[.int .u64 0, .pointer none] 44), (φ1 1, .cells #[.int .u64 0, .pointer none] 44)] [] (.tuple #[.agg #[.int .u64 0, .pointer none], .agg #[.int .u64 0, .pointer none], .int .i64 0]) [.o 1, .o 1, .o 2, .o 2] [φ1 0, φ1 0, φ1 1, φ1 1] s trivial (by kernel_rfl) ?_
    replace s := s.drop (List.Sublist.append (List.Sublist.cons₂ _ (List.Sublist.cons _ (List.Sublist.cons _ List.Sublist.slnil))) (List.Sublist.refl []))
    have e9 : hvG g (Ev.E.leaf 0) false false B = ⟨(Ev.E.leaf 0), (Ev.E.leaf 0), 0, 0, e⟩ := by unfold hvG hR hL; simp [hc3, hc21, he]
    exact ⟨_, _, _, rfl, s, (by rw [e9]; exact ⟨_, rfl, rfl, _, _, _, _, rfl, (by simp only [Nat.add_assoc, Nat.add_zero]), (Ev.ERep.lf _ 0), (Ev.ERep.lf _ 0)⟩)⟩

end Go.Proofs.YtgmigcmhnmmdkaaDoor

/- Events are read. -/
set_option linter.all false
set_option maxRecDepth 100000
namespace Go.Proofs.YtgmigcmhnmmdkaaDoor
open Go.RowKit Go.Sep
attribute [local irreducible] Go.wpList Go.Code.wp

set_option maxHeartbeats 4000000 in
theorem node_c {I : IM} {l : List UInt8} {a : Option Addr} {c : Nat} {r p e : Nat} {B : List Bool} (hl : BSl I l (.slice a l.length c)) (hn9 : l.length ≤ 1000000) (hp : p ≤ l.length * 8) (hB : (bitsL l).drop p = B) (he : e = 0) {g : List Bool → Rd Ev.E} (hg : OkE g) {deep : Nat} (hdp : deep ≤ 16) (ih : ∀ {J : IM} {p e : Nat} {B : List Bool}, BSl J l (.slice a l.length c) → p ≤ l.length * 8 → (bitsL l).drop p = B → e = 0 → FunM Tryd.prog 41 #[.agg #[.pointer (some ⟨r, 0, none⟩)], .int .i64 ((deep + 1 : Nat) : Int)] J [(r, .cells #[.slice a l.length c, .int .i64 ((p : Nat) : Int), .int .i64 ((e : Nat) : Int)] 74)] (fun v J H' => ∃ b' : OB, H' = [b'] ∧ b'.1 = r ∧ ∃ bi pi, v = .tuple #[.agg #[.int .u64 ((bi : Nat) : Int), .pointer pi], .int .i64 (((g B).er : Nat) : Int)] ∧ b' = (r, .cells #[.slice a l.length c, .int .i64 ((p + (g B).d : Nat) : Int), .int .i64 (((g B).e : Nat) : Int)] 74) ∧ Ev.ERep J (g B).t bi pi)) : FunM Tryd.prog 79 #[.agg #[.pointer (some ⟨r, 0, none⟩)], .int .i64 ((deep : Nat) : Int)] I [(r, .cells #[.slice a l.length c, .int .i64 ((p : Nat) : Int), .int .i64 ((e : Nat) : Int)] 74)] (fun v J H' => ∃ b' : OB, H' = [b'] ∧ b'.1 = r ∧ ∃ bi pi, v = .tuple #[.agg #[.int .u64 ((bi : Nat) : Int), .pointer pi], .int .i64 (((ndG g B).er : Nat) : Int)] ∧ b' = (r, .cells #[.slice a l.length c, .int .i64 ((p + (ndG g B).d : Nat) : Int), .int .i64 (((ndG g B).e : Nat) : Int)] 74) ∧ Ev.ERep J (ndG g B).t bi pi) := by
 refine enterM_rule 56 [(0, .agg #[pB r]), (1, .int .i64 deep)] Tryd.func79 rfl (by kernel_rfl) ?_
 intro w s
 refine seqR ?_
 refine oAD [(r, .cells #[.slice a l.length c, .int .i64 p, .int .i64 e] 74)] [] 3 [] 2 (fun φ1 => [(5, .int .i64 0), (4, pB (φ1 1)), (2, pB (φ1 0))]) (fun φ1 => [(r, .cells #[.slice a l.length c, .int .i64 p, .int .i64 e] 74), (φ1 0, .cells #[pB r] 71), (φ1 1, .cells #[.int .u64 0, .pointer none] 44)]) (fun φ1 => []) s (fun φ1 => by kernel_rfl) (by kernel_rfl) ?_
 intro φ1 w1 s
 refine seqR ?_
 refine oK _ [] 1 [.o 1] 0 (fun φ2 => [(12, .agg #[pB r])]) (fun φ2 => [(φ1 0)]) s (fun φ2 => by kernel_rfl) ?_
 intro φ2 w2 s
 refine callB_rule (b := (r, .cells #[.slice a l.length c, .int .i64 p, .int .i64 e] 74)) (F := []) (Hr := [(φ1 0, .cells #[pB r] 71), (φ1 1, .cells #[.int .u64 0, .pointer none] 44)]) (some 13) 0 s (by kernel_rfl) (by kernel_rfl) (head_c (r := r) (p := p) (B := B) hl hn9 hp hB he) (by kernel_rfl) ?_
 rintro v4 I4 w4 b4 le4 - h4 s
 replace hl := BSl.mono le4 hl
 obtain ⟨rfl, rfl⟩ := h4
 have hB3 := next_B (d := (hdG B).d) hB
 have hp3 := next_p (d := (hdG B).d) hp hB (hd_d _)
 refine oKD _ [] 7 [] 0 (fun φ5 => [(8, .int .i64 (((hdG B).er : Nat) : Int)), (7, .int .u64 (((hdG B).n : Nat) : Int)), (6, .int .u64 (((hdG B).k : Nat) : Int)), (16, .int .i64 (((hdG B).er : Nat) : Int)), (15, .int .u64 (((hdG B).n : Nat) : Int)), (14, .int .u64 (((hdG B).k : Nat) : Int)), (11, .tuple #[.int .u64 (((hdG B).k : Nat) : Int), .int .u64 (((hdG B).n : Nat) : Int), .int .i64 (((hdG B).er : Nat) : Int)])]) (fun φ5 => []) s (fun φ5 => by kernel_rfl) (by kernel_rfl) ?_
 intro φ5 w5 s
 refine wp_seq ?_
 refine seqR ?_
 refine oK _ [] 2 [] 0 (fun φ6 => [(18, .bool ((((hdG B).er : Nat) : Int) != ((0 : Nat) : Int))), (17, .int .i64 (((hdG B).er : Nat) : Int))]) (fun φ6 => []) s (fun φ6 => by kernel_rfl) ?_
 intro φ6 w6 s
 rw [nat_neq (a := ((hdG B).er)) (b := 0)]
 refine ops_done (by kernel_rfl) ?_
 rcases Bool.eq_false_or_eq_true (decide (((hdG B).er) ≠ 0)) with hc7 | hc7
 ·
  rw [hc7]
  refine cond_true_rule (b := true) (by kernel_rfl) rfl ?_
  refine seqR ?_
  refine oKD _ [] 4 [.o 2, .o 2] 0 (fun φ8 => [(5, .int .i64 (((hdG B).er : Nat) : Int)), (20, .int .i64 (((hdG B).er : Nat) : Int)), (19, .agg #[.int .u64 0, .pointer none])]) (fun φ8 => [φ1 1, φ1 1]) s (fun φ8 => by kernel_rfl) (by kernel_rfl) ?_
  intro φ8 w8 s
  refine wp_ret ?_
  refine ret_rule (C := []) _ [] (.tuple #[.agg #[.int .u64 0, .pointer none], .int .i64 (((hdG B).er : Nat) : Int)]) [.o 2, .o 2] [φ1 1, φ1 1] s trivial (by kernel_rfl) ?_
  replace s := s.drop (List.Sublist.append (List.Sublist.cons₂ _ (List.Sublist.cons _ (List.Sublist.cons _ List.Sublist.slnil))) (List.Sublist.refl []))
  have e9 : ndG g B = ⟨(Ev.E.leaf 0), (hdG B).er, ((hdG B).d), (hdG B).e⟩ := by unfold ndG; rw [if_pos (of_decide_eq_true hc7)]
  exact ⟨_, _, _, rfl, s, (by rw [e9]; exact ⟨_, rfl, rfl, _, _, rfl, (by simp only [Nat.add_assoc, Nat.add_zero]), (Ev.ERep.lf _ 0)⟩)⟩
 ·
  rw [hc7]
  refine cond_false_rule (b := false) (by kernel_rfl) rfl ?_
  refine wp_skip ?_
  refine seqR ?_
  refine oK _ [] 8 [.o 1] 0 (fun φ9 => [(29, .func (.func 41) #[.agg #[pB r]] #[]), (28, .agg #[pB r]), (27, .int .i64 (IntKind.wrap .i64 (((deep : Nat) : Int) + ((1 : Nat) : Int)))), (26, .int .i64 deep), (25, .bool ((((hdG B).k : Nat) : Int) != ((1 : Nat) : Int))), (24, .int .u64 (((hdG B).k : Nat) : Int)), (23, .bool ((((hdG B).k : Nat) : Int) != ((0 : Nat) : Int))), (22, .int .u64 (((hdG B).k : Nat) : Int))]) (fun φ9 => [(φ1 0)]) s (fun φ9 => by kernel_rfl) ?_
  intro φ9 w9 s
  rw [nat_neq (a := ((hdG B).k)) (b := 0)]
  rw [nat_neq (a := ((hdG B).k)) (b := 1)]
  rw [nat_addI (a := deep) (b := 1) (by  have hq0 := of_decide_eq_false hc7; omega)]
  refine callB_rule (b := (r, .cells #[.slice a l.length c, .int .i64 ((p + ((hdG B).d) : Nat) : Int), .int .i64 (((hdG B).e : Nat) : Int)] 74)) (F := []) (Hr := [(φ1 0, .cells #[pB r] 71), (φ1 1, .cells #[.int .u64 0, .pointer none] 44)]) (some 30) 0 s (by kernel_rfl) (by kernel_rfl) (halvesE_c (r := r) (p := p + ((hdG B).d)) (B := (B.drop ((hdG B).d))) hl hn9 hp3 hB3 (hd_e _ (Decidable.not_not.1 (of_decide_eq_false hc7))) hg (deep := deep + 1) ih (xa := decide (((hdG B).k) ≠ 0)) (xb := decide (((hdG B).k) ≠ 1))) (by kernel_rfl) ?_
  rintro v11 I11 w11 b11 le11 - h11 s
  obtain ⟨b111, p111, b211, p211, rfl, rfl, h11_0, h11_1⟩ := h11
  have hB10 := next_B (d := (hvG g (Ev.E.leaf 0) (decide (((hdG B).k) ≠ 0)) (decide (((hdG B).k) ≠ 1)) (B.drop ((hdG B).d))).d) hB3
  have hp10 := next_p (d := (hvG g (Ev.E.leaf 0) (decide (((hdG B).k) ≠ 0)) (decide (((hdG B).k) ≠ 1)) (B.drop ((hdG B).d))).d) hp3 hB3 (hv_d hg zE)
  refine oAD _ [] 9 [.o 3, .o 3, .o 4, .o 4] 2 (fun φ12 => [(8, .int .i64 (((hvG g (Ev.E.leaf 0) (decide (((hdG B).k) ≠ 0)) (decide (((hdG B).k) ≠ 1)) (B.drop ((hdG B).d))).er : Nat) : Int)), (10, pB (φ12 1)), (9, pB (φ12 0)), (33, .int .i64 (((hvG g (Ev.E.leaf 0) (decide (((hdG B).k) ≠ 0)) (decide (((hdG B).k) ≠ 1)) (B.drop ((hdG B).d))).er : Nat) : Int)), (32, .agg #[.int .u64 b211, .pointer p211]), (31, .agg #[.int .u64 b111, .pointer p111]), (21, .tuple #[.agg #[.int .u64 b111, .pointer p111], .agg #[.int .u64 b211, .pointer p211], .int .i64 (((hvG g (Ev.E.leaf 0) (decide (((hdG B).k) ≠ 0)) (decide (((hdG B).k) ≠ 1)) (B.drop ((hdG B).d))).er : Nat) : Int)])]) (fun φ12 => [(r, .cells #[.slice a l.length c, .int .i64 ((p + ((hdG B).d) + ((hvG g (Ev.E.leaf 0) (decide (((hdG B).k) ≠ 0)) (decide (((hdG B).k) ≠ 1)) (B.drop ((hdG B).d))).d) : Nat) : Int), .int .i64 (((hvG g (Ev.E.leaf 0) (decide (((hdG B).k) ≠ 0)) (decide (((hdG B).k) ≠ 1)) (B.drop ((hdG B).d))).e : Nat) : Int)] 74), (φ1 0, .cells #[pB r] 71), (φ1 1, .cells #[.int .u64 0, .pointer none] 44), (φ12 0, .cells #[.int .u64 b111, .pointer p111] 44), (φ12 1, .cells #[.int .u64 b211, .pointer p211] 44)]) (fun φ12 => [φ12 0, φ12 0, φ12 1, φ12 1]) s (fun φ12 => by kernel_rfl) (by kernel_rfl) ?_
  intro φ12 w12 s
  refine wp_seq ?_
  refine seqR ?_
  refine oK _ [] 2 [] 0 (fun φ13 => [(35, .bool ((((hvG g (Ev.E.leaf 0) (decide (((hdG B).k) ≠ 0)) (decide (((hdG B).k) ≠ 1)) (B.drop ((hdG B).d))).er : Nat) : Int) != ((0 : Nat) : Int))), (34, .int .i64 (((hvG g (Ev.E.leaf 0) (decide (((hdG B).k) ≠ 0)) (decide (((hdG B).k) ≠ 1)) (B.drop ((hdG B).d))).er : Nat) : Int))]) (fun φ13 => []) s (fun φ13 => by kernel_rfl) ?_
  intro φ13 w13 s
  rw [nat_neq (a := ((hvG g (Ev.E.leaf 0) (decide (((hdG B).k) ≠ 0)) (decide (((hdG B).k) ≠ 1)) (B.drop ((hdG B).d))).er)) (b := 0)]
  refine ops_done (by kernel_rfl) ?_
  rcases Bool.eq_false_or_eq_true (decide (((hvG g (Ev.E.leaf 0) (decide (((hdG B).k) ≠ 0)) (decide (((hdG B).k) ≠ 1)) (B.drop ((hdG B).d))).er) ≠ 0)) with hc14 | hc14
  ·
   rw [hc14]
   refine cond_true_rule (b := true) (by kernel_rfl) rfl ?_
   refine seqR ?_
   refine oKD _ [] 4 [.o 2, .o 2] 0 (fun φ15 => [(5, .int .i64 (((hvG g (Ev.E.leaf 0) (decide (((hdG B).k) ≠ 0)) (decide (((hdG B).k) ≠ 1)) (B.drop ((hdG B).d))).er : Nat) : Int)), (37, .int .i64 (((hvG g (Ev.E.leaf 0) (decide (((hdG B).k) ≠ 0)) (decide (((hdG B).k) ≠ 1)) (B.drop ((hdG B).d))).er : Nat) : Int)), (36, .agg #[.int .u64 0, .pointer none])]) (fun φ15 => [φ1 1, φ1 1]) s (fun φ15 => by kernel_rfl) (by kernel_rfl) ?_
   intro φ15 w15 s
   refine wp_ret ?_
   refine ret_rule (C := []) _ [] (.tuple #[.agg #[.int .u64 0, .pointer none], .int .i64 (((hvG g (Ev.E.leaf 0) (decide (((hdG B).k) ≠ 0)) (decide (((hdG B).k) ≠ 1)) (B.drop ((hdG B).d))).er : Nat) : Int)]) [.o 2, .o 2] [φ1 1, φ1 1] s trivial (by kernel_rfl) ?_
   replace s := s.drop (List.Sublist.append (List.Sublist.cons₂ _ (List.Sublist.cons _ (List.Sublist.cons _ (List.Sublist.cons _ (List.Sublist.cons _ List.Sublist.slnil))))) (List.Sublist.refl []))
   have e9 : ndG g B = ⟨(Ev.E.leaf 0), (hvG g (Ev.E.leaf 0) (decide (((hdG B).k) ≠ 0)) (decide (((hdG B).k) ≠ 1)) (B.drop ((hdG B).d))).er, ((hdG B).d) + ((hvG g (Ev.E.leaf 0) (decide (((hdG B).k) ≠ 0)) (decide (((hdG B).k) ≠ 1)) (B.drop ((hdG B).d))).d), (hvG g (Ev.E.leaf 0) (decide (((hdG B).k) ≠ 0)) (decide (((hdG B).k) ≠ 1)) (B.drop ((hdG B).d))).e⟩ := by unfold ndG; rw [if_neg (of_decide_eq_false hc7), if_pos (of_decide_eq_true hc14)]
   exact ⟨_, _, _, rfl, s, (by rw [e9]; exact ⟨_, rfl, rfl, _, _, rfl, (by simp only [Nat.add_assoc, Nat.add_zero]), (Ev.ERep.lf _ 0)⟩)⟩
  ·
   rw [hc14]
   refine cond_false_rule (b := false) (by kernel_rfl) rfl ?_
   refine wp_skip ?_
   refine wp_seq ?_
   refine seqR ?_
   refine oK _ [] 2 [.o 3, .o 3, .o 4, .o 4] 0 (fun φ16 => [(39, .agg #[.int .u64 b211, .pointer p211]), (38, .agg #[.int .u64 b111, .pointer p111])]) (fun φ16 => [φ12 0, φ12 0, φ12 1, φ12 1]) s (fun φ16 => by kernel_rfl) ?_
   intro φ16 w16 s
   refine call_rule (some 40) s (halvesKind_c h11_0 h11_1 (Nat.lt_of_le_of_lt (hv_s hg zE).1.2 (by decide)) (Nat.lt_of_le_of_lt (hv_s hg zE).2.2 (by decide))) (by kernel_rfl) ?_
   intro v17 I17 w17 le17 h17 s
   replace h11_0 := Ev.ERep.mono le17 h11_0
   replace h11_1 := Ev.ERep.mono le17 h11_1
   obtain rfl := h17
   refine oK _ [] 3 [] 0 (fun φ18 => [(43, .bool (((kindE ((hvG g (Ev.E.leaf 0) (decide (((hdG B).k) ≠ 0)) (decide (((hdG B).k) ≠ 1)) (B.drop ((hdG B).d))).l) ((hvG g (Ev.E.leaf 0) (decide (((hdG B).k) ≠ 0)) (decide (((hdG B).k) ≠ 1)) (B.drop ((hdG B).d))).r) : Nat) : Int) != (((hdG B).k : Nat) : Int))), (42, .bool (((kindE ((hvG g (Ev.E.leaf 0) (decide (((hdG B).k) ≠ 0)) (decide (((hdG B).k) ≠ 1)) (B.drop ((hdG B).d))).l) ((hvG g (Ev.E.leaf 0) (decide (((hdG B).k) ≠ 0)) (decide (((hdG B).k) ≠ 1)) (B.drop ((hdG B).d))).r) : Nat) : Int) != (((hdG B).k : Nat) : Int))), (41, .int .u64 (((hdG B).k : Nat) : Int))]) (fun φ18 => []) s (fun φ18 => by kernel_rfl) ?_
   intro φ18 w18 s
   rw [nat_neq (a := (kindE ((hvG g (Ev.E.leaf 0) (decide (((hdG B).k) ≠ 0)) (decide (((hdG B).k) ≠ 1)) (B.drop ((hdG B).d))).l) ((hvG g (Ev.E.leaf 0) (decide (((hdG B).k) ≠ 0)) (decide (((hdG B).k) ≠ 1)) (B.drop ((hdG B).d))).r))) (b := ((hdG B).k))]
   rcases Bool.eq_false_or_eq_true (decide ((kindE ((hvG g (Ev.E.leaf 0) (decide (((hdG B).k) ≠ 0)) (decide (((hdG B).k) ≠ 1)) (B.drop ((hdG B).d))).l) ((hvG g (Ev.E.leaf 0) (decide (((hdG B).k) ≠ 0)) (decide (((hdG B).k) ≠ 1)) (B.drop ((hdG B).d))).r)) ≠ ((hdG B).k))) with hc19 | hc19
   ·
    rw [hc19]
    refine oKD _ [] 5 [] 0 (fun φ20 => [(48, .bool true), (47, undef), (46, undef), (45, undef), (44, undef)]) (fun φ20 => []) s (fun φ20 => by kernel_rfl) (by kernel_rfl) ?_
    intro φ20 w20 s
    refine cond_true_rule (b := true) (by kernel_rfl) rfl ?_
    refine seqR ?_
    refine oKD _ [] 3 [.o 2, .o 2] 0 (fun φ21 => [(5, .int .i64 6), (49, .agg #[.int .u64 0, .pointer none])]) (fun φ21 => [φ1 1, φ1 1]) s (fun φ21 => by kernel_rfl) (by kernel_rfl) ?_
    intro φ21 w21 s
    refine wp_ret ?_
    refine ret_rule (C := []) _ [] (.tuple #[.agg #[.int .u64 0, .pointer none], .int .i64 6]) [.o 2, .o 2] [φ1 1, φ1 1] s trivial (by kernel_rfl) ?_
    replace s := s.drop (List.Sublist.append (List.Sublist.cons₂ _ (List.Sublist.cons _ (List.Sublist.cons _ (List.Sublist.cons _ (List.Sublist.cons _ List.Sublist.slnil))))) (List.Sublist.refl []))
    have e9 : ndG g B = ⟨(Ev.E.leaf 0), 6, ((hdG B).d) + ((hvG g (Ev.E.leaf 0) (decide (((hdG B).k) ≠ 0)) (decide (((hdG B).k) ≠ 1)) (B.drop ((hdG B).d))).d), (hvG g (Ev.E.leaf 0) (decide (((hdG B).k) ≠ 0)) (decide (((hdG B).k) ≠ 1)) (B.drop ((hdG B).d))).e⟩ := by unfold ndG; rw [if_neg (of_decide_eq_false hc7), if_neg (of_decide_eq_false hc14), if_pos (of_decide_eq_true hc19)]
    exact ⟨_, _, _, rfl, s, (by rw [e9]; exact ⟨_, rfl, rfl, _, _, rfl, (by simp only [Nat.add_assoc, Nat.add_zero]), (Ev.ERep.lf _ 0)⟩)⟩
   ·
    rw [hc19]
    refine oK _ [] 2 [.o 3, .o 3, .o 4, .o 4] 0 (fun φ22 => [(45, .agg #[.int .u64 b211, .pointer p211]), (44, .agg #[.int .u64 b111, .pointer p111])]) (fun φ22 => [φ12 0, φ12 0, φ12 1, φ12 1]) s (fun φ22 => by kernel_rfl) ?_
    intro φ22 w22 s
    refine call_rule (some 46) s (inForm_c h11_0 h11_1 (Nat.lt_of_le_of_lt (hv_s hg zE).1.2 (by decide)) (Nat.lt_of_le_of_lt (hv_s hg zE).2.2 (by decide))) (by kernel_rfl) ?_
    intro v23 I23 w23 le23 h23 s
    replace h11_0 := Ev.ERep.mono le23 h11_0
    replace h11_1 := Ev.ERep.mono le23 h11_1
    obtain rfl := h23
    refine oKD _ [] 2 [] 0 (fun φ24 => [(48, .bool (!(inF ((hvG g (Ev.E.leaf 0) (decide (((hdG B).k) ≠ 0)) (decide (((hdG B).k) ≠ 1)) (B.drop ((hdG B).d))).l) ((hvG g (Ev.E.leaf 0) (decide (((hdG B).k) ≠ 0)) (decide (((hdG B).k) ≠ 1)) (B.drop ((hdG B).d))).r)))), (47, .bool (!(inF ((hvG g (Ev.E.leaf 0) (decide (((hdG B).k) ≠ 0)) (decide (((hdG B).k) ≠ 1)) (B.drop ((hdG B).d))).l) ((hvG g (Ev.E.leaf 0) (decide (((hdG B).k) ≠ 0)) (decide (((hdG B).k) ≠ 1)) (B.drop ((hdG B).d))).r))))]) (fun φ24 => []) s (fun φ24 => by kernel_rfl) (by kernel_rfl) ?_
    intro φ24 w24 s
    rcases Bool.eq_false_or_eq_true (inF ((hvG g (Ev.E.leaf 0) (decide (((hdG B).k) ≠ 0)) (decide (((hdG B).k) ≠ 1)) (B.drop ((hdG B).d))).l) ((hvG g (Ev.E.leaf 0) (decide (((hdG B).k) ≠ 0)) (decide (((hdG B).k) ≠ 1)) (B.drop ((hdG B).d))).r)) with hc25 | hc25
    ·
     rw [hc25]
     refine cond_false_rule (b := false) (by kernel_rfl) rfl ?_
     refine wp_skip ?_
     refine seqR ?_
     refine oK _ [] 3 [.o 3, .o 3, .o 4, .o 4] 0 (fun φ26 => [(52, .agg #[.int .u64 b211, .pointer p211]), (51, .agg #[.int .u64 b111, .pointer p111]), (50, .int .u64 (((hdG B).n : Nat) : Int))]) (fun φ26 => [φ12 0, φ12 0, φ12 1, φ12 1]) s (fun φ26 => by kernel_rfl) ?_
     intro φ26 w26 s
     refine call_rule (some 53) s (Ev.nodeR_c (n := (hdG B).n) h11_0 h11_1 (hv_s hg zE).1.2 (hv_s hg zE).2.2 (Nat.le_trans (hv_s hg zE).1.1 (by decide)) (Nat.le_trans (hv_s hg zE).2.1 (by decide))) (by kernel_rfl) ?_
     intro v27 I27 w27 le27 h27 s
     obtain ⟨b27, p27, rfl, h27_0⟩ := h27
     refine oAD _ [] 4 [.o 2, .o 2] 0 (fun φ28 => [(5, .int .i64 (((Ev.nodeR ((hdG B).n) ((hvG g (Ev.E.leaf 0) (decide (((hdG B).k) ≠ 0)) (decide (((hdG B).k) ≠ 1)) (B.drop ((hdG B).d))).l) ((hvG g (Ev.E.leaf 0) (decide (((hdG B).k) ≠ 0)) (decide (((hdG B).k) ≠ 1)) (B.drop ((hdG B).d))).r)).2 : Nat) : Int)), (55, .int .i64 (((Ev.nodeR ((hdG B).n) ((hvG g (Ev.E.leaf 0) (decide (((hdG B).k) ≠ 0)) (decide (((hdG B).k) ≠ 1)) (B.drop ((hdG B).d))).l) ((hvG g (Ev.E.leaf 0) (decide (((hdG B).k) ≠ 0)) (decide (((hdG B).k) ≠ 1)) (B.drop ((hdG B).d))).r)).2 : Nat) : Int)), (54, .agg #[.int .u64 b27, .pointer p27])]) (fun φ28 => [(r, .cells #[.slice a l.length c, .int .i64 ((p + ((hdG B).d) + ((hvG g (Ev.E.leaf 0) (decide (((hdG B).k) ≠ 0)) (decide (((hdG B).k) ≠ 1)) (B.drop ((hdG B).d))).d) : Nat) : Int), .int .i64 (((hvG g (Ev.E.leaf 0) (decide (((hdG B).k) ≠ 0)) (decide (((hdG B).k) ≠ 1)) (B.drop ((hdG B).d))).e : Nat) : Int)] 74), (φ1 0, .cells #[pB r] 71), (φ1 1, .cells #[.int .u64 b27, .pointer p27] 44), (φ12 0, .cells #[.int .u64 b111, .pointer p111] 44), (φ12 1, .cells #[.int .u64 b211, .pointer p211] 44)]) (fun φ28 => [φ1 1, φ1 1]) s (fun φ28 => by kernel_rfl) (by kernel_rfl) ?_
     intro φ28 w28 s
     refine wp_ret ?_
     refine ret_rule (C := []) _ [] (.tuple #[.agg #[.int .u64 b27, .pointer p27], .int .i64 (((Ev.nodeR ((hdG B).n) ((hvG g (Ev.E.leaf 0) (decide (((hdG B).k) ≠ 0)) (decide (((hdG B).k) ≠ 1)) (B.drop ((hdG B).d))).l) ((hvG g (Ev.E.leaf 0) (decide (((hdG B).k) ≠ 0)) (decide (((hdG B).k) ≠ 1)) (B.drop ((hdG B).d))).r)).2 : Nat) : Int)]) [.o 2, .o 2] [φ1 1, φ1 1] s trivial (by kernel_rfl) ?_
     replace s := s.drop (List.Sublist.append (List.Sublist.cons₂ _ (List.Sublist.cons _ (List.Sublist.cons _ (List.Sublist.cons _ (List.Sublist.cons _ List.Sublist.slnil))))) (List.Sublist.refl []))
     have e9 : ndG g B = ⟨(Ev.nodeR ((hdG B).n) ((hvG g (Ev.E.leaf 0) (decide (((hdG B).k) ≠ 0)) (decide (((hdG B).k) ≠ 1)) (B.drop ((hdG B).d))).l) ((hvG g (Ev.E.leaf 0) (decide (((hdG B).k) ≠ 0)) (decide (((hdG B).k) ≠ 1)) (B.drop ((hdG B).d))).r)).1, (Ev.nodeR ((hdG B).n) ((hvG g (Ev.E.leaf 0) (decide (((hdG B).k) ≠ 0)) (decide (((hdG B).k) ≠ 1)) (B.drop ((hdG B).d))).l) ((hvG g (Ev.E.leaf 0) (decide (((hdG B).k) ≠ 0)) (decide (((hdG B).k) ≠ 1)) (B.drop ((hdG B).d))).r)).2, ((hdG B).d) + ((hvG g (Ev.E.leaf 0) (decide (((hdG B).k) ≠ 0)) (decide (((hdG B).k) ≠ 1)) (B.drop ((hdG B).d))).d), (hvG g (Ev.E.leaf 0) (decide (((hdG B).k) ≠ 0)) (decide (((hdG B).k) ≠ 1)) (B.drop ((hdG B).d))).e⟩ := by unfold ndG; rw [if_neg (of_decide_eq_false hc7), if_neg (of_decide_eq_false hc14), if_neg (of_decide_eq_false hc19), if_pos hc25]
     exact ⟨_, _, _, rfl, s, (by rw [e9]; exact ⟨_, rfl, rfl, _, _, rfl, (by simp only [Nat.add_assoc, Nat.add_zero]), h27_0⟩)⟩
    ·
     rw [hc25]
     refine cond_true_rule (b := true) (by kernel_rfl) rfl ?_
     refine seqR ?_
     refine oKD _ [] 3 [.o 2, .o 2] 0 (fun φ29 => [(5, .int .i64 6), (49, .agg #[.int .u64 0, .pointer none])]) (fun φ29 => [φ1 1, φ1 1]) s (fun φ29 => by kernel_rfl) (by kernel_rfl) ?_
     intro φ29 w29 s
     refine wp_ret ?_
     refine ret_rule (C := []) _ [] (.tuple #[.agg #[.int .u64 0, .pointer none], .int .i64 6]) [.o 2, .o 2] [φ1 1, φ1 1] s trivial (by kernel_rfl) ?_
     replace s := s.drop (List.Sublist.append (List.Sublist.cons₂ _ (List.Sublist.cons _ (List.Sublist.cons _ (List.Sublist.cons _ (List.Sublist.cons _ List.Sublist.slnil))))) (List.Sublist.refl []))
     have e9 : ndG g B = ⟨(Ev.E.leaf 0), 6, ((hdG B).d) + ((hvG g (Ev.E.leaf 0) (decide (((hdG B).k) ≠ 0)) (decide (((hdG B).k) ≠ 1)) (B.drop ((hdG B).d))).d), (hvG g (Ev.E.leaf 0) (decide (((hdG B).k) ≠ 0)) (decide (((hdG B).k) ≠ 1)) (B.drop ((hdG B).d))).e⟩ := by unfold ndG; rw [if_neg (of_decide_eq_false hc7), if_neg (of_decide_eq_false hc14), if_neg (of_decide_eq_false hc19), if_neg (show ¬ inF ((hvG g (Ev.E.leaf 0) (decide (((hdG B).k) ≠ 0)) (decide (((hdG B).k) ≠ 1)) (B.drop ((hdG B).d))).l) ((hvG g (Ev.E.leaf 0) (decide (((hdG B).k) ≠ 0)) (decide (((hdG B).k) ≠ 1)) (B.drop ((hdG B).d))).r) = true by rw [hc25]; decide)]
     exact ⟨_, _, _, rfl, s, (by rw [e9]; exact ⟨_, rfl, rfl, _, _, rfl, (by simp only [Nat.add_assoc, Nat.add_zero]), (Ev.ERep.lf _ 0)⟩)⟩

set_option maxHeartbeats 4000000 in
theorem event_step {I : IM} {l : List UInt8} {a : Option Addr} {c : Nat} {r p e : Nat} {B : List Bool} (hl : BSl I l (.slice a l.length c)) (hn9 : l.length ≤ 1000000) (hp : p ≤ l.length * 8) (hB : (bitsL l).drop p = B) (he : e = 0) {g : List Bool → Rd Ev.E} (hg : OkE g) {deep : Nat} (hdp : deep ≤ 16) {last : Bool} (hlast : last = decide (deep = 16)) (ih : deep ≠ 16 → ∀ {J : IM} {p e : Nat} {B : List Bool}, BSl J l (.slice a l.length c) → p ≤ l.length * 8 → (bitsL l).drop p = B → e = 0 → FunM Tryd.prog 41 #[.agg #[.pointer (some ⟨r, 0, none⟩)], .int .i64 ((deep + 1 : Nat) : Int)] J [(r, .cells #[.slice a l.length c, .int .i64 ((p : Nat) : Int), .int .i64 ((e : Nat) : Int)] 74)] (fun v J H' => ∃ b' : OB, H' = [b'] ∧ b'.1 = r ∧ ∃ bi pi, v = .tuple #[.agg #[.int .u64 ((bi : Nat) : Int), .pointer pi], .int .i64 (((g B).er : Nat) : Int)] ∧ b' = (r, .cells #[.slice a l.length c, .int .i64 ((p + (g B).d : Nat) : Int), .int .i64 (((g B).e : Nat) : Int)] 74) ∧ Ev.ERep J (g B).t bi pi)) : FunM Tryd.prog 41 #[.agg #[.pointer (some ⟨r, 0, none⟩)], .int .i64 ((deep : Nat) : Int)] I [(r, .cells #[.slice a l.length c, .int .i64 ((p : Nat) : Int), .int .i64 ((e : Nat) : Int)] 74)] (fun v J H' => ∃ b' : OB, H' = [b'] ∧ b'.1 = r ∧ ∃ bi pi, v = .tuple #[.agg #[.int .u64 ((bi : Nat) : Int), .pointer pi], .int .i64 (((evN g last B).er : Nat) : Int)] ∧ b' = (r, .cells #[.slice a l.length c, .int .i64 ((p + (evN g last B).d : Nat) : Int), .int .i64 (((evN g last B).e : Nat) : Int)] 74) ∧ Ev.ERep J (evN g last B).t bi pi) := by
 refine enterM_rule 41 [(0, .agg #[pB r]), (1, .int .i64 deep)] Tryd.func41 rfl (by kernel_rfl) ?_
 intro w s
 refine seqR ?_
 refine oAD [(r, .cells #[.slice a l.length c, .int .i64 p, .int .i64 e] 74)] [] 3 [] 2 (fun φ1 => [(5, .int .i64 0), (4, pB (φ1 1)), (2, pB (φ1 0))]) (fun φ1 => [(r, .cells #[.slice a l.length c, .int .i64 p, .int .i64 e] 74), (φ1 0, .cells #[pB r] 71), (φ1 1, .cells #[.int .u64 0, .pointer none] 44)]) (fun φ1 => []) s (fun φ1 => by kernel_rfl) (by kernel_rfl) ?_
 intro φ1 w1 s
 refine seqR ?_
 refine oK _ [] 2 [.o 1] 0 (fun φ2 => [(10, pB r), (9, pB (φ1 0))]) (fun φ2 => [(φ1 0)]) s (fun φ2 => by kernel_rfl) ?_
 intro φ2 w2 s
 refine callB_rule (b := (r, .cells #[.slice a l.length c, .int .i64 p, .int .i64 e] 74)) (F := []) (Hr := [(φ1 0, .cells #[pB r] 71), (φ1 1, .cells #[.int .u64 0, .pointer none] 44)]) (some 11) 0 s (by kernel_rfl) (by kernel_rfl) (getK_c (k := 1) (r := r) (p := p) (B := B) hl hn9 hp hB he (by decide)) (by kernel_rfl) ?_
 rintro v4 I4 w4 b4 le4 - h4 s
 replace hl := BSl.mono le4 hl
 obtain ⟨rfl, rfl⟩ := h4
 have hB3 := next_B (d := gD 0 B 1) hB
 have hp3 := next_p (d := gD 0 B 1) hp hB (gD_le _ _ _)
 refine oK _ [] 2 [] 0 (fun φ5 => [(6, .bool (((gV 0 B 1 : Nat) : Int) == ((1 : Nat) : Int))), (12, .bool (((gV 0 B 1 : Nat) : Int) == ((1 : Nat) : Int)))]) (fun φ5 => []) s (fun φ5 => by kernel_rfl) ?_
 intro φ5 w5 s
 rw [nat_eql (a := (gV 0 B 1)) (b := 1)]
 refine ops_done (by kernel_rfl) ?_
 refine wp_seq ?_
 refine wp_block ?_
 refine seqR ?_
 refine oK _ [] 1 [.o 1] 0 (fun φ6 => [(14, .agg #[pB r])]) (fun φ6 => [(φ1 0)]) s (fun φ6 => by kernel_rfl) ?_
 intro φ6 w6 s
 refine callB_rule (b := (r, .cells #[.slice a l.length c, .int .i64 ((p + (gD 0 B 1) : Nat) : Int), .int .i64 (gE 0 B 1)] 74)) (F := []) (Hr := [(φ1 0, .cells #[pB r] 71), (φ1 1, .cells #[.int .u64 0, .pointer none] 44)]) (some 15) 0 s (by kernel_rfl) (by kernel_rfl) (failed_c (r := r) (v0 := .slice a l.length c) (v1 := .int .i64 ((p + (gD 0 B 1) : Nat) : Int)) (e := gE 0 B 1)) (by kernel_rfl) ?_
 rintro v7 I7 w7 b7 le7 - h7 s
 replace hl := BSl.mono le7 hl
 obtain ⟨rfl, rfl⟩ := h7
 refine oKD _ [] 1 [] 0 (fun φ8 => [(13, .bool (decide (gE 0 B 1 ≠ 0)))]) (fun φ8 => []) s (fun φ8 => by kernel_rfl) (by kernel_rfl) ?_
 intro φ8 w8 s
 rcases Bool.eq_false_or_eq_true (decide (gE 0 B 1 ≠ 0)) with hc9 | hc9
 ·
  rw [hc9]
  refine cond_true_rule (b := true) (by kernel_rfl) rfl ?_
  refine seqR ?_
  refine oKD _ [] 3 [.o 2, .o 2] 0 (fun φ10 => [(5, .int .i64 6), (16, .agg #[.int .u64 0, .pointer none])]) (fun φ10 => [φ1 1, φ1 1]) s (fun φ10 => by kernel_rfl) (by kernel_rfl) ?_
  intro φ10 w10 s
  refine wp_ret ?_
  refine ret_rule (C := []) _ [] (.tuple #[.agg #[.int .u64 0, .pointer none], .int .i64 6]) [.o 2, .o 2] [φ1 1, φ1 1] s trivial (by kernel_rfl) ?_
  replace s := s.drop (List.Sublist.append (List.Sublist.cons₂ _ (List.Sublist.cons _ (List.Sublist.cons _ List.Sublist.slnil))) (List.Sublist.refl []))
  have e9 : evN g last B = ⟨(Ev.E.leaf 0), 6, (gD 0 B 1), gE 0 B 1⟩ := by unfold evN; rw [if_pos (of_decide_eq_true hc9)]
  exact ⟨_, _, _, rfl, s, (by rw [e9]; exact ⟨_, rfl, rfl, _, _, rfl, (by simp only [Nat.add_assoc, Nat.add_zero]), (Ev.ERep.lf _ 0)⟩)⟩
 ·
  rw [hc9]
  refine cond_false_rule (b := false) (by kernel_rfl) rfl ?_
  refine seqR ?_
  refine oKD _ [] 2 [] 0 (fun φ11 => [(17, .bool (decide ((gV 0 B 1) = 1))), (18, .bool (decide ((gV 0 B 1) = 1)))]) (fun φ11 => []) s (fun φ11 => by kernel_rfl) (by kernel_rfl) ?_
  intro φ11 w11 s
  rcases Bool.eq_false_or_eq_true (decide ((gV 0 B 1) = 1)) with hc12 | hc12
  ·
   rw [hc12]
   refine cond_true_rule (b := true) (by kernel_rfl) rfl ?_
   refine seqR ?_
   refine oK _ [] 1 [.o 1] 0 (fun φ13 => [(20, .agg #[pB r])]) (fun φ13 => [(φ1 0)]) s (fun φ13 => by kernel_rfl) ?_
   intro φ13 w13 s
   refine callB_rule (b := (r, .cells #[.slice a l.length c, .int .i64 ((p + (gD 0 B 1) : Nat) : Int), .int .i64 (gE 0 B 1)] 74)) (F := []) (Hr := [(φ1 0, .cells #[pB r] 71), (φ1 1, .cells #[.int .u64 0, .pointer none] 44)]) (some 21) 0 s (by kernel_rfl) (by kernel_rfl) (countK_c (r := r) (p := p + (gD 0 B 1)) (B := (B.drop (gD 0 B 1))) hl hn9 hp3 hB3 (Decidable.not_not.1 (of_decide_eq_false hc9))) (by kernel_rfl) ?_
   rintro v15 I15 w15 b15 le15 - h15 s
   replace hl := BSl.mono le15 hl
   obtain ⟨rfl, rfl⟩ := h15
   have hB14 := next_B (d := (cnG 0 (B.drop (gD 0 B 1))).d) hB3
   have hp14 := next_p (d := (cnG 0 (B.drop (gD 0 B 1))).d) hp3 hB3 (cn_d _ _)
   refine oKD _ [] 5 [] 0 (fun φ16 => [(8, .int .i64 (((cnG 0 (B.drop (gD 0 B 1))).er : Nat) : Int)), (7, .int .u64 (((cnG 0 (B.drop (gD 0 B 1))).t : Nat) : Int)), (23, .int .i64 (((cnG 0 (B.drop (gD 0 B 1))).er : Nat) : Int)), (22, .int .u64 (((cnG 0 (B.drop (gD 0 B 1))).t : Nat) : Int)), (19, .tuple #[.int .u64 (((cnG 0 (B.drop (gD 0 B 1))).t : Nat) : Int), .int .i64 (((cnG 0 (B.drop (gD 0 B 1))).er : Nat) : Int)])]) (fun φ16 => []) s (fun φ16 => by kernel_rfl) (by kernel_rfl) ?_
   intro φ16 w16 s
   refine wp_seq ?_
   refine seqR ?_
   refine oK _ [] 2 [] 0 (fun φ17 => [(25, .bool ((((cnG 0 (B.drop (gD 0 B 1))).er : Nat) : Int) != ((0 : Nat) : Int))), (24, .int .i64 (((cnG 0 (B.drop (gD 0 B 1))).er : Nat) : Int))]) (fun φ17 => []) s (fun φ17 => by kernel_rfl) ?_
   intro φ17 w17 s
   rw [nat_neq (a := ((cnG 0 (B.drop (gD 0 B 1))).er)) (b := 0)]
   refine ops_done (by kernel_rfl) ?_
   rcases Bool.eq_false_or_eq_true (decide (((cnG 0 (B.drop (gD 0 B 1))).er) ≠ 0)) with hc18 | hc18
   ·
    rw [hc18]
    refine cond_true_rule (b := true) (by kernel_rfl) rfl ?_
    refine seqR ?_
    refine oKD _ [] 4 [.o 2, .o 2] 0 (fun φ19 => [(5, .int .i64 (((cnG 0 (B.drop (gD 0 B 1))).er : Nat) : Int)), (27, .int .i64 (((cnG 0 (B.drop (gD 0 B 1))).er : Nat) : Int)), (26, .agg #[.int .u64 0, .pointer none])]) (fun φ19 => [φ1 1, φ1 1]) s (fun φ19 => by kernel_rfl) (by kernel_rfl) ?_
    intro φ19 w19 s
    refine wp_ret ?_
    refine ret_rule (C := []) _ [] (.tuple #[.agg #[.int .u64 0, .pointer none], .int .i64 (((cnG 0 (B.drop (gD 0 B 1))).er : Nat) : Int)]) [.o 2, .o 2] [φ1 1, φ1 1] s trivial (by kernel_rfl) ?_
    replace s := s.drop (List.Sublist.append (List.Sublist.cons₂ _ (List.Sublist.cons _ (List.Sublist.cons _ List.Sublist.slnil))) (List.Sublist.refl []))
    have e9 : evN g last B = ⟨(Ev.E.leaf 0), (cnG 0 (B.drop (gD 0 B 1))).er, (gD 0 B 1) + ((cnG 0 (B.drop (gD 0 B 1))).d), (cnG 0 (B.drop (gD 0 B 1))).e⟩ := by unfold evN; rw [if_neg (of_decide_eq_false hc9), if_pos (of_decide_eq_true hc12), if_pos (of_decide_eq_true hc18)]
    exact ⟨_, _, _, rfl, s, (by rw [e9]; exact ⟨_, rfl, rfl, _, _, rfl, (by simp only [Nat.add_assoc, Nat.add_zero]), (Ev.ERep.lf _ 0)⟩)⟩
   ·
    rw [hc18]
    refine cond_false_rule (b := false) (by kernel_rfl) rfl ?_
    refine wp_skip ?_
    refine seqR ?_
    refine oK _ [] 1 [] 0 (fun φ20 => [(28, .int .u64 (((cnG 0 (B.drop (gD 0 B 1))).t : Nat) : Int))]) (fun φ20 => []) s (fun φ20 => by kernel_rfl) ?_
    intro φ20 w20 s
    refine call_rule (some 29) s (Ev.leafOk_c (n := (cnG 0 (B.drop (gD 0 B 1))).t) (cn_le _ _)) (by kernel_rfl) ?_
    intro v21 I21 w21 le21 h21 s
    replace hl := BSl.mono le21 hl
    obtain rfl := h21
    refine oAD _ [] 4 [.o 2, .o 2] 0 (fun φ22 => [(5, .int .i64 0), (31, .int .i64 0), (30, .agg #[.int .u64 (((cnG 0 (B.drop (gD 0 B 1))).t : Nat) : Int), .pointer none])]) (fun φ22 => [(r, .cells #[.slice a l.length c, .int .i64 ((p + (gD 0 B 1) + ((cnG 0 (B.drop (gD 0 B 1))).d) : Nat) : Int), .int .i64 (((cnG 0 (B.drop (gD 0 B 1))).e : Nat) : Int)] 74), (φ1 0, .cells #[pB r] 71), (φ1 1, .cells #[.int .u64 (((cnG 0 (B.drop (gD 0 B 1))).t : Nat) : Int), .pointer none] 44)]) (fun φ22 => [φ1 1, φ1 1]) s (fun φ22 => by kernel_rfl) (by kernel_rfl) ?_
    intro φ22 w22 s
    refine wp_ret ?_
    refine ret_rule (C := []) _ [] (.tuple #[.agg #[.int .u64 (((cnG 0 (B.drop (gD 0 B 1))).t : Nat) : Int), .pointer none], .int .i64 0]) [.o 2, .o 2] [φ1 1, φ1 1] s trivial (by kernel_rfl) ?_
    replace s := s.drop (List.Sublist.append (List.Sublist.cons₂ _ (List.Sublist.cons _ (List.Sublist.cons _ List.Sublist.slnil))) (List.Sublist.refl []))
    have e9 : evN g last B = ⟨(Ev.E.leaf ((cnG 0 (B.drop (gD 0 B 1))).t)), 0, (gD 0 B 1) + ((cnG 0 (B.drop (gD 0 B 1))).d), (cnG 0 (B.drop (gD 0 B 1))).e⟩ := by unfold evN; rw [if_neg (of_decide_eq_false hc9), if_pos (of_decide_eq_true hc12), if_neg (of_decide_eq_false hc18)]
    exact ⟨_, _, _, rfl, s, (by rw [e9]; exact ⟨_, rfl, rfl, _, _, rfl, (by simp only [Nat.add_assoc, Nat.add_zero]), (Ev.ERep.lf _ ((cnG 0 (B.drop (gD 0 B 1))).t))⟩)⟩
  ·
   rw [hc12]
   refine cond_false_rule (b := false) (by kernel_rfl) rfl ?_
   refine seqR ?_
   refine oK _ [] 3 [] 0 (fun φ23 => [(32, .bool (((deep : Nat) : Int) == ((16 : Nat) : Int))), (34, .bool (((deep : Nat) : Int) == ((16 : Nat) : Int))), (33, .int .i64 deep)]) (fun φ23 => []) s (fun φ23 => by kernel_rfl) ?_
   intro φ23 w23 s
   rw [nat_eql (a := deep) (b := 16)]
   refine ops_done (by kernel_rfl) ?_
   rcases Bool.eq_false_or_eq_true (decide (deep = 16)) with hc24 | hc24
   ·
    rw [hc24]
    refine cond_true_rule (b := true) (by kernel_rfl) rfl ?_
    refine seqR ?_
    refine oKD _ [] 3 [.o 2, .o 2] 0 (fun φ25 => [(5, .int .i64 3), (35, .agg #[.int .u64 0, .pointer none])]) (fun φ25 => [φ1 1, φ1 1]) s (fun φ25 => by kernel_rfl) (by kernel_rfl) ?_
    intro φ25 w25 s
    refine wp_ret ?_
    refine ret_rule (C := []) _ [] (.tuple #[.agg #[.int .u64 0, .pointer none], .int .i64 3]) [.o 2, .o 2] [φ1 1, φ1 1] s trivial (by kernel_rfl) ?_
    replace s := s.drop (List.Sublist.append (List.Sublist.cons₂ _ (List.Sublist.cons _ (List.Sublist.cons _ List.Sublist.slnil))) (List.Sublist.refl []))
    have e9 : evN g last B = ⟨(Ev.E.leaf 0), 3, (gD 0 B 1), gE 0 B 1⟩ := by unfold evN; rw [if_neg (of_decide_eq_false hc9), if_neg (of_decide_eq_false hc12), if_pos (show last = true by rw [hlast, hc24])]
    exact ⟨_, _, _, rfl, s, (by rw [e9]; exact ⟨_, rfl, rfl, _, _, rfl, (by simp only [Nat.add_assoc, Nat.add_zero]), (Ev.ERep.lf _ 0)⟩)⟩
   ·
    rw [hc24]
    refine cond_false_rule (b := false) (by kernel_rfl) rfl ?_
    refine wp_skip ?_
    refine seqR ?_
    refine oK _ [] 2 [.o 1] 0 (fun φ26 => [(37, .int .i64 deep), (36, .agg #[pB r])]) (fun φ26 => [(φ1 0)]) s (fun φ26 => by kernel_rfl) ?_
    intro φ26 w26 s
    refine callB_rule (b := (r, .cells #[.slice a l.length c, .int .i64 ((p + (gD 0 B 1) : Nat) : Int), .int .i64 (gE 0 B 1)] 74)) (F := []) (Hr := [(φ1 0, .cells #[pB r] 71), (φ1 1, .cells #[.int .u64 0, .pointer none] 44)]) (some 38) 0 s (by kernel_rfl) (by kernel_rfl) (node_c (r := r) (p := p + (gD 0 B 1)) (B := (B.drop (gD 0 B 1))) hl hn9 hp3 hB3 (Decidable.not_not.1 (of_decide_eq_false hc9)) hg (deep := deep) hdp (ih (of_decide_eq_false hc24))) (by kernel_rfl) ?_
    rintro v28 I28 w28 b28 le28 - h28 s
    obtain ⟨bi28, pi28, rfl, rfl, h28_0⟩ := h28
    have hB27 := next_B (d := (ndG g (B.drop (gD 0 B 1))).d) hB3
    have hp27 := next_p (d := (ndG g (B.drop (gD 0 B 1))).d) hp3 hB3 ((ndG_ok hg).d _)
    refine oAD _ [] 4 [.o 2, .o 2] 0 (fun φ29 => [(5, .int .i64 (((ndG g (B.drop (gD 0 B 1))).er : Nat) : Int)), (40, .int .i64 (((ndG g (B.drop (gD 0 B 1))).er : Nat) : Int)), (39, .agg #[.int .u64 bi28, .pointer pi28])]) (fun φ29 => [(r, .cells #[.slice a l.length c, .int .i64 ((p + (gD 0 B 1) + ((ndG g (B.drop (gD 0 B 1))).d) : Nat) : Int), .int .i64 (((ndG g (B.drop (gD 0 B 1))).e : Nat) : Int)] 74), (φ1 0, .cells #[pB r] 71), (φ1 1, .cells #[.int .u64 bi28, .pointer pi28] 44)]) (fun φ29 => [φ1 1, φ1 1]) s (fun φ29 => by kernel_rfl) (by kernel_rfl) ?_
    intro φ29 w29 s
    refine wp_ret ?_
    refine ret_rule (C := []) _ [] (.tuple #[.agg #[.int .u64 bi28, .pointer pi28], .int .i64 (((ndG g (B.drop (gD 0 B 1))).er : Nat) : Int)]) [.o 2, .o 2] [φ1 1, φ1 1] s trivial (by kernel_rfl) ?_
    replace s := s.drop (List.Sublist.append (List.Sublist.cons₂ _ (List.Sublist.cons _ (List.Sublist.cons _ List.Sublist.slnil))) (List.Sublist.refl []))
    have e9 : evN g last B = ⟨(ndG g (B.drop (gD 0 B 1))).t, (ndG g (B.drop (gD 0 B 1))).er, (gD 0 B 1) + ((ndG g (B.drop (gD 0 B 1))).d), (ndG g (B.drop (gD 0 B 1))).e⟩ := by unfold evN; rw [if_neg (of_decide_eq_false hc9), if_neg (of_decide_eq_false hc12), if_neg (show ¬ last = true by rw [hlast, hc24]; decide)]
    exact ⟨_, _, _, rfl, s, (by rw [e9]; exact ⟨_, rfl, rfl, _, _, rfl, (by simp only [Nat.add_assoc, Nat.add_zero]), h28_0⟩)⟩

theorem evG_c : ∀ (f : Nat) {I : IM} {l : List UInt8} {a : Option Addr} {c : Nat} {r p e : Nat} {B : List Bool} (_ : BSl I l (.slice a l.length c)) (_ : l.length ≤ 1000000) (_ : p ≤ l.length * 8) (_ : (bitsL l).drop p = B) (_ : e = 0) {deep : Nat} (_ : deep + f = 16), FunM Tryd.prog 41 #[.agg #[.pointer (some ⟨r, 0, none⟩)], .int .i64 ((deep : Nat) : Int)] I [(r, .cells #[.slice a l.length c, .int .i64 ((p : Nat) : Int), .int .i64 ((e : Nat) : Int)] 74)] (fun v J H' => ∃ b' : OB, H' = [b'] ∧ b'.1 = r ∧ ∃ bi pi, v = .tuple #[.agg #[.int .u64 ((bi : Nat) : Int), .pointer pi], .int .i64 (((evG f B).er : Nat) : Int)] ∧ b' = (r, .cells #[.slice a l.length c, .int .i64 ((p + (evG f B).d : Nat) : Int), .int .i64 (((evG f B).e : Nat) : Int)] 74) ∧ Ev.ERep J (evG f B).t bi pi)
  | 0, _, _, _, _, _, _, _, _, hl, hn9, hp, hB, he, deep, hd => event_step hl hn9 hp hB he okZE (by omega) (decide_eq_true (by omega)).symm (fun q => absurd (show deep = 16 by omega) q)
  | f + 1, _, _, _, _, _, _, _, _, hl, hn9, hp, hB, he, deep, hd => event_step hl hn9 hp hB he (evG_ok f) (by omega) (decide_eq_false (by omega)).symm (fun _ {J} {p} {e} {B} a1 a2 a3 a4 => evG_c f a1 hn9 a2 a3 a4 (by omega))

end Go.Proofs.YtgmigcmhnmmdkaaDoor

/- Stamps, ids and events are read of bytes. -/
set_option linter.all false
set_option maxRecDepth 100000
namespace Go.Proofs.YtgmigcmhnmmdkaaDoor
open Go.RowKit Go.Sep
attribute [local irreducible] Go.wpList Go.Code.wp

set_option maxHeartbeats 1000000 in
theorem getID_c {I : IM} {l : List UInt8} {a : Option Addr} {c : Nat} {r p e : Nat} {B : List Bool} (hl : BSl I l (.slice a l.length c)) (hn9 : l.length ≤ 1000000) (hp : p ≤ l.length * 8) (hB : (bitsL l).drop p = B) (he : e = 0) : FunM Tryd.prog 10 #[.pointer (some ⟨r, 0, none⟩)] I [(r, .cells #[.slice a l.length c, .int .i64 ((p : Nat) : Int), .int .i64 ((e : Nat) : Int)] 74)] (fun v J H' => ∃ b' : OB, H' = [b'] ∧ b'.1 = r ∧ ∃ bi pi, v = .tuple #[.agg #[.bool bi, .pointer pi], .int .i64 (((idG 16 B).er : Nat) : Int)] ∧ b' = (r, .cells #[.slice a l.length c, .int .i64 ((p + (idG 16 B).d : Nat) : Int), .int .i64 (((idG 16 B).e : Nat) : Int)] 74) ∧ Ev.TRep J (idG 16 B).t bi pi) := by
 refine enterM_rule 9 [(0, pB r)] Tryd.func10 rfl (by kernel_rfl) ?_
 intro w s
 refine seqR ?_
 refine oAD [(r, .cells #[.slice a l.length c, .int .i64 p, .int .i64 e] 74)] [] 2 [] 1 (fun φ1 => [(3, .int .i64 0), (2, pB (φ1 0))]) (fun φ1 => [(r, .cells #[.slice a l.length c, .int .i64 p, .int .i64 e] 74), (φ1 0, .cells #[.bool false, .pointer none] 27)]) (fun φ1 => []) s (fun φ1 => by kernel_rfl) (by kernel_rfl) ?_
 intro φ1 w1 s
 refine seqR ?_
 refine oK _ [] 2 [] 0 (fun φ2 => [(5, .agg #[pB r]), (4, pB r)]) (fun φ2 => []) s (fun φ2 => by kernel_rfl) ?_
 intro φ2 w2 s
 refine callB_rule (b := (r, .cells #[.slice a l.length c, .int .i64 p, .int .i64 e] 74)) (F := []) (Hr := [(φ1 0, .cells #[.bool false, .pointer none] 27)]) (some 6) 0 s (by kernel_rfl) (by kernel_rfl) (idG_c 16 (r := r) (p := p) (B := B) hl hn9 hp hB he (deep := 0) rfl) (by kernel_rfl) ?_
 rintro v4 I4 w4 b4 le4 - h4 s
 obtain ⟨bi4, pi4, rfl, rfl, h4_0⟩ := h4
 have hB3 := next_B (d := (idG 16 B).d) hB
 have hp3 := next_p (d := (idG 16 B).d) hp hB ((idG_ok 16).d _)
 refine oAD _ [] 4 [.o 1, .o 1] 0 (fun φ5 => [(3, .int .i64 (((idG 16 B).er : Nat) : Int)), (8, .int .i64 (((idG 16 B).er : Nat) : Int)), (7, .agg #[.bool bi4, .pointer pi4])]) (fun φ5 => [(r, .cells #[.slice a l.length c, .int .i64 ((p + ((idG 16 B).d) : Nat) : Int), .int .i64 (((idG 16 B).e : Nat) : Int)] 74), (φ1 0, .cells #[.bool bi4, .pointer pi4] 27)]) (fun φ5 => [φ1 0, φ1 0]) s (fun φ5 => by kernel_rfl) (by kernel_rfl) ?_
 intro φ5 w5 s
 refine wp_ret ?_
 refine ret_rule (C := []) _ [] (.tuple #[.agg #[.bool bi4, .pointer pi4], .int .i64 (((idG 16 B).er : Nat) : Int)]) [.o 1, .o 1] [φ1 0, φ1 0] s trivial (by kernel_rfl) ?_
 replace s := s.drop (List.Sublist.append (List.Sublist.cons₂ _ (List.Sublist.cons _ List.Sublist.slnil)) (List.Sublist.refl []))
 exact ⟨_, _, _, rfl, s, ⟨_, rfl, rfl, _, _, rfl, rfl, h4_0⟩⟩

set_option maxHeartbeats 1000000 in
theorem getEvent_c {I : IM} {l : List UInt8} {a : Option Addr} {c : Nat} {r p e : Nat} {B : List Bool} (hl : BSl I l (.slice a l.length c)) (hn9 : l.length ≤ 1000000) (hp : p ≤ l.length * 8) (hB : (bitsL l).drop p = B) (he : e = 0) : FunM Tryd.prog 14 #[.pointer (some ⟨r, 0, none⟩)] I [(r, .cells #[.slice a l.length c, .int .i64 ((p : Nat) : Int), .int .i64 ((e : Nat) : Int)] 74)] (fun v J H' => ∃ b' : OB, H' = [b'] ∧ b'.1 = r ∧ ∃ bi pi, v = .tuple #[.agg #[.int .u64 ((bi : Nat) : Int), .pointer pi], .int .i64 (((evG 16 B).er : Nat) : Int)] ∧ b' = (r, .cells #[.slice a l.length c, .int .i64 ((p + (evG 16 B).d : Nat) : Int), .int .i64 (((evG 16 B).e : Nat) : Int)] 74) ∧ Ev.ERep J (evG 16 B).t bi pi) := by
 refine enterM_rule 9 [(0, pB r)] Tryd.func14 rfl (by kernel_rfl) ?_
 intro w s
 refine seqR ?_
 refine oAD [(r, .cells #[.slice a l.length c, .int .i64 p, .int .i64 e] 74)] [] 2 [] 1 (fun φ1 => [(3, .int .i64 0), (2, pB (φ1 0))]) (fun φ1 => [(r, .cells #[.slice a l.length c, .int .i64 p, .int .i64 e] 74), (φ1 0, .cells #[.int .u64 0, .pointer none] 44)]) (fun φ1 => []) s (fun φ1 => by kernel_rfl) (by kernel_rfl) ?_
 intro φ1 w1 s
 refine seqR ?_
 refine oK _ [] 2 [] 0 (fun φ2 => [(5, .agg #[pB r]), (4, pB r)]) (fun φ2 => []) s (fun φ2 => by kernel_rfl) ?_
 intro φ2 w2 s
 refine callB_rule (b := (r, .cells #[.slice a l.length c, .int .i64 p, .int .i64 e] 74)) (F := []) (Hr := [(φ1 0, .cells #[.int .u64 0, .pointer none] 44)]) (some 6) 0 s (by kernel_rfl) (by kernel_rfl) (evG_c 16 (r := r) (p := p) (B := B) hl hn9 hp hB he (deep := 0) rfl) (by kernel_rfl) ?_
 rintro v4 I4 w4 b4 le4 - h4 s
 obtain ⟨bi4, pi4, rfl, rfl, h4_0⟩ := h4
 have hB3 := next_B (d := (evG 16 B).d) hB
 have hp3 := next_p (d := (evG 16 B).d) hp hB ((evG_ok 16).d _)
 refine oAD _ [] 4 [.o 1, .o 1] 0 (fun φ5 => [(3, .int .i64 (((evG 16 B).er : Nat) : Int)), (8, .int .i64 (((evG 16 B).er : Nat) : Int)), (7, .agg #[.int .u64 bi4, .pointer pi4])]) (fun φ5 => [(r, .cells #[.slice a l.length c, .int .i64 ((p + ((evG 16 B).d) : Nat) : Int), .int .i64 (((evG 16 B).e : Nat) : Int)] 74), (φ1 0, .cells #[.int .u64 bi4, .pointer pi4] 44)]) (fun φ5 => [φ1 0, φ1 0]) s (fun φ5 => by kernel_rfl) (by kernel_rfl) ?_
 intro φ5 w5 s
 refine wp_ret ?_
 refine ret_rule (C := []) _ [] (.tuple #[.agg #[.int .u64 bi4, .pointer pi4], .int .i64 (((evG 16 B).er : Nat) : Int)]) [.o 1, .o 1] [φ1 0, φ1 0] s trivial (by kernel_rfl) ?_
 replace s := s.drop (List.Sublist.append (List.Sublist.cons₂ _ (List.Sublist.cons _ List.Sublist.slnil)) (List.Sublist.refl []))
 exact ⟨_, _, _, rfl, s, ⟨_, rfl, rfl, _, _, rfl, rfl, h4_0⟩⟩

end Go.Proofs.YtgmigcmhnmmdkaaDoor

/- The document's reading of ids and events tells the same. -/
set_option linter.all false
namespace Go.Proofs.YtgmigcmhnmmdkaaDoor

theorem dl {B : List Bool} {d : Nat} (h : B.length ≤ 1000000) : (B.drop d).length ≤ 1000000 := by rw [List.length_drop]; omega
theorem idN_deep {g : List Bool → Rd Ev.T} {f : Nat} (h : ∀ B, (g B).t.depth ≤ f) (last : Bool) (B : List Bool) : (idN g last B).t.depth ≤ f + 1 := by
  have hL0 : ∀ a B, (hL g .zero a B).t.depth ≤ f := fun a B => by unfold hL; split; · exact h B
                                                                  exact Nat.zero_le _
  have hR0 : ∀ b L B, (hR g .zero b L B).t.depth ≤ f := fun b L B => by unfold hR; split; · exact h _
                                                                        exact Nat.zero_le _
  unfold idN
  split
  · exact Nat.zero_le _
  · split
    · unfold lfG; split
      · exact Nat.zero_le _
      · split <;> exact Nat.zero_le _
    · split
      · exact Nat.zero_le _
      · split
        · exact Nat.zero_le _
        · split
          · exact Nat.zero_le _
          · unfold Ev.pairT
            split
            · exact Nat.zero_le _
            · refine Nat.le_trans (Ev.T.mk_depth _ _) ?_
              have := hL0 (decide (gV 0 B 2 ≠ 1)) (B.drop (gD 0 B 2))
              have := hR0 (decide (gV 0 B 2 ≠ 2)) (hL g .zero (decide (gV 0 B 2 ≠ 1)) (B.drop (gD 0 B 2))) (B.drop (gD 0 B 2))
              unfold hvG
              simp only
              omega
theorem idG_deep : ∀ (f : Nat) (B : List Bool), (idG f B).t.depth ≤ f
  | 0, B => by
    show (idN (fun _ => ⟨.zero, 0, 0, 0⟩) true B).t.depth ≤ 0
    unfold idN
    split
    · exact Nat.le_refl _
    · split
      · unfold lfG; split
        · exact Nat.le_refl _
        · split <;> exact Nat.le_refl _
      · rw [if_pos rfl]; exact Nat.le_refl _
  | f + 1, B => idN_deep (idG_deep f) false B
/-- two halves that make no pair that is told so -/
def badT (l r : Ev.T) (k : Nat) : Bool := (decide (Ev.kindT l = 0) && decide (k ≠ 1)) || ((decide (Ev.kindT r = 0) && decide (k ≠ 2)) || (decide (Ev.kindT l = 1) && decide (Ev.kindT r = 1)))
def idD (g : List Bool → Rd Ev.T) (last : Bool) (B : List Bool) : Rd Ev.T :=
  if gE 0 B 2 ≠ 0 then ⟨.zero, 6, gD 0 B 2, gE 0 B 2⟩
  else if gV 0 B 2 = 0 then (if gE 0 (B.drop (gD 0 B 2)) 1 ≠ 0 then ⟨.zero, 6, gD 0 B 2 + gD 0 (B.drop (gD 0 B 2)) 1, gE 0 (B.drop (gD 0 B 2)) 1⟩ else ⟨if gV 0 (B.drop (gD 0 B 2)) 1 = 1 then .one else .zero, 0, gD 0 B 2 + gD 0 (B.drop (gD 0 B 2)) 1, gE 0 (B.drop (gD 0 B 2)) 1⟩)
  else if last = true then ⟨.zero, 3, gD 0 B 2, gE 0 B 2⟩
  else if (hvG g .zero (decide (gV 0 B 2 ≠ 1)) (decide (gV 0 B 2 ≠ 2)) (B.drop (gD 0 B 2))).er ≠ 0 then ⟨.zero, (hvG g .zero (decide (gV 0 B 2 ≠ 1)) (decide (gV 0 B 2 ≠ 2)) (B.drop (gD 0 B 2))).er, gD 0 B 2 + (hvG g .zero (decide (gV 0 B 2 ≠ 1)) (decide (gV 0 B 2 ≠ 2)) (B.drop (gD 0 B 2))).d, (hvG g .zero (decide (gV 0 B 2 ≠ 1)) (decide (gV 0 B 2 ≠ 2)) (B.drop (gD 0 B 2))).e⟩
  else if badT (hvG g .zero (decide (gV 0 B 2 ≠ 1)) (decide (gV 0 B 2 ≠ 2)) (B.drop (gD 0 B 2))).l (hvG g .zero (decide (gV 0 B 2 ≠ 1)) (decide (gV 0 B 2 ≠ 2)) (B.drop (gD 0 B 2))).r (gV 0 B 2) = true then ⟨.zero, 6, gD 0 B 2 + (hvG g .zero (decide (gV 0 B 2 ≠ 1)) (decide (gV 0 B 2 ≠ 2)) (B.drop (gD 0 B 2))).d, (hvG g .zero (decide (gV 0 B 2 ≠ 1)) (decide (gV 0 B 2 ≠ 2)) (B.drop (gD 0 B 2))).e⟩
  else ⟨.node (hvG g .zero (decide (gV 0 B 2 ≠ 1)) (decide (gV 0 B 2 ≠ 2)) (B.drop (gD 0 B 2))).l (hvG g .zero (decide (gV 0 B 2 ≠ 1)) (decide (gV 0 B 2 ≠ 2)) (B.drop (gD 0 B 2))).r, 0, gD 0 B 2 + (hvG g .zero (decide (gV 0 B 2 ≠ 1)) (decide (gV 0 B 2 ≠ 2)) (B.drop (gD 0 B 2))).d, (hvG g .zero (decide (gV 0 B 2 ≠ 1)) (decide (gV 0 B 2 ≠ 2)) (B.drop (gD 0 B 2))).e⟩
theorem mk_kind (l r : Ev.T) : idK (Ev.T.mk l r) = (if (Ev.kindT l = 0 ∧ Ev.kindT r = 0) ∨ (Ev.kindT l = 1 ∧ Ev.kindT r = 1) then 0 else if Ev.kindT l = 0 then 1 else if Ev.kindT r = 0 then 2 else 3) := by
  cases l <;> cases r <;> simp [Ev.T.mk, Ev.kindT, idK, Ev.T.isZero, Ev.T.isOne, Ev.T.left, Ev.T.right]
theorem badT_mk {l r : Ev.T} {k : Nat} (hk : k = 1 ∨ k = 2 ∨ k = 3) (h1 : k = 1 → Ev.kindT l = 0) (h2 : k = 2 → Ev.kindT r = 0) : (idK (Ev.T.mk l r) ≠ k ↔ badT l r k = true) ∧ (badT l r k = false → Ev.T.mk l r = .node l r) := by
  have hmk : ¬ ((Ev.kindT l = 0 ∧ Ev.kindT r = 0) ∨ (Ev.kindT l = 1 ∧ Ev.kindT r = 1)) → Ev.T.mk l r = .node l r := fun h => by
    cases l <;> cases r <;> simp_all [Ev.T.mk, Ev.kindT]
  rw [mk_kind]
  unfold badT
  rcases hk with rfl | rfl | rfl
  · have := h1 rfl
    constructor
    · simp [this]
    · intro h; apply hmk; simp [this] at h ⊢; exact h
  · have := h2 rfl
    constructor
    · by_cases a : Ev.kindT l = 0 <;> simp [this, a]
    · intro h; apply hmk; simp [this] at h ⊢; exact h
  · constructor
    · by_cases a : Ev.kindT l = 0 <;> by_cases b : Ev.kindT r = 0 <;> by_cases c : Ev.kindT l = 1 <;> by_cases d : Ev.kindT r = 1 <;> simp_all
    · intro h; apply hmk; simp at h ⊢; omega
theorem gV_four (B : List Bool) : gV 0 B 2 = 0 ∨ gV 0 B 2 = 1 ∨ gV 0 B 2 = 2 ∨ gV 0 B 2 = 3 := by have := gV_lt 0 B 2; omega
theorem idN_D {g : List Bool → Rd Ev.T} {f : Nat} (h : ∀ B, (g B).t.depth ≤ f) (hf : f ≤ 15) (last : Bool) (B : List Bool) : idN g last B = idD g last B := by
  unfold idN idD
  split
  · rfl
  · split
    · unfold lfG
      split
      · rfl
      · split <;> rfl
    · rename_i hk
      split
      · rfl
      · split
        · rfl
        · have hL0 : ∀ a B, (hL g .zero a B).t.depth ≤ f := fun a B => by unfold hL; split; · exact h B
                                                                          exact Nat.zero_le _
          have hR0 : ∀ b L B, (hR g .zero b L B).t.depth ≤ f := fun b L B => by unfold hR; split; · exact h _
                                                                                exact Nat.zero_le _
          have e1 : gV 0 B 2 = 1 → Ev.kindT (hvG g .zero (decide (gV 0 B 2 ≠ 1)) (decide (gV 0 B 2 ≠ 2)) (B.drop (gD 0 B 2))).l = 0 := fun q => by rw [q]; rfl
          have e2 : gV 0 B 2 = 2 → Ev.kindT (hvG g .zero (decide (gV 0 B 2 ≠ 1)) (decide (gV 0 B 2 ≠ 2)) (B.drop (gD 0 B 2))).r = 0 := fun q => by
            rw [q]; unfold hvG hR; simp [Ev.kindT]
          have hd : ¬ 16 < (Ev.T.mk (hvG g .zero (decide (gV 0 B 2 ≠ 1)) (decide (gV 0 B 2 ≠ 2)) (B.drop (gD 0 B 2))).l (hvG g .zero (decide (gV 0 B 2 ≠ 1)) (decide (gV 0 B 2 ≠ 2)) (B.drop (gD 0 B 2))).r).depth := by
            have a := Ev.T.mk_depth (hvG g .zero (decide (gV 0 B 2 ≠ 1)) (decide (gV 0 B 2 ≠ 2)) (B.drop (gD 0 B 2))).l (hvG g .zero (decide (gV 0 B 2 ≠ 1)) (decide (gV 0 B 2 ≠ 2)) (B.drop (gD 0 B 2))).r
            have b1 : (hvG g .zero (decide (gV 0 B 2 ≠ 1)) (decide (gV 0 B 2 ≠ 2)) (B.drop (gD 0 B 2))).l.depth ≤ f := hL0 _ _
            have b2 : (hvG g .zero (decide (gV 0 B 2 ≠ 1)) (decide (gV 0 B 2 ≠ 2)) (B.drop (gD 0 B 2))).r.depth ≤ f := hR0 _ _ _
            omega
          have hp : ∀ l r : Ev.T, ¬ 16 < (Ev.T.mk l r).depth → Ev.pairT l r = (Ev.T.mk l r, 0) := fun l r q => by unfold Ev.pairT; rw [if_neg q]
          rw [hp _ _ hd]
          obtain ⟨b1, b2⟩ := badT_mk (l := (hvG g .zero (decide (gV 0 B 2 ≠ 1)) (decide (gV 0 B 2 ≠ 2)) (B.drop (gD 0 B 2))).l) (r := (hvG g .zero (decide (gV 0 B 2 ≠ 1)) (decide (gV 0 B 2 ≠ 2)) (B.drop (gD 0 B 2))).r) ((gV_four B).resolve_left hk) e1 e2
          by_cases q : badT (hvG g .zero (decide (gV 0 B 2 ≠ 1)) (decide (gV 0 B 2 ≠ 2)) (B.drop (gD 0 B 2))).l (hvG g .zero (decide (gV 0 B 2 ≠ 1)) (decide (gV 0 B 2 ≠ 2)) (B.drop (gD 0 B 2))).r (gV 0 B 2) = true
          · rw [if_pos (b1.2 q), if_pos q]
          · rw [if_neg (fun z => q (b1.1 z)), if_neg q, b2 (by simpa using q)]
end Go.Proofs.YtgmigcmhnmmdkaaDoor
