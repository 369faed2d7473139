/- Halves of ids are read. -/
import Derived.Test.YtgmigcmhnmmdkaaCwM18
import Derived.Test.YtgmigcmhnmmdkaaCwM14
import Derived.Test.YtgmigcmhnmmdkaaCwM13
set_option linter.all false
set_option maxRecDepth 100000
namespace Go.Proofs.Ytgmigcmhnmmdkaa
open Go.RowKit Go.Sep
attribute [local irreducible] Go.wpList Go.Code.wp

theorem getE_c {I : IM} {l : List UInt8} {a : Option Addr} {c : Nat} {r p e : Nat} {B : List Bool} (hl : BSl I l (.slice a l.length c)) (hn9 : l.length ≤ 1000000) (hp : p ≤ l.length * 8) (hB : (bitsL l).drop p = B) {k : Nat} (hk : k ≤ 64) : FunM Try.prog 30 #[.pointer (some ⟨r, 0, none⟩), .int .i64 ((k : Nat) : Int)] I [(r, .cells #[.slice a l.length c, .int .i64 ((p : Nat) : Int), .int .i64 ((e : Nat) : Int)] 102)] (fun v J H' => ∃ b' : OB, H' = [b'] ∧ b'.1 = r ∧ v = .int .u64 ((gV e B k : Nat) : Int) ∧ b' = (r, .cells #[.slice a l.length c, .int .i64 ((p + gD e B k : Nat) : Int), .int .i64 ((gE e B k : Nat) : Int)] 102)) := by
  have h := getG_c (r := r) (p := p) (e := e) (z := ((k : Nat) : Int)) hl hn9 hp
  have hc : clampN ((k : Nat) : Int) = k := by unfold clampN; omega
  rw [hc, gV_ge hp, gD_ge, gE_ge, hB] at h
  exact h
theorem getK_c {I : IM} {l : List UInt8} {a : Option Addr} {c : Nat} {r p e : Nat} {B : List Bool} (hl : BSl I l (.slice a l.length c)) (hn9 : l.length ≤ 1000000) (hp : p ≤ l.length * 8) (hB : (bitsL l).drop p = B) (he : e = 0) {k : Nat} (hk : k ≤ 64) : FunM Try.prog 30 #[.pointer (some ⟨r, 0, none⟩), .int .i64 ((k : Nat) : Int)] I [(r, .cells #[.slice a l.length c, .int .i64 ((p : Nat) : Int), .int .i64 ((e : Nat) : Int)] 102)] (fun v J H' => ∃ b' : OB, H' = [b'] ∧ b'.1 = r ∧ v = .int .u64 ((gV 0 B k : Nat) : Int) ∧ b' = (r, .cells #[.slice a l.length c, .int .i64 ((p + gD 0 B k : Nat) : Int), .int .i64 ((gE 0 B k : Nat) : Int)] 102)) := by
  subst he; exact getE_c hl hn9 hp hB hk

theorem failed_c {I : IM} {r e : Nat} {v0 v1 : Value} : FunM Try.prog 84 #[.agg #[.pointer (some ⟨r, 0, none⟩)]] I [(r, .cells #[v0, v1, .int .i64 ((e : Nat) : Int)] 102)] (fun v J H' => ∃ b' : OB, H' = [b'] ∧ b'.1 = r ∧ v = .bool (decide (e ≠ 0)) ∧ b' = (r, .cells #[v0, v1, .int .i64 ((e : Nat) : Int)] 102)) := by
 refine enterM_rule 7 [(0, .agg #[pB r])] Try.func84 rfl (by kernel_rfl) ?_
 intro w s
 refine seqR ?_
 refine ops_rule (C := []) [(r, .cells #[v0, v1, .int .i64 e] 102)] [] 2 [] 1 (fun φ1 => [(2, .bool false), (1, pB (φ1 0))]) (fun φ1 => [(r, .cells #[v0, v1, .int .i64 e] 102), (φ1 0, .cells #[pB r] 104)]) (fun φ1 => []) s trivial (fun φ1 => by kernel_rfl) ?_
 intro φ1 w1 s
 refine ops_done (by kernel_rfl) ?_
 refine seqR ?_
 refine ops_rule (C := []) _ [] 2 [.o 1] 0 (fun φ2 => [(4, pB r), (3, pB (φ1 0))]) (fun φ2 => [(r, .cells #[v0, v1, .int .i64 e] 102), (φ1 0, .cells #[pB r] 104)]) (fun φ2 => [(φ1 0)]) s trivial (fun φ2 => by kernel_rfl) ?_
 intro φ2 w2 s
 refine callB_rule (b := (r, .cells #[v0, v1, .int .i64 e] 102)) (F := []) (Hr := [(φ1 0, .cells #[pB r] 104)]) (some 5) 0 s (by kernel_rfl) (by kernel_rfl) (err_c (r := r) (v0 := v0) (v1 := v1) (e := e)) (by kernel_rfl) ?_
 rintro v3 I3 w3 b3 le3 - h3 s
 obtain ⟨rfl, rfl⟩ := h3
 refine ops_rule (C := []) _ [] 2 [] 0 (fun φ4 => [(2, .bool (((e : Nat) : Int) != ((0 : Nat) : Int))), (6, .bool (((e : Nat) : Int) != ((0 : Nat) : Int)))]) (fun φ4 => [(r, .cells #[v0, v1, .int .i64 e] 102), (φ1 0, .cells #[pB r] 104)]) (fun φ4 => []) s trivial (fun φ4 => by kernel_rfl) ?_
 intro φ4 w4 s
 rw [nat_neq (a := e) (b := 0)]
 refine ops_done (by kernel_rfl) ?_
 refine wp_ret ?_
 refine ret_rule (C := []) _ [] (.bool (decide (e ≠ 0))) [] [] s trivial (by kernel_rfl) ?_
 replace s := s.drop (List.Sublist.append (List.Sublist.cons₂ _ (List.Sublist.cons _ List.Sublist.slnil)) (List.Sublist.refl []))
 exact ⟨_, _, _, rfl, s, ⟨_, rfl, rfl, rfl, rfl⟩⟩

set_option maxHeartbeats 1000000 in
theorem leafID_c {I : IM} {l : List UInt8} {a : Option Addr} {c : Nat} {r p e : Nat} {B : List Bool} (hl : BSl I l (.slice a l.length c)) (hn9 : l.length ≤ 1000000) (hp : p ≤ l.length * 8) (hB : (bitsL l).drop p = B) (he : e = 0) : FunM Try.prog 87 #[.agg #[.pointer (some ⟨r, 0, none⟩)]] I [(r, .cells #[.slice a l.length c, .int .i64 ((p : Nat) : Int), .int .i64 ((e : Nat) : Int)] 102)] (fun v J H' => ∃ b' : OB, H' = [b'] ∧ b'.1 = r ∧ ∃ bi pi, v = .tuple #[.agg #[.bool bi, .pointer pi], .int .i64 (((lfG B).er : Nat) : Int)] ∧ b' = (r, .cells #[.slice a l.length c, .int .i64 ((p + (lfG B).d : Nat) : Int), .int .i64 (((lfG B).e : Nat) : Int)] 102) ∧ Ev.TRep J (lfG B).t bi pi) := by
 refine enterM_rule 17 [(0, .agg #[pB r])] Try.func87 rfl (by kernel_rfl) ?_
 intro w s
 refine seqR ?_
 refine ops_rule (C := []) [(r, .cells #[.slice a l.length c, .int .i64 p, .int .i64 e] 102)] [] 3 [] 2 (fun φ1 => [(3, .int .i64 0), (2, pB (φ1 1)), (1, pB (φ1 0))]) (fun φ1 => [(r, .cells #[.slice a l.length c, .int .i64 p, .int .i64 e] 102), (φ1 0, .cells #[pB r] 104), (φ1 1, .cells #[.bool false, .pointer none] 26)]) (fun φ1 => []) s trivial (fun φ1 => by kernel_rfl) ?_
 intro φ1 w1 s
 refine ops_done (by kernel_rfl) ?_
 refine seqR ?_
 refine ops_rule (C := []) _ [] 2 [.o 1] 0 (fun φ2 => [(6, pB r), (5, pB (φ1 0))]) (fun φ2 => [(r, .cells #[.slice a l.length c, .int .i64 p, .int .i64 e] 102), (φ1 0, .cells #[pB r] 104), (φ1 1, .cells #[.bool false, .pointer none] 26)]) (fun φ2 => [(φ1 0)]) s trivial (fun φ2 => by kernel_rfl) ?_
 intro φ2 w2 s
 refine callB_rule (b := (r, .cells #[.slice a l.length c, .int .i64 p, .int .i64 e] 102)) (F := []) (Hr := [(φ1 0, .cells #[pB r] 104), (φ1 1, .cells #[.bool false, .pointer none] 26)]) (some 7) 0 s (by kernel_rfl) (by kernel_rfl) (getK_c (k := 1) (r := r) (p := p) (B := B) hl hn9 hp hB he (by decide)) (by kernel_rfl) ?_
 rintro v4 I4 w4 b4 le4 - h4 s
 obtain ⟨rfl, rfl⟩ := h4
 have hB3 := next_B (d := gD 0 B 1) hB
 have hp3 := next_p (d := gD 0 B 1) hp hB (gD_le _ _ _)
 refine ops_rule (C := []) _ [] 1 [] 0 (fun φ5 => [(4, .int .u64 (gV 0 B 1))]) (fun φ5 => [(r, .cells #[.slice a l.length c, .int .i64 ((p + (gD 0 B 1) : Nat) : Int), .int .i64 (gE 0 B 1)] 102), (φ1 0, .cells #[pB r] 104), (φ1 1, .cells #[.bool false, .pointer none] 26)]) (fun φ5 => []) s trivial (fun φ5 => by kernel_rfl) ?_
 intro φ5 w5 s
 refine ops_done (by kernel_rfl) ?_
 refine wp_seq ?_
 refine wp_block ?_
 refine seqR ?_
 refine ops_rule (C := []) _ [] 1 [.o 1] 0 (fun φ6 => [(9, .agg #[pB r])]) (fun φ6 => [(r, .cells #[.slice a l.length c, .int .i64 ((p + (gD 0 B 1) : Nat) : Int), .int .i64 (gE 0 B 1)] 102), (φ1 0, .cells #[pB r] 104), (φ1 1, .cells #[.bool false, .pointer none] 26)]) (fun φ6 => [(φ1 0)]) s trivial (fun φ6 => by kernel_rfl) ?_
 intro φ6 w6 s
 refine callB_rule (b := (r, .cells #[.slice a l.length c, .int .i64 ((p + (gD 0 B 1) : Nat) : Int), .int .i64 (gE 0 B 1)] 102)) (F := []) (Hr := [(φ1 0, .cells #[pB r] 104), (φ1 1, .cells #[.bool false, .pointer none] 26)]) (some 10) 0 s (by kernel_rfl) (by kernel_rfl) (failed_c (r := r) (v0 := .slice a l.length c) (v1 := .int .i64 ((p + (gD 0 B 1) : Nat) : Int)) (e := gE 0 B 1)) (by kernel_rfl) ?_
 rintro v7 I7 w7 b7 le7 - h7 s
 obtain ⟨rfl, rfl⟩ := h7
 refine ops_rule (C := []) _ [] 1 [] 0 (fun φ8 => [(8, .bool (decide (gE 0 B 1 ≠ 0)))]) (fun φ8 => [(r, .cells #[.slice a l.length c, .int .i64 ((p + (gD 0 B 1) : Nat) : Int), .int .i64 (gE 0 B 1)] 102), (φ1 0, .cells #[pB r] 104), (φ1 1, .cells #[.bool false, .pointer none] 26)]) (fun φ8 => []) s trivial (fun φ8 => by kernel_rfl) ?_
 intro φ8 w8 s
 refine ops_done (by kernel_rfl) ?_
 rcases Bool.eq_false_or_eq_true (decide (gE 0 B 1 ≠ 0)) with hc9 | hc9
 ·
  rw [hc9]
  refine cond_true_rule (b := true) (by kernel_rfl) rfl ?_
  refine seqR ?_
  refine call_rule (some 11) s (Ev.tzero_c) (by kernel_rfl) ?_
  intro v10 I10 w10 le10 h10 s
  obtain rfl := h10
  refine ops_rule (C := []) _ [] 2 [.o 2, .o 2] 0 (fun φ11 => [(3, .int .i64 6)]) (fun φ11 => [(r, .cells #[.slice a l.length c, .int .i64 ((p + (gD 0 B 1) : Nat) : Int), .int .i64 (gE 0 B 1)] 102), (φ1 0, .cells #[pB r] 104), (φ1 1, .cells #[.bool false, .pointer none] 26)]) (fun φ11 => [φ1 1, φ1 1]) s trivial (fun φ11 => by kernel_rfl) ?_
  intro φ11 w11 s
  refine ops_done (by kernel_rfl) ?_
  refine wp_ret ?_
  refine ret_rule (C := []) _ [] (.tuple #[.agg #[.bool false, .pointer none], .int .i64 6]) [.o 2, .o 2] [φ1 1, φ1 1] s trivial (by kernel_rfl) ?_
  replace s := s.drop (List.Sublist.append (List.Sublist.cons₂ _ (List.Sublist.cons _ (List.Sublist.cons _ List.Sublist.slnil))) (List.Sublist.refl []))
  have e9 : lfG B = ⟨Ev.T.zero, 6, gD 0 B 1, gE 0 B 1⟩ := by unfold lfG; rw [if_pos (of_decide_eq_true hc9)]
  exact ⟨_, _, _, rfl, s, (by rw [e9]; exact ⟨_, rfl, rfl, _, _, rfl, rfl, (Ev.TRep.z _)⟩)⟩
 ·
  rw [hc9]
  refine cond_false_rule (b := false) (by kernel_rfl) rfl ?_
  refine seqR ?_
  refine ops_rule (C := []) _ [] 3 [] 0 (fun φ12 => [(12, .bool (((gV 0 B 1 : Nat) : Int) == ((1 : Nat) : Int))), (14, .bool (((gV 0 B 1 : Nat) : Int) == ((1 : Nat) : Int))), (13, .int .u64 (gV 0 B 1))]) (fun φ12 => [(r, .cells #[.slice a l.length c, .int .i64 ((p + (gD 0 B 1) : Nat) : Int), .int .i64 (gE 0 B 1)] 102), (φ1 0, .cells #[pB r] 104), (φ1 1, .cells #[.bool false, .pointer none] 26)]) (fun φ12 => []) s trivial (fun φ12 => by kernel_rfl) ?_
  intro φ12 w12 s
  rw [nat_eql (a := (gV 0 B 1)) (b := 1)]
  refine ops_done (by kernel_rfl) ?_
  rcases Bool.eq_false_or_eq_true (decide ((gV 0 B 1) = 1)) with hc13 | hc13
  ·
   rw [hc13]
   refine cond_true_rule (b := true) (by kernel_rfl) rfl ?_
   refine seqR ?_
   refine call_rule (some 15) s (Ev.tone_c) (by kernel_rfl) ?_
   intro v14 I14 w14 le14 h14 s
   obtain rfl := h14
   refine ops_rule (C := []) _ [] 2 [.o 2, .o 2] 0 (fun φ15 => [(3, .int .i64 0)]) (fun φ15 => [(r, .cells #[.slice a l.length c, .int .i64 ((p + (gD 0 B 1) : Nat) : Int), .int .i64 (gE 0 B 1)] 102), (φ1 0, .cells #[pB r] 104), (φ1 1, .cells #[.bool true, .pointer none] 26)]) (fun φ15 => [φ1 1, φ1 1]) s trivial (fun φ15 => by kernel_rfl) ?_
   intro φ15 w15 s
   refine ops_done (by kernel_rfl) ?_
   refine wp_ret ?_
   refine ret_rule (C := []) _ [] (.tuple #[.agg #[.bool true, .pointer none], .int .i64 0]) [.o 2, .o 2] [φ1 1, φ1 1] s trivial (by kernel_rfl) ?_
   replace s := s.drop (List.Sublist.append (List.Sublist.cons₂ _ (List.Sublist.cons _ (List.Sublist.cons _ List.Sublist.slnil))) (List.Sublist.refl []))
   have e9 : lfG B = ⟨Ev.T.one, 0, gD 0 B 1, gE 0 B 1⟩ := by unfold lfG; rw [if_neg (of_decide_eq_false hc9), if_pos (of_decide_eq_true hc13)]
   exact ⟨_, _, _, rfl, s, (by rw [e9]; exact ⟨_, rfl, rfl, _, _, rfl, rfl, (Ev.TRep.o _)⟩)⟩
  ·
   rw [hc13]
   refine cond_false_rule (b := false) (by kernel_rfl) rfl ?_
   refine wp_skip ?_
   refine seqR ?_
   refine call_rule (some 16) s (Ev.tzero_c) (by kernel_rfl) ?_
   intro v16 I16 w16 le16 h16 s
   obtain rfl := h16
   refine ops_rule (C := []) _ [] 2 [.o 2, .o 2] 0 (fun φ17 => [(3, .int .i64 0)]) (fun φ17 => [(r, .cells #[.slice a l.length c, .int .i64 ((p + (gD 0 B 1) : Nat) : Int), .int .i64 (gE 0 B 1)] 102), (φ1 0, .cells #[pB r] 104), (φ1 1, .cells #[.bool false, .pointer none] 26)]) (fun φ17 => [φ1 1, φ1 1]) s trivial (fun φ17 => by kernel_rfl) ?_
   intro φ17 w17 s
   refine ops_done (by kernel_rfl) ?_
   refine wp_ret ?_
   refine ret_rule (C := []) _ [] (.tuple #[.agg #[.bool false, .pointer none], .int .i64 0]) [.o 2, .o 2] [φ1 1, φ1 1] s trivial (by kernel_rfl) ?_
   replace s := s.drop (List.Sublist.append (List.Sublist.cons₂ _ (List.Sublist.cons _ (List.Sublist.cons _ List.Sublist.slnil))) (List.Sublist.refl []))
   have e9 : lfG B = ⟨Ev.T.zero, 0, gD 0 B 1, gE 0 B 1⟩ := by unfold lfG; rw [if_neg (of_decide_eq_false hc9), if_neg (of_decide_eq_false hc13)]
   exact ⟨_, _, _, rfl, s, (by rw [e9]; exact ⟨_, rfl, rfl, _, _, rfl, rfl, (Ev.TRep.z _)⟩)⟩

set_option maxHeartbeats 1000000 in
theorem halvesT_c {I : IM} {l : List UInt8} {a : Option Addr} {c : Nat} {r p e : Nat} {B : List Bool} (hl : BSl I l (.slice a l.length c)) (hn9 : l.length ≤ 1000000) (hp : p ≤ l.length * 8) (hB : (bitsL l).drop p = B) (he : e = 0) {g : List Bool → Rd Ev.T} (hg : OkT g) {deep : Nat} (ih : ∀ {J : IM} {p e : Nat} {B : List Bool}, BSl J l (.slice a l.length c) → p ≤ l.length * 8 → (bitsL l).drop p = B → e = 0 → FunM Try.prog 61 #[.agg #[.pointer (some ⟨r, 0, none⟩)], .int .i64 ((deep : Nat) : Int)] J [(r, .cells #[.slice a l.length c, .int .i64 ((p : Nat) : Int), .int .i64 ((e : Nat) : Int)] 102)] (fun v J H' => ∃ b' : OB, H' = [b'] ∧ b'.1 = r ∧ ∃ bi pi, v = .tuple #[.agg #[.bool bi, .pointer pi], .int .i64 (((g B).er : Nat) : Int)] ∧ b' = (r, .cells #[.slice a l.length c, .int .i64 ((p + (g B).d : Nat) : Int), .int .i64 (((g B).e : Nat) : Int)] 102) ∧ Ev.TRep J (g B).t bi pi)) {xa xb : Bool} : FunM Try.prog 88 #[.bool xa, .bool xb, .int .i64 ((deep : Nat) : Int), .func (.func 61) #[.agg #[.pointer (some ⟨r, 0, none⟩)]] #[]] I [(r, .cells #[.slice a l.length c, .int .i64 ((p : Nat) : Int), .int .i64 ((e : Nat) : Int)] 102)] (fun v J H' => ∃ b' : OB, H' = [b'] ∧ b'.1 = r ∧ ∃ b1 p1 b2 p2, v = .tuple #[.agg #[.bool b1, .pointer p1], .agg #[.bool b2, .pointer p2], .int .i64 (((hvG g Ev.T.zero xa xb B).er : Nat) : Int)] ∧ b' = (r, .cells #[.slice a l.length c, .int .i64 ((p + (hvG g Ev.T.zero xa xb B).d : Nat) : Int), .int .i64 (((hvG g Ev.T.zero xa xb B).e : Nat) : Int)] 102) ∧ Ev.TRep J (hvG g Ev.T.zero xa xb B).l b1 p1 ∧ Ev.TRep J (hvG g Ev.T.zero xa xb B).r b2 p2) := by
 refine enterM_rule 32 [(0, .bool xa), (1, .bool xb), (2, .int .i64 deep), (3, .func (.func 61) #[.agg #[pB r]] #[])] Try.func88 rfl (by kernel_rfl) ?_
 intro w s
 refine seqR ?_
 refine ops_rule (C := []) [(r, .cells #[.slice a l.length c, .int .i64 p, .int .i64 e] 102)] [] 3 [] 2 (fun φ1 => [(10, .int .i64 0), (9, pB (φ1 1)), (8, pB (φ1 0))]) (fun φ1 => [(r, .cells #[.slice a l.length c, .int .i64 p, .int .i64 e] 102), (φ1 0, .cells #[.bool false, .pointer none] 26), (φ1 1, .cells #[.bool false, .pointer none] 26)]) (fun φ1 => []) s trivial (fun φ1 => by kernel_rfl) ?_
 intro φ1 w1 s
 refine ops_done (by kernel_rfl) ?_
 refine wp_seq ?_
 refine seqR ?_
 refine ops_rule (C := []) _ [] 1 [] 0 (fun φ2 => [(11, .bool xa)]) (fun φ2 => [(r, .cells #[.slice a l.length c, .int .i64 p, .int .i64 e] 102), (φ1 0, .cells #[.bool false, .pointer none] 26), (φ1 1, .cells #[.bool false, .pointer none] 26)]) (fun φ2 => []) s trivial (fun φ2 => by kernel_rfl) ?_
 intro φ2 w2 s
 refine ops_done (by kernel_rfl) ?_
 rcases Bool.eq_false_or_eq_true (xa) with hc3 | hc3
 ·
  rw [hc3]
  refine cond_true_rule (b := true) (by kernel_rfl) rfl ?_
  refine region_rule ?_
  refine ops_rule (C := []) _ [] 2 [] 0 (fun φ4 => [(14, .int .i64 deep), (13, .func (.func 61) #[.agg #[pB r]] #[])]) (fun φ4 => [(r, .cells #[.slice a l.length c, .int .i64 p, .int .i64 e] 102), (φ1 0, .cells #[.bool false, .pointer none] 26), (φ1 1, .cells #[.bool false, .pointer none] 26)]) (fun φ4 => []) s trivial (fun φ4 => by kernel_rfl) ?_
  intro φ4 w4 s
  refine callB_rule (b := (r, .cells #[.slice a l.length c, .int .i64 p, .int .i64 e] 102)) (F := []) (Hr := [(φ1 0, .cells #[.bool false, .pointer none] 26), (φ1 1, .cells #[.bool false, .pointer none] 26)]) (some 15) 0 s (by kernel_rfl) (by kernel_rfl) (ih hl hp hB he) (by kernel_rfl) ?_
  rintro v6 I6 w6 b6 le6 - h6 s
  replace hl := BSl.mono le6 hl
  obtain ⟨bi6, pi6, rfl, rfl, h6_0⟩ := h6
  have hB5 := next_B (d := (g B).d) hB
  have hp5 := next_p (d := (g B).d) hp hB (hg.d _)
  refine ops_rule (C := []) _ [] 5 [.o 1, .o 1] 0 (fun φ7 => [(10, .int .i64 (((g B).er : Nat) : Int)), (17, .int .i64 (((g B).er : Nat) : Int)), (16, .agg #[.bool bi6, .pointer pi6]), (12, .tuple #[.agg #[.bool bi6, .pointer pi6], .int .i64 (((g B).er : Nat) : Int)])]) (fun φ7 => [(r, .cells #[.slice a l.length c, .int .i64 ((p + ((g B).d) : Nat) : Int), .int .i64 (((g B).e : Nat) : Int)] 102), (φ1 0, .cells #[.bool bi6, .pointer pi6] 26), (φ1 1, .cells #[.bool false, .pointer none] 26)]) (fun φ7 => [φ1 0, φ1 0]) s trivial (fun φ7 => by kernel_rfl) ?_
  intro φ7 w7 s
  refine ops_done (by kernel_rfl) ?_
  refine wp_seq ?_
  refine seqR ?_
  refine ops_rule (C := []) _ [] 2 [] 0 (fun φ8 => [(19, .bool xb), (18, .bool xb)]) (fun φ8 => [(r, .cells #[.slice a l.length c, .int .i64 ((p + ((g B).d) : Nat) : Int), .int .i64 (((g B).e : Nat) : Int)] 102), (φ1 0, .cells #[.bool bi6, .pointer pi6] 26), (φ1 1, .cells #[.bool false, .pointer none] 26)]) (fun φ8 => []) s trivial (fun φ8 => by kernel_rfl) ?_
  intro φ8 w8 s
  rcases Bool.eq_false_or_eq_true (xb) with hc9 | hc9
  ·
   rw [hc9]
   refine ops_rule (C := []) _ [] 3 [] 0 (fun φ10 => [(22, .bool ((((g B).er : Nat) : Int) == ((0 : Nat) : Int))), (21, .bool ((((g B).er : Nat) : Int) == ((0 : Nat) : Int))), (20, .int .i64 (((g B).er : Nat) : Int))]) (fun φ10 => [(r, .cells #[.slice a l.length c, .int .i64 ((p + ((g B).d) : Nat) : Int), .int .i64 (((g B).e : Nat) : Int)] 102), (φ1 0, .cells #[.bool bi6, .pointer pi6] 26), (φ1 1, .cells #[.bool false, .pointer none] 26)]) (fun φ10 => []) s trivial (fun φ10 => by kernel_rfl) ?_
   intro φ10 w10 s
   rw [nat_eql (a := ((g B).er)) (b := 0)]
   refine ops_done (by kernel_rfl) ?_
   rcases Bool.eq_false_or_eq_true (decide (((g B).er) = 0)) with hc11 | hc11
   ·
    rw [hc11]
    refine cond_true_rule (b := true) (by kernel_rfl) rfl ?_
    refine region_rule ?_
    refine ops_rule (C := []) _ [] 2 [] 0 (fun φ12 => [(25, .int .i64 deep), (24, .func (.func 61) #[.agg #[pB r]] #[])]) (fun φ12 => [(r, .cells #[.slice a l.length c, .int .i64 ((p + ((g B).d) : Nat) : Int), .int .i64 (((g B).e : Nat) : Int)] 102), (φ1 0, .cells #[.bool bi6, .pointer pi6] 26), (φ1 1, .cells #[.bool false, .pointer none] 26)]) (fun φ12 => []) s trivial (fun φ12 => by kernel_rfl) ?_
    intro φ12 w12 s
    refine callB_rule (b := (r, .cells #[.slice a l.length c, .int .i64 ((p + ((g B).d) : Nat) : Int), .int .i64 (((g B).e : Nat) : Int)] 102)) (F := []) (Hr := [(φ1 0, .cells #[.bool bi6, .pointer pi6] 26), (φ1 1, .cells #[.bool false, .pointer none] 26)]) (some 26) 0 s (by kernel_rfl) (by kernel_rfl) (ih hl hp5 hB5 (hg.e _ (of_decide_eq_true hc11))) (by kernel_rfl) ?_
    rintro v14 I14 w14 b14 le14 - h14 s
    replace hl := BSl.mono le14 hl
    replace h6_0 := Ev.TRep.mono le14 h6_0
    obtain ⟨bi14, pi14, rfl, rfl, h14_0⟩ := h14
    have hB13 := next_B (d := (g (B.drop ((g B).d))).d) hB5
    have hp13 := next_p (d := (g (B.drop ((g B).d))).d) hp5 hB5 (hg.d _)
    refine ops_rule (C := []) _ [] 5 [.o 2, .o 2] 0 (fun φ15 => [(10, .int .i64 (((g (B.drop ((g B).d))).er : Nat) : Int)), (28, .int .i64 (((g (B.drop ((g B).d))).er : Nat) : Int)), (27, .agg #[.bool bi14, .pointer pi14]), (23, .tuple #[.agg #[.bool bi14, .pointer pi14], .int .i64 (((g (B.drop ((g B).d))).er : Nat) : Int)])]) (fun φ15 => [(r, .cells #[.slice a l.length c, .int .i64 ((p + ((g B).d) + ((g (B.drop ((g B).d))).d) : Nat) : Int), .int .i64 (((g (B.drop ((g B).d))).e : Nat) : Int)] 102), (φ1 0, .cells #[.bool bi6, .pointer pi6] 26), (φ1 1, .cells #[.bool bi14, .pointer pi14] 26)]) (fun φ15 => [φ1 1, φ1 1]) s trivial (fun φ15 => by kernel_rfl) ?_
    intro φ15 w15 s
    refine ops_done (by kernel_rfl) ?_
    refine wp_seq ?_
    refine draw_rule (C := []) ⟨(fun φ16 xs16 => [.look 0 [.o 1, .o 1] [φ1 0, φ1 0], .look 0 [.o 2, .o 2] [φ1 1, φ1 1], .look 0 [] [], .store 0 [.o 1, .o 1] [φ1 0, φ1 0], .store 1 [.o 2, .o 2] [φ1 1, φ1 1], .look 2 [] []]), (fun φ16 xs16 => [.agg #[.bool bi6, .pointer pi6], .agg #[.bool bi14, .pointer pi14], .int .i64 (((g (B.drop ((g B).d))).er : Nat) : Int), undef, undef, .int .i64 (((g (B.drop ((g B).d))).er : Nat) : Int)]), (fun φ16 xs16 => [[(r, .cells #[.slice a l.length c, .int .i64 ((p + ((g B).d) + ((g (B.drop ((g B).d))).d) : Nat) : Int), .int .i64 (((g (B.drop ((g B).d))).e : Nat) : Int)] 102), (φ1 0, .cells #[.bool bi6, .pointer pi6] 26), (φ1 1, .cells #[.bool bi14, .pointer pi14] 26)], [(r, .cells #[.slice a l.length c, .int .i64 ((p + ((g B).d) + ((g (B.drop ((g B).d))).d) : Nat) : Int), .int .i64 (((g (B.drop ((g B).d))).e : Nat) : Int)] 102), (φ1 0, .cells #[.bool bi6, .pointer pi6] 26), (φ1 1, .cells #[.bool bi14, .pointer pi14] 26)], [(r, .cells #[.slice a l.length c, .int .i64 ((p + ((g B).d) + ((g (B.drop ((g B).d))).d) : Nat) : Int), .int .i64 (((g (B.drop ((g B).d))).e : Nat) : Int)] 102), (φ1 0, .cells #[.bool bi6, .pointer pi6] 26), (φ1 1, .cells #[.bool bi14, .pointer pi14] 26)]]), (fun φ16 xs16 => [[default, default, default, default, default, default], [default, default, default, default, default, default], [default, default, default, default, default, default]]), [3, 4], [1, 1, 1, 4, 4, 1]⟩ (fun j => ([MP.any] : List MP).getD j MP.any) [] [] [] (fun φ16 xs16 => [[none, none, none, none, none, none], [none, none, none, none, none, none]]) (fun φ16 xs16 => [(29, .agg #[.bool bi6, .pointer pi6]), (30, .agg #[.bool bi14, .pointer pi14]), (31, .int .i64 (((g (B.drop ((g B).d))).er : Nat) : Int)), (10, .int .i64 (((g (B.drop ((g B).d))).er : Nat) : Int))]) (fun φ16 xs16 => [(r, .cells #[.slice a l.length c, .int .i64 ((p + ((g B).d) + ((g (B.drop ((g B).d))).d) : Nat) : Int), .int .i64 (((g (B.drop ((g B).d))).e : Nat) : Int)] 102), (φ1 0, .cells #[.bool bi6, .pointer pi6] 26), (φ1 1, .cells #[.bool bi14, .pointer pi14] 26)]) s trivial (by kernel_rfl) (by kernel_rfl) (fun _ _ => by kernel_rfl) (fun _ _ => by kernel_rfl) ⟨fun _ _ => by kernel_rfl, fun _ _ => by kernel_rfl, fun _ _ => by kernel_rfl, fun _ _ => by kernel_rfl⟩ (fun _ _ _ => by kernel_rfl) (fun _ _ => by kernel_rfl) (fun _ _ => by kernel_rfl) (fun _ _ => by kernel_rfl) (fun _ _ => by kernel_rfl) (fun _ _ => by kernel_rfl) trivial trivial (by kernel_rfl) trivial ?k16
    case k16 =>
     rintro φ16 xs16 I16 w16 le16 s 
     replace hl := BSl.mono le16 hl
     replace h6_0 := Ev.TRep.mono le16 h6_0
     replace h14_0 := Ev.TRep.mono le16 h14_0
     refine wp_ret ?_
     refine ret_rule (C := []) [(r, .cells #[.slice a l.length c, .int .i64 ((p + ((g B).d) + ((g (B.drop ((g B).d))).d) : Nat) : Int), .int .i64 (((g (B.drop ((g B).d))).e : Nat) : Int)] 102), (φ1 0, .cells #[.bool bi6, .pointer pi6] 26), (φ1 1, .cells #[.bool bi14, .pointer pi14] 26)] [] (.tuple #[.agg #[.bool bi6, .pointer pi6], .agg #[.bool bi14, .pointer pi14], .int .i64 (((g (B.drop ((g B).d))).er : Nat) : Int)]) [.o 1, .o 1, .o 2, .o 2] [φ1 0, φ1 0, φ1 1, φ1 1] s trivial (by kernel_rfl) ?_
     replace s := s.drop (List.Sublist.append (List.Sublist.cons₂ _ (List.Sublist.cons _ (List.Sublist.cons _ List.Sublist.slnil))) (List.Sublist.refl []))
     have e9 : hvG g Ev.T.zero true true B = ⟨(g B).t, (g (B.drop ((g B).d))).t, (g (B.drop ((g B).d))).er, ((g B).d) + ((g (B.drop ((g B).d))).d), (g (B.drop ((g B).d))).e⟩ := by unfold hvG hR hL; simp [hc3, hc9, of_decide_eq_true hc11]
     exact ⟨_, _, _, rfl, s, (by rw [e9]; exact ⟨_, rfl, rfl, _, _, _, _, rfl, (by simp only [Nat.add_assoc, Nat.add_zero]), h6_0, h14_0⟩)⟩
   ·
    rw [hc11]
    refine cond_false_rule (b := false) (by kernel_rfl) rfl ?_
    refine wp_skip ?_
    refine wp_seq ?_
    refine draw_rule (C := []) ⟨(fun φ17 xs17 => [.look 0 [.o 1, .o 1] [φ1 0, φ1 0], .look 0 [.o 2, .o 2] [φ1 1, φ1 1], .look 0 [] [], .store 0 [.o 1, .o 1] [φ1 0, φ1 0], .store 1 [.o 2, .o 2] [φ1 1, φ1 1], .look 2 [] []]), (fun φ17 xs17 => [.agg #[.bool bi6, .pointer pi6], .agg #[.bool false, .pointer none], .int .i64 (((g B).er : Nat) : Int), undef, undef, .int .i64 (((g B).er : Nat) : Int)]), (fun φ17 xs17 => [[(r, .cells #[.slice a l.length c, .int .i64 ((p + ((g B).d) : Nat) : Int), .int .i64 (((g B).e : Nat) : Int)] 102), (φ1 0, .cells #[.bool bi6, .pointer pi6] 26), (φ1 1, .cells #[.bool false, .pointer none] 26)], [(r, .cells #[.slice a l.length c, .int .i64 ((p + ((g B).d) : Nat) : Int), .int .i64 (((g B).e : Nat) : Int)] 102), (φ1 0, .cells #[.bool bi6, .pointer pi6] 26), (φ1 1, .cells #[.bool false, .pointer none] 26)], [(r, .cells #[.slice a l.length c, .int .i64 ((p + ((g B).d) : Nat) : Int), .int .i64 (((g B).e : Nat) : Int)] 102), (φ1 0, .cells #[.bool bi6, .pointer pi6] 26), (φ1 1, .cells #[.bool false, .pointer none] 26)]]), (fun φ17 xs17 => [[default, default, default, default, default, default], [default, default, default, default, default, default], [default, default, default, default, default, default]]), [3, 4], [1, 1, 1, 4, 4, 1]⟩ (fun j => ([MP.any] : List MP).getD j MP.any) [] [] [] (fun φ17 xs17 => [[none, none, none, none, none, none], [none, none, none, none, none, none]]) (fun φ17 xs17 => [(29, .agg #[.bool bi6, .pointer pi6]), (30, .agg #[.bool false, .pointer none]), (31, .int .i64 (((g B).er : Nat) : Int)), (10, .int .i64 (((g B).er : Nat) : Int))]) (fun φ17 xs17 => [(r, .cells #[.slice a l.length c, .int .i64 ((p + ((g B).d) : Nat) : Int), .int .i64 (((g B).e : Nat) : Int)] 102), (φ1 0, .cells #[.bool bi6, .pointer pi6] 26), (φ1 1, .cells #[.bool false, .pointer none] 26)]) s trivial (by kernel_rfl) (by kernel_rfl) (fun _ _ => by kernel_rfl) (fun _ _ => by kernel_rfl) ⟨fun _ _ => by kernel_rfl, fun _ _ => by kernel_rfl, fun _ _ => by kernel_rfl, fun _ _ => by kernel_rfl⟩ (fun _ _ _ => by kernel_rfl) (fun _ _ => by kernel_rfl) (fun _ _ => by kernel_rfl) (fun _ _ => by kernel_rfl) (fun _ _ => by kernel_rfl) (fun _ _ => by kernel_rfl) trivial trivial (by kernel_rfl) trivial ?k17
    case k17 =>
     rintro φ17 xs17 I17 w17 le17 s 
     replace hl := BSl.mono le17 hl
     replace h6_0 := Ev.TRep.mono le17 h6_0
     refine wp_ret ?_
     refine ret_rule (C := []) [(r, .cells #[.slice a l.length c, .int .i64 ((p + ((g B).d) : Nat) : Int), .int .i64 (((g B).e : Nat) : Int)] 102), (φ1 0, .cells #[.bool bi6, .pointer pi6] 26), (φ1 1, .cells #[.bool false, .pointer none] 26)] [] (.tuple #[.agg #[.bool bi6, .pointer pi6], .agg #[.bool false, .pointer none], .int .i64 (((g B).er : Nat) : Int)]) [.o 1, .o 1, .o 2, .o 2] [φ1 0, φ1 0, φ1 1, φ1 1] s trivial (by kernel_rfl) ?_
     replace s := s.drop (List.Sublist.append (List.Sublist.cons₂ _ (List.Sublist.cons _ (List.Sublist.cons _ List.Sublist.slnil))) (List.Sublist.refl []))
     have e9 : hvG g Ev.T.zero true true B = ⟨(g B).t, Ev.T.zero, (g B).er, ((g B).d), (g B).e⟩ := by unfold hvG hR hL; simp [hc3, hc9, of_decide_eq_false hc11]
     exact ⟨_, _, _, rfl, s, (by rw [e9]; exact ⟨_, rfl, rfl, _, _, _, _, rfl, (by simp only [Nat.add_assoc, Nat.add_zero]), h6_0, (Ev.TRep.z _)⟩)⟩
  ·
   rw [hc9]
   refine ops_rule (C := []) _ [] 3 [] 0 (fun φ18 => [(22, .bool false), (21, undef), (20, undef)]) (fun φ18 => [(r, .cells #[.slice a l.length c, .int .i64 ((p + ((g B).d) : Nat) : Int), .int .i64 (((g B).e : Nat) : Int)] 102), (φ1 0, .cells #[.bool bi6, .pointer pi6] 26), (φ1 1, .cells #[.bool false, .pointer none] 26)]) (fun φ18 => []) s trivial (fun φ18 => by kernel_rfl) ?_
   intro φ18 w18 s
   refine ops_done (by kernel_rfl) ?_
   refine cond_false_rule (b := false) (by kernel_rfl) rfl ?_
   refine wp_skip ?_
   refine wp_seq ?_
   refine draw_rule (C := []) ⟨(fun φ19 xs19 => [.look 0 [.o 1, .o 1] [φ1 0, φ1 0], .look 0 [.o 2, .o 2] [φ1 1, φ1 1], .look 0 [] [], .store 0 [.o 1, .o 1] [φ1 0, φ1 0], .store 1 [.o 2, .o 2] [φ1 1, φ1 1], .look 2 [] []]), (fun φ19 xs19 => [.agg #[.bool bi6, .pointer pi6], .agg #[.bool false, .pointer none], .int .i64 (((g B).er : Nat) : Int), undef, undef, .int .i64 (((g B).er : Nat) : Int)]), (fun φ19 xs19 => [[(r, .cells #[.slice a l.length c, .int .i64 ((p + ((g B).d) : Nat) : Int), .int .i64 (((g B).e : Nat) : Int)] 102), (φ1 0, .cells #[.bool bi6, .pointer pi6] 26), (φ1 1, .cells #[.bool false, .pointer none] 26)], [(r, .cells #[.slice a l.length c, .int .i64 ((p + ((g B).d) : Nat) : Int), .int .i64 (((g B).e : Nat) : Int)] 102), (φ1 0, .cells #[.bool bi6, .pointer pi6] 26), (φ1 1, .cells #[.bool false, .pointer none] 26)], [(r, .cells #[.slice a l.length c, .int .i64 ((p + ((g B).d) : Nat) : Int), .int .i64 (((g B).e : Nat) : Int)] 102), (φ1 0, .cells #[.bool bi6, .pointer pi6] 26), (φ1 1, .cells #[.bool false, .pointer none] 26)]]), (fun φ19 xs19 => [[default, default, default, default, default, default], [default, default, default, default, default, default], [default, default, default, default, default, default]]), [3, 4], [1, 1, 1, 4, 4, 1]⟩ (fun j => ([MP.any] : List MP).getD j MP.any) [] [] [] (fun φ19 xs19 => [[none, none, none, none, none, none], [none, none, none, none, none, none]]) (fun φ19 xs19 => [(29, .agg #[.bool bi6, .pointer pi6]), (30, .agg #[.bool false, .pointer none]), (31, .int .i64 (((g B).er : Nat) : Int)), (10, .int .i64 (((g B).er : Nat) : Int))]) (fun φ19 xs19 => [(r, .cells #[.slice a l.length c, .int .i64 ((p + ((g B).d) : Nat) : Int), .int .i64 (((g B).e : Nat) : Int)] 102), (φ1 0, .cells #[.bool bi6, .pointer pi6] 26), (φ1 1, .cells #[.bool false, .pointer none] 26)]) s trivial (by kernel_rfl) (by kernel_rfl) (fun _ _ => by kernel_rfl) (fun _ _ => by kernel_rfl) ⟨fun _ _ => by kernel_rfl, fun _ _ => by kernel_rfl, fun _ _ => by kernel_rfl, fun _ _ => by kernel_rfl⟩ (fun _ _ _ => by kernel_rfl) (fun _ _ => by kernel_rfl) (fun _ _ => by kernel_rfl) (fun _ _ => by kernel_rfl) (fun _ _ => by kernel_rfl) (fun _ _ => by kernel_rfl) trivial trivial (by kernel_rfl) trivial ?k19
   case k19 =>
    rintro φ19 xs19 I19 w19 le19 s 
    replace hl := BSl.mono le19 hl
    replace h6_0 := Ev.TRep.mono le19 h6_0
    refine wp_ret ?_
    refine ret_rule (C := []) [(r, .cells #[.slice a l.length c, .int .i64 ((p + ((g B).d) : Nat) : Int), .int .i64 (((g B).e : Nat) : Int)] 102), (φ1 0, .cells #[.bool bi6, .pointer pi6] 26), (φ1 1, .cells #[.bool false, .pointer none] 26)] [] (.tuple #[.agg #[.bool bi6, .pointer pi6], .agg #[.bool false, .pointer none], .int .i64 (((g B).er : Nat) : Int)]) [.o 1, .o 1, .o 2, .o 2] [φ1 0, φ1 0, φ1 1, φ1 1] s trivial (by kernel_rfl) ?_
    replace s := s.drop (List.Sublist.append (List.Sublist.cons₂ _ (List.Sublist.cons _ (List.Sublist.cons _ List.Sublist.slnil))) (List.Sublist.refl []))
    have e9 : hvG g Ev.T.zero true false B = ⟨(g B).t, Ev.T.zero, (g B).er, ((g B).d), (g B).e⟩ := by unfold hvG hR hL; simp [hc3, hc9]
    exact ⟨_, _, _, rfl, s, (by rw [e9]; exact ⟨_, rfl, rfl, _, _, _, _, rfl, (by simp only [Nat.add_assoc, Nat.add_zero]), h6_0, (Ev.TRep.z _)⟩)⟩
 ·
  rw [hc3]
  refine cond_false_rule (b := false) (by kernel_rfl) rfl ?_
  refine wp_skip ?_
  refine wp_seq ?_
  refine seqR ?_
  refine ops_rule (C := []) _ [] 2 [] 0 (fun φ20 => [(19, .bool xb), (18, .bool xb)]) (fun φ20 => [(r, .cells #[.slice a l.length c, .int .i64 p, .int .i64 e] 102), (φ1 0, .cells #[.bool false, .pointer none] 26), (φ1 1, .cells #[.bool false, .pointer none] 26)]) (fun φ20 => []) s trivial (fun φ20 => by kernel_rfl) ?_
  intro φ20 w20 s
  rcases Bool.eq_false_or_eq_true (xb) with hc21 | hc21
  ·
   rw [hc21]
   refine ops_rule (C := []) _ [] 3 [] 0 (fun φ22 => [(22, .bool true), (21, .bool true), (20, .int .i64 0)]) (fun φ22 => [(r, .cells #[.slice a l.length c, .int .i64 p, .int .i64 e] 102), (φ1 0, .cells #[.bool false, .pointer none] 26), (φ1 1, .cells #[.bool false, .pointer none] 26)]) (fun φ22 => []) s trivial (fun φ22 => by kernel_rfl) ?_
   intro φ22 w22 s
   refine ops_done (by kernel_rfl) ?_
   refine cond_true_rule (b := true) (by kernel_rfl) rfl ?_
   refine region_rule ?_
   refine ops_rule (C := []) _ [] 2 [] 0 (fun φ23 => [(25, .int .i64 deep), (24, .func (.func 61) #[.agg #[pB r]] #[])]) (fun φ23 => [(r, .cells #[.slice a l.length c, .int .i64 p, .int .i64 e] 102), (φ1 0, .cells #[.bool false, .pointer none] 26), (φ1 1, .cells #[.bool false, .pointer none] 26)]) (fun φ23 => []) s trivial (fun φ23 => by kernel_rfl) ?_
   intro φ23 w23 s
   refine callB_rule (b := (r, .cells #[.slice a l.length c, .int .i64 p, .int .i64 e] 102)) (F := []) (Hr := [(φ1 0, .cells #[.bool false, .pointer none] 26), (φ1 1, .cells #[.bool false, .pointer none] 26)]) (some 26) 0 s (by kernel_rfl) (by kernel_rfl) (ih hl hp hB he) (by kernel_rfl) ?_
   rintro v25 I25 w25 b25 le25 - h25 s
   obtain ⟨bi25, pi25, rfl, rfl, h25_0⟩ := h25
   have hB24 := next_B (d := (g B).d) hB
   have hp24 := next_p (d := (g B).d) hp hB (hg.d _)
   refine ops_rule (C := []) _ [] 5 [.o 2, .o 2] 0 (fun φ26 => [(10, .int .i64 (((g B).er : Nat) : Int)), (28, .int .i64 (((g B).er : Nat) : Int)), (27, .agg #[.bool bi25, .pointer pi25]), (23, .tuple #[.agg #[.bool bi25, .pointer pi25], .int .i64 (((g B).er : Nat) : Int)])]) (fun φ26 => [(r, .cells #[.slice a l.length c, .int .i64 ((p + ((g B).d) : Nat) : Int), .int .i64 (((g B).e : Nat) : Int)] 102), (φ1 0, .cells #[.bool false, .pointer none] 26), (φ1 1, .cells #[.bool bi25, .pointer pi25] 26)]) (fun φ26 => [φ1 1, φ1 1]) s trivial (fun φ26 => by kernel_rfl) ?_
   intro φ26 w26 s
   refine ops_done (by kernel_rfl) ?_
   refine wp_seq ?_
   refine draw_rule (C := []) ⟨(fun φ27 xs27 => [.look 0 [.o 1, .o 1] [φ1 0, φ1 0], .look 0 [.o 2, .o 2] [φ1 1, φ1 1], .look 0 [] [], .store 0 [.o 1, .o 1] [φ1 0, φ1 0], .store 1 [.o 2, .o 2] [φ1 1, φ1 1], .look 2 [] []]), (fun φ27 xs27 => [.agg #[.bool false, .pointer none], .agg #[.bool bi25, .pointer pi25], .int .i64 (((g B).er : Nat) : Int), undef, undef, .int .i64 (((g B).er : Nat) : Int)]), (fun φ27 xs27 => [[(r, .cells #[.slice a l.length c, .int .i64 ((p + ((g B).d) : Nat) : Int), .int .i64 (((g B).e : Nat) : Int)] 102), (φ1 0, .cells #[.bool false, .pointer none] 26), (φ1 1, .cells #[.bool bi25, .pointer pi25] 26)], [(r, .cells #[.slice a l.length c, .int .i64 ((p + ((g B).d) : Nat) : Int), .int .i64 (((g B).e : Nat) : Int)] 102), (φ1 0, .cells #[.bool false, .pointer none] 26), (φ1 1, .cells #[.bool bi25, .pointer pi25] 26)], [(r, .cells #[.slice a l.length c, .int .i64 ((p + ((g B).d) : Nat) : Int), .int .i64 (((g B).e : Nat) : Int)] 102), (φ1 0, .cells #[.bool false, .pointer none] 26), (φ1 1, .cells #[.bool bi25, .pointer pi25] 26)]]), (fun φ27 xs27 => [[default, default, default, default, default, default], [default, default, default, default, default, default], [default, default, default, default, default, default]]), [3, 4], [1, 1, 1, 4, 4, 1]⟩ (fun j => ([MP.any] : List MP).getD j MP.any) [] [] [] (fun φ27 xs27 => [[none, none, none, none, none, none], [none, none, none, none, none, none]]) (fun φ27 xs27 => [(29, .agg #[.bool false, .pointer none]), (30, .agg #[.bool bi25, .pointer pi25]), (31, .int .i64 (((g B).er : Nat) : Int)), (10, .int .i64 (((g B).er : Nat) : Int))]) (fun φ27 xs27 => [(r, .cells #[.slice a l.length c, .int .i64 ((p + ((g B).d) : Nat) : Int), .int .i64 (((g B).e : Nat) : Int)] 102), (φ1 0, .cells #[.bool false, .pointer none] 26), (φ1 1, .cells #[.bool bi25, .pointer pi25] 26)]) s trivial (by kernel_rfl) (by kernel_rfl) (fun _ _ => by kernel_rfl) (fun _ _ => by kernel_rfl) ⟨fun _ _ => by kernel_rfl, fun _ _ => by kernel_rfl, fun _ _ => by kernel_rfl, fun _ _ => by kernel_rfl⟩ (fun _ _ _ => by kernel_rfl) (fun _ _ => by kernel_rfl) (fun _ _ => by kernel_rfl) (fun _ _ => by kernel_rfl) (fun _ _ => by kernel_rfl) (fun _ _ => by kernel_rfl) trivial trivial (by kernel_rfl) trivial ?k27
   case k27 =>
    rintro φ27 xs27 I27 w27 le27 s 
    replace h25_0 := Ev.TRep.mono le27 h25_0
    refine wp_ret ?_
    refine ret_rule (C := []) [(r, .cells #[.slice a l.length c, .int .i64 ((p + ((g B).d) : Nat) : Int), .int .i64 (((g B).e : Nat) : Int)] 102), (φ1 0, .cells #[.bool false, .pointer none] 26), (φ1 1, .cells #[.bool bi25, .pointer pi25] 26)] [] (.tuple #[.agg #[.bool false, .pointer none], .agg #[.bool bi25, .pointer pi25], .int .i64 (((g B).er : Nat) : Int)]) [.o 1, .o 1, .o 2, .o 2] [φ1 0, φ1 0, φ1 1, φ1 1] s trivial (by kernel_rfl) ?_
    replace s := s.drop (List.Sublist.append (List.Sublist.cons₂ _ (List.Sublist.cons _ (List.Sublist.cons _ List.Sublist.slnil))) (List.Sublist.refl []))
    have e9 : hvG g Ev.T.zero false true B = ⟨Ev.T.zero, (g B).t, (g B).er, ((g B).d), (g B).e⟩ := by unfold hvG hR hL; simp [hc3, hc21]
    exact ⟨_, _, _, rfl, s, (by rw [e9]; exact ⟨_, rfl, rfl, _, _, _, _, rfl, (by simp only [Nat.add_assoc, Nat.add_zero]), (Ev.TRep.z _), h25_0⟩)⟩
  ·
   rw [hc21]
   refine ops_rule (C := []) _ [] 3 [] 0 (fun φ28 => [(22, .bool false), (21, undef), (20, undef)]) (fun φ28 => [(r, .cells #[.slice a l.length c, .int .i64 p, .int .i64 e] 102), (φ1 0, .cells #[.bool false, .pointer none] 26), (φ1 1, .cells #[.bool false, .pointer none] 26)]) (fun φ28 => []) s trivial (fun φ28 => by kernel_rfl) ?_
   intro φ28 w28 s
   refine ops_done (by kernel_rfl) ?_
   refine cond_false_rule (b := false) (by kernel_rfl) rfl ?_
   refine wp_skip ?_
   refine wp_seq ?_
   refine draw_rule (C := []) ⟨(fun φ29 xs29 => [.look 0 [.o 1, .o 1] [φ1 0, φ1 0], .look 0 [.o 2, .o 2] [φ1 1, φ1 1], .look 0 [] [], .store 0 [.o 1, .o 1] [φ1 0, φ1 0], .store 1 [.o 2, .o 2] [φ1 1, φ1 1], .look 2 [] []]), (fun φ29 xs29 => [.agg #[.bool false, .pointer none], .agg #[.bool false, .pointer none], .int .i64 0, undef, undef, .int .i64 0]), (fun φ29 xs29 => [[(r, .cells #[.slice a l.length c, .int .i64 p, .int .i64 e] 102), (φ1 0, .cells #[.bool false, .pointer none] 26), (φ1 1, .cells #[.bool false, .pointer none] 26)], [(r, .cells #[.slice a l.length c, .int .i64 p, .int .i64 e] 102), (φ1 0, .cells #[.bool false, .pointer none] 26), (φ1 1, .cells #[.bool false, .pointer none] 26)], [(r, .cells #[.slice a l.length c, .int .i64 p, .int .i64 e] 102), (φ1 0, .cells #[.bool false, .pointer none] 26), (φ1 1, .cells #[.bool false, .pointer none] 26)]]), (fun φ29 xs29 => [[default, default, default, default, default, default], [default, default, default, default, default, default], [default, default, default, default, default, default]]), [3, 4], [1, 1, 1, 4, 4, 1]⟩ (fun j => ([MP.any] : List MP).getD j MP.any) [] [] [] (fun φ29 xs29 => [[none, none, none, none, none, none], [none, none, none, none, none, none]]) (fun φ29 xs29 => [(29, .agg #[.bool false, .pointer none]), (30, .agg #[.bool false, .pointer none]), (31, .int .i64 0), (10, .int .i64 0)]) (fun φ29 xs29 => [(r, .cells #[.slice a l.length c, .int .i64 p, .int .i64 e] 102), (φ1 0, .cells #[.bool false, .pointer none] 26), (φ1 1, .cells #[.bool false, .pointer none] 26)]) s trivial (by kernel_rfl) (by kernel_rfl) (fun _ _ => by kernel_rfl) (fun _ _ => by kernel_rfl) ⟨fun _ _ => by kernel_rfl, fun _ _ => by kernel_rfl, fun _ _ => by kernel_rfl, fun _ _ => by kernel_rfl⟩ (fun _ _ _ => by kernel_rfl) (fun _ _ => by kernel_rfl) (fun _ _ => by kernel_rfl) (fun _ _ => by kernel_rfl) (fun _ _ => by kernel_rfl) (fun _ _ => by kernel_rfl) trivial trivial (by kernel_rfl) trivial ?k29
   case k29 =>
    rintro φ29 xs29 I29 w29 le29 s 
    refine wp_ret ?_
    refine ret_rule (C := []) [(r, .cells #[.slice a l.length c, .int .i64 p, .int .i64 e] 102), (φ1 0, .cells #[.bool false, .pointer none] 26), (φ1 1, .cells #[.bool false, .pointer none] 26)] [] (.tuple #[.agg #[.bool false, .pointer none], .agg #[.bool false, .pointer none], .int .i64 0]) [.o 1, .o 1, .o 2, .o 2] [φ1 0, φ1 0, φ1 1, φ1 1] s trivial (by kernel_rfl) ?_
    replace s := s.drop (List.Sublist.append (List.Sublist.cons₂ _ (List.Sublist.cons _ (List.Sublist.cons _ List.Sublist.slnil))) (List.Sublist.refl []))
    have e9 : hvG g Ev.T.zero false false B = ⟨Ev.T.zero, Ev.T.zero, 0, 0, e⟩ := by unfold hvG hR hL; simp [hc3, hc21, he]
    exact ⟨_, _, _, rfl, s, (by rw [e9]; exact ⟨_, rfl, rfl, _, _, _, _, rfl, (by simp only [Nat.add_assoc, Nat.add_zero]), (Ev.TRep.z _), (Ev.TRep.z _)⟩)⟩

end Go.Proofs.Ytgmigcmhnmmdkaa
/- Ids are read. -/
set_option linter.all false
set_option maxRecDepth 100000
namespace Go.Proofs.Ytgmigcmhnmmdkaa
open Go.RowKit Go.Sep
attribute [local irreducible] Go.wpList Go.Code.wp

set_option maxHeartbeats 4000000 in
theorem id_step {I : IM} {l : List UInt8} {a : Option Addr} {c : Nat} {r p e : Nat} {B : List Bool} (hl : BSl I l (.slice a l.length c)) (hn9 : l.length ≤ 1000000) (hp : p ≤ l.length * 8) (hB : (bitsL l).drop p = B) (he : e = 0) {g : List Bool → Rd Ev.T} (hg : OkT g) {deep : Nat} (hdp : deep ≤ 16) {last : Bool} (hlast : last = decide (deep = 16)) (ih : deep ≠ 16 → ∀ {J : IM} {p e : Nat} {B : List Bool}, BSl J l (.slice a l.length c) → p ≤ l.length * 8 → (bitsL l).drop p = B → e = 0 → FunM Try.prog 61 #[.agg #[.pointer (some ⟨r, 0, none⟩)], .int .i64 ((deep + 1 : Nat) : Int)] J [(r, .cells #[.slice a l.length c, .int .i64 ((p : Nat) : Int), .int .i64 ((e : Nat) : Int)] 102)] (fun v J H' => ∃ b' : OB, H' = [b'] ∧ b'.1 = r ∧ ∃ bi pi, v = .tuple #[.agg #[.bool bi, .pointer pi], .int .i64 (((g B).er : Nat) : Int)] ∧ b' = (r, .cells #[.slice a l.length c, .int .i64 ((p + (g B).d : Nat) : Int), .int .i64 (((g B).e : Nat) : Int)] 102) ∧ Ev.TRep J (g B).t bi pi)) : FunM Try.prog 61 #[.agg #[.pointer (some ⟨r, 0, none⟩)], .int .i64 ((deep : Nat) : Int)] I [(r, .cells #[.slice a l.length c, .int .i64 ((p : Nat) : Int), .int .i64 ((e : Nat) : Int)] 102)] (fun v J H' => ∃ b' : OB, H' = [b'] ∧ b'.1 = r ∧ ∃ bi pi, v = .tuple #[.agg #[.bool bi, .pointer pi], .int .i64 (((idN g last B).er : Nat) : Int)] ∧ b' = (r, .cells #[.slice a l.length c, .int .i64 ((p + (idN g last B).d : Nat) : Int), .int .i64 (((idN g last B).e : Nat) : Int)] 102) ∧ Ev.TRep J (idN g last B).t bi pi) := by
 refine enterM_rule 59 [(0, .agg #[pB r]), (1, .int .i64 deep)] Try.func61 rfl (by kernel_rfl) ?_
 intro w s
 refine seqR ?_
 refine ops_rule (C := []) [(r, .cells #[.slice a l.length c, .int .i64 p, .int .i64 e] 102)] [] 3 [] 2 (fun φ1 => [(5, .int .i64 0), (4, pB (φ1 1)), (2, pB (φ1 0))]) (fun φ1 => [(r, .cells #[.slice a l.length c, .int .i64 p, .int .i64 e] 102), (φ1 0, .cells #[pB r] 104), (φ1 1, .cells #[.bool false, .pointer none] 26)]) (fun φ1 => []) s trivial (fun φ1 => by kernel_rfl) ?_
 intro φ1 w1 s
 refine ops_done (by kernel_rfl) ?_
 refine seqR ?_
 refine ops_rule (C := []) _ [] 2 [.o 1] 0 (fun φ2 => [(12, pB r), (11, pB (φ1 0))]) (fun φ2 => [(r, .cells #[.slice a l.length c, .int .i64 p, .int .i64 e] 102), (φ1 0, .cells #[pB r] 104), (φ1 1, .cells #[.bool false, .pointer none] 26)]) (fun φ2 => [(φ1 0)]) s trivial (fun φ2 => by kernel_rfl) ?_
 intro φ2 w2 s
 refine callB_rule (b := (r, .cells #[.slice a l.length c, .int .i64 p, .int .i64 e] 102)) (F := []) (Hr := [(φ1 0, .cells #[pB r] 104), (φ1 1, .cells #[.bool false, .pointer none] 26)]) (some 13) 0 s (by kernel_rfl) (by kernel_rfl) (getK_c (k := 2) (r := r) (p := p) (B := B) hl hn9 hp hB he (by decide)) (by kernel_rfl) ?_
 rintro v4 I4 w4 b4 le4 - h4 s
 replace hl := BSl.mono le4 hl
 obtain ⟨rfl, rfl⟩ := h4
 have hB3 := next_B (d := gD 0 B 2) hB
 have hp3 := next_p (d := gD 0 B 2) hp hB (gD_le _ _ _)
 refine ops_rule (C := []) _ [] 1 [] 0 (fun φ5 => [(6, .int .u64 (gV 0 B 2))]) (fun φ5 => [(r, .cells #[.slice a l.length c, .int .i64 ((p + (gD 0 B 2) : Nat) : Int), .int .i64 (gE 0 B 2)] 102), (φ1 0, .cells #[pB r] 104), (φ1 1, .cells #[.bool false, .pointer none] 26)]) (fun φ5 => []) s trivial (fun φ5 => by kernel_rfl) ?_
 intro φ5 w5 s
 refine ops_done (by kernel_rfl) ?_
 refine wp_seq ?_
 refine wp_block ?_
 refine seqR ?_
 refine ops_rule (C := []) _ [] 1 [.o 1] 0 (fun φ6 => [(15, .agg #[pB r])]) (fun φ6 => [(r, .cells #[.slice a l.length c, .int .i64 ((p + (gD 0 B 2) : Nat) : Int), .int .i64 (gE 0 B 2)] 102), (φ1 0, .cells #[pB r] 104), (φ1 1, .cells #[.bool false, .pointer none] 26)]) (fun φ6 => [(φ1 0)]) s trivial (fun φ6 => by kernel_rfl) ?_
 intro φ6 w6 s
 refine callB_rule (b := (r, .cells #[.slice a l.length c, .int .i64 ((p + (gD 0 B 2) : Nat) : Int), .int .i64 (gE 0 B 2)] 102)) (F := []) (Hr := [(φ1 0, .cells #[pB r] 104), (φ1 1, .cells #[.bool false, .pointer none] 26)]) (some 16) 0 s (by kernel_rfl) (by kernel_rfl) (failed_c (r := r) (v0 := .slice a l.length c) (v1 := .int .i64 ((p + (gD 0 B 2) : Nat) : Int)) (e := gE 0 B 2)) (by kernel_rfl) ?_
 rintro v7 I7 w7 b7 le7 - h7 s
 replace hl := BSl.mono le7 hl
 obtain ⟨rfl, rfl⟩ := h7
 refine ops_rule (C := []) _ [] 1 [] 0 (fun φ8 => [(14, .bool (decide (gE 0 B 2 ≠ 0)))]) (fun φ8 => [(r, .cells #[.slice a l.length c, .int .i64 ((p + (gD 0 B 2) : Nat) : Int), .int .i64 (gE 0 B 2)] 102), (φ1 0, .cells #[pB r] 104), (φ1 1, .cells #[.bool false, .pointer none] 26)]) (fun φ8 => []) s trivial (fun φ8 => by kernel_rfl) ?_
 intro φ8 w8 s
 refine ops_done (by kernel_rfl) ?_
 rcases Bool.eq_false_or_eq_true (decide (gE 0 B 2 ≠ 0)) with hc9 | hc9
 ·
  rw [hc9]
  refine cond_true_rule (b := true) (by kernel_rfl) rfl ?_
  refine seqR ?_
  refine call_rule (some 17) s (Ev.tzero_c) (by kernel_rfl) ?_
  intro v10 I10 w10 le10 h10 s
  replace hl := BSl.mono le10 hl
  obtain rfl := h10
  refine ops_rule (C := []) _ [] 2 [.o 2, .o 2] 0 (fun φ11 => [(5, .int .i64 6)]) (fun φ11 => [(r, .cells #[.slice a l.length c, .int .i64 ((p + (gD 0 B 2) : Nat) : Int), .int .i64 (gE 0 B 2)] 102), (φ1 0, .cells #[pB r] 104), (φ1 1, .cells #[.bool false, .pointer none] 26)]) (fun φ11 => [φ1 1, φ1 1]) s trivial (fun φ11 => by kernel_rfl) ?_
  intro φ11 w11 s
  refine ops_done (by kernel_rfl) ?_
  refine wp_ret ?_
  refine ret_rule (C := []) _ [] (.tuple #[.agg #[.bool false, .pointer none], .int .i64 6]) [.o 2, .o 2] [φ1 1, φ1 1] s trivial (by kernel_rfl) ?_
  replace s := s.drop (List.Sublist.append (List.Sublist.cons₂ _ (List.Sublist.cons _ (List.Sublist.cons _ List.Sublist.slnil))) (List.Sublist.refl []))
  have e9 : idN g last B = ⟨Ev.T.zero, 6, (gD 0 B 2), gE 0 B 2⟩ := by unfold idN; rw [if_pos (of_decide_eq_true hc9)]
  exact ⟨_, _, _, rfl, s, (by rw [e9]; exact ⟨_, rfl, rfl, _, _, rfl, (by simp only [Nat.add_assoc, Nat.add_zero]), (Ev.TRep.z _)⟩)⟩
 ·
  rw [hc9]
  refine cond_false_rule (b := false) (by kernel_rfl) rfl ?_
  refine seqR ?_
  refine ops_rule (C := []) _ [] 3 [] 0 (fun φ12 => [(18, .bool (((gV 0 B 2 : Nat) : Int) == ((0 : Nat) : Int))), (20, .bool (((gV 0 B 2 : Nat) : Int) == ((0 : Nat) : Int))), (19, .int .u64 (gV 0 B 2))]) (fun φ12 => [(r, .cells #[.slice a l.length c, .int .i64 ((p + (gD 0 B 2) : Nat) : Int), .int .i64 (gE 0 B 2)] 102), (φ1 0, .cells #[pB r] 104), (φ1 1, .cells #[.bool false, .pointer none] 26)]) (fun φ12 => []) s trivial (fun φ12 => by kernel_rfl) ?_
  intro φ12 w12 s
  rw [nat_eql (a := (gV 0 B 2)) (b := 0)]
  refine ops_done (by kernel_rfl) ?_
  rcases Bool.eq_false_or_eq_true (decide ((gV 0 B 2) = 0)) with hc13 | hc13
  ·
   rw [hc13]
   refine cond_true_rule (b := true) (by kernel_rfl) rfl ?_
   refine seqR ?_
   refine ops_rule (C := []) _ [] 1 [.o 1] 0 (fun φ14 => [(21, .agg #[pB r])]) (fun φ14 => [(r, .cells #[.slice a l.length c, .int .i64 ((p + (gD 0 B 2) : Nat) : Int), .int .i64 (gE 0 B 2)] 102), (φ1 0, .cells #[pB r] 104), (φ1 1, .cells #[.bool false, .pointer none] 26)]) (fun φ14 => [(φ1 0)]) s trivial (fun φ14 => by kernel_rfl) ?_
   intro φ14 w14 s
   refine callB_rule (b := (r, .cells #[.slice a l.length c, .int .i64 ((p + (gD 0 B 2) : Nat) : Int), .int .i64 (gE 0 B 2)] 102)) (F := []) (Hr := [(φ1 0, .cells #[pB r] 104), (φ1 1, .cells #[.bool false, .pointer none] 26)]) (some 22) 0 s (by kernel_rfl) (by kernel_rfl) (leafID_c (r := r) (p := p + (gD 0 B 2)) (B := (B.drop (gD 0 B 2))) hl hn9 hp3 hB3 (Decidable.not_not.1 (of_decide_eq_false hc9))) (by kernel_rfl) ?_
   rintro v16 I16 w16 b16 le16 - h16 s
   replace hl := BSl.mono le16 hl
   obtain ⟨bi16, pi16, rfl, rfl, h16_0⟩ := h16
   have hB15 := next_B (d := (lfG (B.drop (gD 0 B 2))).d) hB3
   have hp15 := next_p (d := (lfG (B.drop (gD 0 B 2))).d) hp3 hB3 (lfG_ok.d _)
   refine ops_rule (C := []) _ [] 4 [.o 2, .o 2] 0 (fun φ17 => [(5, .int .i64 (((lfG (B.drop (gD 0 B 2))).er : Nat) : Int)), (24, .int .i64 (((lfG (B.drop (gD 0 B 2))).er : Nat) : Int)), (23, .agg #[.bool bi16, .pointer pi16])]) (fun φ17 => [(r, .cells #[.slice a l.length c, .int .i64 ((p + (gD 0 B 2) + ((lfG (B.drop (gD 0 B 2))).d) : Nat) : Int), .int .i64 (((lfG (B.drop (gD 0 B 2))).e : Nat) : Int)] 102), (φ1 0, .cells #[pB r] 104), (φ1 1, .cells #[.bool bi16, .pointer pi16] 26)]) (fun φ17 => [φ1 1, φ1 1]) s trivial (fun φ17 => by kernel_rfl) ?_
   intro φ17 w17 s
   refine ops_done (by kernel_rfl) ?_
   refine wp_ret ?_
   refine ret_rule (C := []) _ [] (.tuple #[.agg #[.bool bi16, .pointer pi16], .int .i64 (((lfG (B.drop (gD 0 B 2))).er : Nat) : Int)]) [.o 2, .o 2] [φ1 1, φ1 1] s trivial (by kernel_rfl) ?_
   replace s := s.drop (List.Sublist.append (List.Sublist.cons₂ _ (List.Sublist.cons _ (List.Sublist.cons _ List.Sublist.slnil))) (List.Sublist.refl []))
   have e9 : idN g last B = ⟨(lfG (B.drop (gD 0 B 2))).t, (lfG (B.drop (gD 0 B 2))).er, (gD 0 B 2) + ((lfG (B.drop (gD 0 B 2))).d), (lfG (B.drop (gD 0 B 2))).e⟩ := by unfold idN; rw [if_neg (of_decide_eq_false hc9), if_pos (of_decide_eq_true hc13)]
   exact ⟨_, _, _, rfl, s, (by rw [e9]; exact ⟨_, rfl, rfl, _, _, rfl, (by simp only [Nat.add_assoc, Nat.add_zero]), h16_0⟩)⟩
  ·
   rw [hc13]
   refine cond_false_rule (b := false) (by kernel_rfl) rfl ?_
   refine seqR ?_
   refine ops_rule (C := []) _ [] 3 [] 0 (fun φ18 => [(25, .bool (((deep : Nat) : Int) == ((16 : Nat) : Int))), (27, .bool (((deep : Nat) : Int) == ((16 : Nat) : Int))), (26, .int .i64 deep)]) (fun φ18 => [(r, .cells #[.slice a l.length c, .int .i64 ((p + (gD 0 B 2) : Nat) : Int), .int .i64 (gE 0 B 2)] 102), (φ1 0, .cells #[pB r] 104), (φ1 1, .cells #[.bool false, .pointer none] 26)]) (fun φ18 => []) s trivial (fun φ18 => by kernel_rfl) ?_
   intro φ18 w18 s
   rw [nat_eql (a := deep) (b := 16)]
   refine ops_done (by kernel_rfl) ?_
   rcases Bool.eq_false_or_eq_true (decide (deep = 16)) with hc19 | hc19
   ·
    rw [hc19]
    refine cond_true_rule (b := true) (by kernel_rfl) rfl ?_
    refine seqR ?_
    refine call_rule (some 28) s (Ev.tzero_c) (by kernel_rfl) ?_
    intro v20 I20 w20 le20 h20 s
    replace hl := BSl.mono le20 hl
    obtain rfl := h20
    refine ops_rule (C := []) _ [] 2 [.o 2, .o 2] 0 (fun φ21 => [(5, .int .i64 3)]) (fun φ21 => [(r, .cells #[.slice a l.length c, .int .i64 ((p + (gD 0 B 2) : Nat) : Int), .int .i64 (gE 0 B 2)] 102), (φ1 0, .cells #[pB r] 104), (φ1 1, .cells #[.bool false, .pointer none] 26)]) (fun φ21 => [φ1 1, φ1 1]) s trivial (fun φ21 => by kernel_rfl) ?_
    intro φ21 w21 s
    refine ops_done (by kernel_rfl) ?_
    refine wp_ret ?_
    refine ret_rule (C := []) _ [] (.tuple #[.agg #[.bool false, .pointer none], .int .i64 3]) [.o 2, .o 2] [φ1 1, φ1 1] s trivial (by kernel_rfl) ?_
    replace s := s.drop (List.Sublist.append (List.Sublist.cons₂ _ (List.Sublist.cons _ (List.Sublist.cons _ List.Sublist.slnil))) (List.Sublist.refl []))
    have e9 : idN g last B = ⟨Ev.T.zero, 3, (gD 0 B 2), gE 0 B 2⟩ := by unfold idN; rw [if_neg (of_decide_eq_false hc9), if_neg (of_decide_eq_false hc13), if_pos (show last = true by rw [hlast, hc19])]
    exact ⟨_, _, _, rfl, s, (by rw [e9]; exact ⟨_, rfl, rfl, _, _, rfl, (by simp only [Nat.add_assoc, Nat.add_zero]), (Ev.TRep.z _)⟩)⟩
   ·
    rw [hc19]
    refine cond_false_rule (b := false) (by kernel_rfl) rfl ?_
    refine wp_skip ?_
    refine seqR ?_
    refine ops_rule (C := []) _ [] 8 [.o 1] 0 (fun φ22 => [(37, .func (.func 61) #[.agg #[pB r]] #[]), (36, .agg #[pB r]), (35, .int .i64 (IntKind.wrap .i64 (((deep : Nat) : Int) + ((1 : Nat) : Int)))), (34, .int .i64 deep), (33, .bool (((gV 0 B 2 : Nat) : Int) != ((2 : Nat) : Int))), (32, .int .u64 (gV 0 B 2)), (31, .bool (((gV 0 B 2 : Nat) : Int) != ((1 : Nat) : Int))), (30, .int .u64 (gV 0 B 2))]) (fun φ22 => [(r, .cells #[.slice a l.length c, .int .i64 ((p + (gD 0 B 2) : Nat) : Int), .int .i64 (gE 0 B 2)] 102), (φ1 0, .cells #[pB r] 104), (φ1 1, .cells #[.bool false, .pointer none] 26)]) (fun φ22 => [(φ1 0)]) s trivial (fun φ22 => by kernel_rfl) ?_
    intro φ22 w22 s
    rw [nat_neq (a := (gV 0 B 2)) (b := 1)]
    rw [nat_neq (a := (gV 0 B 2)) (b := 2)]
    rw [nat_addI (a := deep) (b := 1) (by  have hq0 := of_decide_eq_false hc9; have hq1 := of_decide_eq_false hc13; have hq2 := of_decide_eq_false hc19; omega)]
    refine callB_rule (b := (r, .cells #[.slice a l.length c, .int .i64 ((p + (gD 0 B 2) : Nat) : Int), .int .i64 (gE 0 B 2)] 102)) (F := []) (Hr := [(φ1 0, .cells #[pB r] 104), (φ1 1, .cells #[.bool false, .pointer none] 26)]) (some 38) 0 s (by kernel_rfl) (by kernel_rfl) (halvesT_c (r := r) (p := p + (gD 0 B 2)) (B := (B.drop (gD 0 B 2))) hl hn9 hp3 hB3 (Decidable.not_not.1 (of_decide_eq_false hc9)) hg (deep := deep + 1) (ih (of_decide_eq_false hc19)) (xa := decide ((gV 0 B 2) ≠ 1)) (xb := decide ((gV 0 B 2) ≠ 2))) (by kernel_rfl) ?_
    rintro v24 I24 w24 b24 le24 - h24 s
    obtain ⟨b124, p124, b224, p224, rfl, rfl, h24_0, h24_1⟩ := h24
    have hB23 := next_B (d := (hvG g Ev.T.zero (decide ((gV 0 B 2) ≠ 1)) (decide ((gV 0 B 2) ≠ 2)) (B.drop (gD 0 B 2))).d) hB3
    have hp23 := next_p (d := (hvG g Ev.T.zero (decide ((gV 0 B 2) ≠ 1)) (decide ((gV 0 B 2) ≠ 2)) (B.drop (gD 0 B 2))).d) hp3 hB3 (hv_d hg zT)
    refine ops_rule (C := []) _ [] 9 [.o 3, .o 3, .o 4, .o 4] 2 (fun φ25 => [(9, .int .i64 (((hvG g Ev.T.zero (decide ((gV 0 B 2) ≠ 1)) (decide ((gV 0 B 2) ≠ 2)) (B.drop (gD 0 B 2))).er : Nat) : Int)), (8, pB (φ25 1)), (7, pB (φ25 0)), (41, .int .i64 (((hvG g Ev.T.zero (decide ((gV 0 B 2) ≠ 1)) (decide ((gV 0 B 2) ≠ 2)) (B.drop (gD 0 B 2))).er : Nat) : Int)), (40, .agg #[.bool b224, .pointer p224]), (39, .agg #[.bool b124, .pointer p124]), (29, .tuple #[.agg #[.bool b124, .pointer p124], .agg #[.bool b224, .pointer p224], .int .i64 (((hvG g Ev.T.zero (decide ((gV 0 B 2) ≠ 1)) (decide ((gV 0 B 2) ≠ 2)) (B.drop (gD 0 B 2))).er : Nat) : Int)])]) (fun φ25 => [(r, .cells #[.slice a l.length c, .int .i64 ((p + (gD 0 B 2) + ((hvG g Ev.T.zero (decide ((gV 0 B 2) ≠ 1)) (decide ((gV 0 B 2) ≠ 2)) (B.drop (gD 0 B 2))).d) : Nat) : Int), .int .i64 (((hvG g Ev.T.zero (decide ((gV 0 B 2) ≠ 1)) (decide ((gV 0 B 2) ≠ 2)) (B.drop (gD 0 B 2))).e : Nat) : Int)] 102), (φ1 0, .cells #[pB r] 104), (φ1 1, .cells #[.bool false, .pointer none] 26), (φ25 0, .cells #[.bool b124, .pointer p124] 26), (φ25 1, .cells #[.bool b224, .pointer p224] 26)]) (fun φ25 => [φ25 0, φ25 0, φ25 1, φ25 1]) s trivial (fun φ25 => by kernel_rfl) ?_
    intro φ25 w25 s
    refine ops_done (by kernel_rfl) ?_
    refine wp_seq ?_
    refine seqR ?_
    refine ops_rule (C := []) _ [] 2 [] 0 (fun φ26 => [(43, .bool ((((hvG g Ev.T.zero (decide ((gV 0 B 2) ≠ 1)) (decide ((gV 0 B 2) ≠ 2)) (B.drop (gD 0 B 2))).er : Nat) : Int) != ((0 : Nat) : Int))), (42, .int .i64 (((hvG g Ev.T.zero (decide ((gV 0 B 2) ≠ 1)) (decide ((gV 0 B 2) ≠ 2)) (B.drop (gD 0 B 2))).er : Nat) : Int))]) (fun φ26 => [(r, .cells #[.slice a l.length c, .int .i64 ((p + (gD 0 B 2) + ((hvG g Ev.T.zero (decide ((gV 0 B 2) ≠ 1)) (decide ((gV 0 B 2) ≠ 2)) (B.drop (gD 0 B 2))).d) : Nat) : Int), .int .i64 (((hvG g Ev.T.zero (decide ((gV 0 B 2) ≠ 1)) (decide ((gV 0 B 2) ≠ 2)) (B.drop (gD 0 B 2))).e : Nat) : Int)] 102), (φ1 0, .cells #[pB r] 104), (φ1 1, .cells #[.bool false, .pointer none] 26), (φ25 0, .cells #[.bool b124, .pointer p124] 26), (φ25 1, .cells #[.bool b224, .pointer p224] 26)]) (fun φ26 => []) s trivial (fun φ26 => by kernel_rfl) ?_
    intro φ26 w26 s
    rw [nat_neq (a := ((hvG g Ev.T.zero (decide ((gV 0 B 2) ≠ 1)) (decide ((gV 0 B 2) ≠ 2)) (B.drop (gD 0 B 2))).er)) (b := 0)]
    refine ops_done (by kernel_rfl) ?_
    rcases Bool.eq_false_or_eq_true (decide (((hvG g Ev.T.zero (decide ((gV 0 B 2) ≠ 1)) (decide ((gV 0 B 2) ≠ 2)) (B.drop (gD 0 B 2))).er) ≠ 0)) with hc27 | hc27
    ·
     rw [hc27]
     refine cond_true_rule (b := true) (by kernel_rfl) rfl ?_
     refine seqR ?_
     refine call_rule (some 44) s (Ev.tzero_c) (by kernel_rfl) ?_
     intro v28 I28 w28 le28 h28 s
     replace h24_0 := Ev.TRep.mono le28 h24_0
     replace h24_1 := Ev.TRep.mono le28 h24_1
     obtain rfl := h28
     refine ops_rule (C := []) _ [] 3 [.o 2, .o 2] 0 (fun φ29 => [(5, .int .i64 (((hvG g Ev.T.zero (decide ((gV 0 B 2) ≠ 1)) (decide ((gV 0 B 2) ≠ 2)) (B.drop (gD 0 B 2))).er : Nat) : Int)), (45, .int .i64 (((hvG g Ev.T.zero (decide ((gV 0 B 2) ≠ 1)) (decide ((gV 0 B 2) ≠ 2)) (B.drop (gD 0 B 2))).er : Nat) : Int))]) (fun φ29 => [(r, .cells #[.slice a l.length c, .int .i64 ((p + (gD 0 B 2) + ((hvG g Ev.T.zero (decide ((gV 0 B 2) ≠ 1)) (decide ((gV 0 B 2) ≠ 2)) (B.drop (gD 0 B 2))).d) : Nat) : Int), .int .i64 (((hvG g Ev.T.zero (decide ((gV 0 B 2) ≠ 1)) (decide ((gV 0 B 2) ≠ 2)) (B.drop (gD 0 B 2))).e : Nat) : Int)] 102), (φ1 0, .cells #[pB r] 104), (φ1 1, .cells #[.bool false, .pointer none] 26), (φ25 0, .cells #[.bool b124, .pointer p124] 26), (φ25 1, .cells #[.bool b224, .pointer p224] 26)]) (fun φ29 => [φ1 1, φ1 1]) s trivial (fun φ29 => by kernel_rfl) ?_
     intro φ29 w29 s
     refine ops_done (by kernel_rfl) ?_
     refine wp_ret ?_
     refine ret_rule (C := []) _ [] (.tuple #[.agg #[.bool false, .pointer none], .int .i64 (((hvG g Ev.T.zero (decide ((gV 0 B 2) ≠ 1)) (decide ((gV 0 B 2) ≠ 2)) (B.drop (gD 0 B 2))).er : Nat) : Int)]) [.o 2, .o 2] [φ1 1, φ1 1] s trivial (by kernel_rfl) ?_
     replace s := s.drop (List.Sublist.append (List.Sublist.cons₂ _ (List.Sublist.cons _ (List.Sublist.cons _ (List.Sublist.cons _ (List.Sublist.cons _ List.Sublist.slnil))))) (List.Sublist.refl []))
     have e9 : idN g last B = ⟨Ev.T.zero, (hvG g Ev.T.zero (decide ((gV 0 B 2) ≠ 1)) (decide ((gV 0 B 2) ≠ 2)) (B.drop (gD 0 B 2))).er, (gD 0 B 2) + ((hvG g Ev.T.zero (decide ((gV 0 B 2) ≠ 1)) (decide ((gV 0 B 2) ≠ 2)) (B.drop (gD 0 B 2))).d), (hvG g Ev.T.zero (decide ((gV 0 B 2) ≠ 1)) (decide ((gV 0 B 2) ≠ 2)) (B.drop (gD 0 B 2))).e⟩ := by unfold idN; rw [if_neg (of_decide_eq_false hc9), if_neg (of_decide_eq_false hc13), if_neg (show ¬ last = true by rw [hlast, hc19]; decide), if_pos (of_decide_eq_true hc27)]
     exact ⟨_, _, _, rfl, s, (by rw [e9]; exact ⟨_, rfl, rfl, _, _, rfl, (by simp only [Nat.add_assoc, Nat.add_zero]), (Ev.TRep.z _)⟩)⟩
    ·
     rw [hc27]
     refine cond_false_rule (b := false) (by kernel_rfl) rfl ?_
     refine wp_skip ?_
     refine seqR ?_
     refine ops_rule (C := []) _ [] 2 [.o 3, .o 3, .o 4, .o 4] 0 (fun φ30 => [(48, .agg #[.bool b224, .pointer p224]), (47, .agg #[.bool b124, .pointer p124])]) (fun φ30 => [(r, .cells #[.slice a l.length c, .int .i64 ((p + (gD 0 B 2) + ((hvG g Ev.T.zero (decide ((gV 0 B 2) ≠ 1)) (decide ((gV 0 B 2) ≠ 2)) (B.drop (gD 0 B 2))).d) : Nat) : Int), .int .i64 (((hvG g Ev.T.zero (decide ((gV 0 B 2) ≠ 1)) (decide ((gV 0 B 2) ≠ 2)) (B.drop (gD 0 B 2))).e : Nat) : Int)] 102), (φ1 0, .cells #[pB r] 104), (φ1 1, .cells #[.bool false, .pointer none] 26), (φ25 0, .cells #[.bool b124, .pointer p124] 26), (φ25 1, .cells #[.bool b224, .pointer p224] 26)]) (fun φ30 => [φ25 0, φ25 0, φ25 1, φ25 1]) s trivial (fun φ30 => by kernel_rfl) ?_
     intro φ30 w30 s
     refine call_rule (some 49) s (Ev.pair_c h24_0 h24_1 (Nat.le_trans (hv_s hg zT).1.1 (by decide)) (Nat.le_trans (hv_s hg zT).2.1 (by decide))) (by kernel_rfl) ?_
     intro v31 I31 w31 le31 h31 s
     obtain ⟨b31, p31, rfl, h31_0⟩ := h31
     refine ops_rule (C := []) _ [] 6 [.o 5, .o 5] 1 (fun φ32 => [(9, .int .i64 (((Ev.pairT ((hvG g Ev.T.zero (decide ((gV 0 B 2) ≠ 1)) (decide ((gV 0 B 2) ≠ 2)) (B.drop (gD 0 B 2))).l) ((hvG g Ev.T.zero (decide ((gV 0 B 2) ≠ 1)) (decide ((gV 0 B 2) ≠ 2)) (B.drop (gD 0 B 2))).r)).2 : Nat) : Int)), (10, pB (φ32 0)), (51, .int .i64 (((Ev.pairT ((hvG g Ev.T.zero (decide ((gV 0 B 2) ≠ 1)) (decide ((gV 0 B 2) ≠ 2)) (B.drop (gD 0 B 2))).l) ((hvG g Ev.T.zero (decide ((gV 0 B 2) ≠ 1)) (decide ((gV 0 B 2) ≠ 2)) (B.drop (gD 0 B 2))).r)).2 : Nat) : Int)), (50, .agg #[.bool b31, .pointer p31]), (46, .tuple #[.agg #[.bool b31, .pointer p31], .int .i64 (((Ev.pairT ((hvG g Ev.T.zero (decide ((gV 0 B 2) ≠ 1)) (decide ((gV 0 B 2) ≠ 2)) (B.drop (gD 0 B 2))).l) ((hvG g Ev.T.zero (decide ((gV 0 B 2) ≠ 1)) (decide ((gV 0 B 2) ≠ 2)) (B.drop (gD 0 B 2))).r)).2 : Nat) : Int)])]) (fun φ32 => [(r, .cells #[.slice a l.length c, .int .i64 ((p + (gD 0 B 2) + ((hvG g Ev.T.zero (decide ((gV 0 B 2) ≠ 1)) (decide ((gV 0 B 2) ≠ 2)) (B.drop (gD 0 B 2))).d) : Nat) : Int), .int .i64 (((hvG g Ev.T.zero (decide ((gV 0 B 2) ≠ 1)) (decide ((gV 0 B 2) ≠ 2)) (B.drop (gD 0 B 2))).e : Nat) : Int)] 102), (φ1 0, .cells #[pB r] 104), (φ1 1, .cells #[.bool false, .pointer none] 26), (φ25 0, .cells #[.bool b124, .pointer p124] 26), (φ25 1, .cells #[.bool b224, .pointer p224] 26), (φ32 0, .cells #[.bool b31, .pointer p31] 26)]) (fun φ32 => [φ32 0, φ32 0]) s trivial (fun φ32 => by kernel_rfl) ?_
     intro φ32 w32 s
     refine ops_done (by kernel_rfl) ?_
     refine wp_seq ?_
     refine seqR ?_
     refine ops_rule (C := []) _ [] 1 [.o 5, .o 5] 0 (fun φ33 => [(52, .agg #[.bool b31, .pointer p31])]) (fun φ33 => [(r, .cells #[.slice a l.length c, .int .i64 ((p + (gD 0 B 2) + ((hvG g Ev.T.zero (decide ((gV 0 B 2) ≠ 1)) (decide ((gV 0 B 2) ≠ 2)) (B.drop (gD 0 B 2))).d) : Nat) : Int), .int .i64 (((hvG g Ev.T.zero (decide ((gV 0 B 2) ≠ 1)) (decide ((gV 0 B 2) ≠ 2)) (B.drop (gD 0 B 2))).e : Nat) : Int)] 102), (φ1 0, .cells #[pB r] 104), (φ1 1, .cells #[.bool false, .pointer none] 26), (φ25 0, .cells #[.bool b124, .pointer p124] 26), (φ25 1, .cells #[.bool b224, .pointer p224] 26), (φ32 0, .cells #[.bool b31, .pointer p31] 26)]) (fun φ33 => [φ32 0, φ32 0]) s trivial (fun φ33 => by kernel_rfl) ?_
     intro φ33 w33 s
     refine call_rule (some 53) s (idKind_c h31_0) (by kernel_rfl) ?_
     intro v34 I34 w34 le34 h34 s
     replace h31_0 := Ev.TRep.mono le34 h31_0
     obtain rfl := h34
     refine ops_rule (C := []) _ [] 2 [] 0 (fun φ35 => [(55, .bool (((idK ((Ev.pairT ((hvG g Ev.T.zero (decide ((gV 0 B 2) ≠ 1)) (decide ((gV 0 B 2) ≠ 2)) (B.drop (gD 0 B 2))).l) ((hvG g Ev.T.zero (decide ((gV 0 B 2) ≠ 1)) (decide ((gV 0 B 2) ≠ 2)) (B.drop (gD 0 B 2))).r)).1) : Nat) : Int) != ((gV 0 B 2 : Nat) : Int))), (54, .int .u64 (gV 0 B 2))]) (fun φ35 => [(r, .cells #[.slice a l.length c, .int .i64 ((p + (gD 0 B 2) + ((hvG g Ev.T.zero (decide ((gV 0 B 2) ≠ 1)) (decide ((gV 0 B 2) ≠ 2)) (B.drop (gD 0 B 2))).d) : Nat) : Int), .int .i64 (((hvG g Ev.T.zero (decide ((gV 0 B 2) ≠ 1)) (decide ((gV 0 B 2) ≠ 2)) (B.drop (gD 0 B 2))).e : Nat) : Int)] 102), (φ1 0, .cells #[pB r] 104), (φ1 1, .cells #[.bool false, .pointer none] 26), (φ25 0, .cells #[.bool b124, .pointer p124] 26), (φ25 1, .cells #[.bool b224, .pointer p224] 26), (φ32 0, .cells #[.bool b31, .pointer p31] 26)]) (fun φ35 => []) s trivial (fun φ35 => by kernel_rfl) ?_
     intro φ35 w35 s
     rw [nat_neq (a := (idK ((Ev.pairT ((hvG g Ev.T.zero (decide ((gV 0 B 2) ≠ 1)) (decide ((gV 0 B 2) ≠ 2)) (B.drop (gD 0 B 2))).l) ((hvG g Ev.T.zero (decide ((gV 0 B 2) ≠ 1)) (decide ((gV 0 B 2) ≠ 2)) (B.drop (gD 0 B 2))).r)).1))) (b := (gV 0 B 2))]
     refine ops_done (by kernel_rfl) ?_
     rcases Bool.eq_false_or_eq_true (decide ((idK ((Ev.pairT ((hvG g Ev.T.zero (decide ((gV 0 B 2) ≠ 1)) (decide ((gV 0 B 2) ≠ 2)) (B.drop (gD 0 B 2))).l) ((hvG g Ev.T.zero (decide ((gV 0 B 2) ≠ 1)) (decide ((gV 0 B 2) ≠ 2)) (B.drop (gD 0 B 2))).r)).1)) ≠ (gV 0 B 2))) with hc36 | hc36
     ·
      rw [hc36]
      refine cond_true_rule (b := true) (by kernel_rfl) rfl ?_
      refine seqR ?_
      refine call_rule (some 56) s (Ev.tzero_c) (by kernel_rfl) ?_
      intro v37 I37 w37 le37 h37 s
      replace h31_0 := Ev.TRep.mono le37 h31_0
      obtain rfl := h37
      refine ops_rule (C := []) _ [] 2 [.o 2, .o 2] 0 (fun φ38 => [(5, .int .i64 6)]) (fun φ38 => [(r, .cells #[.slice a l.length c, .int .i64 ((p + (gD 0 B 2) + ((hvG g Ev.T.zero (decide ((gV 0 B 2) ≠ 1)) (decide ((gV 0 B 2) ≠ 2)) (B.drop (gD 0 B 2))).d) : Nat) : Int), .int .i64 (((hvG g Ev.T.zero (decide ((gV 0 B 2) ≠ 1)) (decide ((gV 0 B 2) ≠ 2)) (B.drop (gD 0 B 2))).e : Nat) : Int)] 102), (φ1 0, .cells #[pB r] 104), (φ1 1, .cells #[.bool false, .pointer none] 26), (φ25 0, .cells #[.bool b124, .pointer p124] 26), (φ25 1, .cells #[.bool b224, .pointer p224] 26), (φ32 0, .cells #[.bool b31, .pointer p31] 26)]) (fun φ38 => [φ1 1, φ1 1]) s trivial (fun φ38 => by kernel_rfl) ?_
      intro φ38 w38 s
      refine ops_done (by kernel_rfl) ?_
      refine wp_ret ?_
      refine ret_rule (C := []) _ [] (.tuple #[.agg #[.bool false, .pointer none], .int .i64 6]) [.o 2, .o 2] [φ1 1, φ1 1] s trivial (by kernel_rfl) ?_
      replace s := s.drop (List.Sublist.append (List.Sublist.cons₂ _ (List.Sublist.cons _ (List.Sublist.cons _ (List.Sublist.cons _ (List.Sublist.cons _ (List.Sublist.cons _ List.Sublist.slnil)))))) (List.Sublist.refl []))
      have e9 : idN g last B = ⟨Ev.T.zero, 6, (gD 0 B 2) + ((hvG g Ev.T.zero (decide ((gV 0 B 2) ≠ 1)) (decide ((gV 0 B 2) ≠ 2)) (B.drop (gD 0 B 2))).d), (hvG g Ev.T.zero (decide ((gV 0 B 2) ≠ 1)) (decide ((gV 0 B 2) ≠ 2)) (B.drop (gD 0 B 2))).e⟩ := by unfold idN; rw [if_neg (of_decide_eq_false hc9), if_neg (of_decide_eq_false hc13), if_neg (show ¬ last = true by rw [hlast, hc19]; decide), if_neg (of_decide_eq_false hc27), if_pos (of_decide_eq_true hc36)]
      exact ⟨_, _, _, rfl, s, (by rw [e9]; exact ⟨_, rfl, rfl, _, _, rfl, (by simp only [Nat.add_assoc, Nat.add_zero]), (Ev.TRep.z _)⟩)⟩
     ·
      rw [hc36]
      refine cond_false_rule (b := false) (by kernel_rfl) rfl ?_
      refine wp_skip ?_
      refine seqR ?_
      refine ops_rule (C := []) _ [] 4 [.o 5, .o 5, .o 2, .o 2] 0 (fun φ39 => [(5, .int .i64 (((Ev.pairT ((hvG g Ev.T.zero (decide ((gV 0 B 2) ≠ 1)) (decide ((gV 0 B 2) ≠ 2)) (B.drop (gD 0 B 2))).l) ((hvG g Ev.T.zero (decide ((gV 0 B 2) ≠ 1)) (decide ((gV 0 B 2) ≠ 2)) (B.drop (gD 0 B 2))).r)).2 : Nat) : Int)), (58, .int .i64 (((Ev.pairT ((hvG g Ev.T.zero (decide ((gV 0 B 2) ≠ 1)) (decide ((gV 0 B 2) ≠ 2)) (B.drop (gD 0 B 2))).l) ((hvG g Ev.T.zero (decide ((gV 0 B 2) ≠ 1)) (decide ((gV 0 B 2) ≠ 2)) (B.drop (gD 0 B 2))).r)).2 : Nat) : Int)), (57, .agg #[.bool b31, .pointer p31])]) (fun φ39 => [(r, .cells #[.slice a l.length c, .int .i64 ((p + (gD 0 B 2) + ((hvG g Ev.T.zero (decide ((gV 0 B 2) ≠ 1)) (decide ((gV 0 B 2) ≠ 2)) (B.drop (gD 0 B 2))).d) : Nat) : Int), .int .i64 (((hvG g Ev.T.zero (decide ((gV 0 B 2) ≠ 1)) (decide ((gV 0 B 2) ≠ 2)) (B.drop (gD 0 B 2))).e : Nat) : Int)] 102), (φ1 0, .cells #[pB r] 104), (φ1 1, .cells #[.bool b31, .pointer p31] 26), (φ25 0, .cells #[.bool b124, .pointer p124] 26), (φ25 1, .cells #[.bool b224, .pointer p224] 26), (φ32 0, .cells #[.bool b31, .pointer p31] 26)]) (fun φ39 => [φ32 0, φ32 0, φ1 1, φ1 1]) s trivial (fun φ39 => by kernel_rfl) ?_
      intro φ39 w39 s
      refine ops_done (by kernel_rfl) ?_
      refine wp_ret ?_
      refine ret_rule (C := []) _ [] (.tuple #[.agg #[.bool b31, .pointer p31], .int .i64 (((Ev.pairT ((hvG g Ev.T.zero (decide ((gV 0 B 2) ≠ 1)) (decide ((gV 0 B 2) ≠ 2)) (B.drop (gD 0 B 2))).l) ((hvG g Ev.T.zero (decide ((gV 0 B 2) ≠ 1)) (decide ((gV 0 B 2) ≠ 2)) (B.drop (gD 0 B 2))).r)).2 : Nat) : Int)]) [.o 2, .o 2] [φ1 1, φ1 1] s trivial (by kernel_rfl) ?_
      replace s := s.drop (List.Sublist.append (List.Sublist.cons₂ _ (List.Sublist.cons _ (List.Sublist.cons _ (List.Sublist.cons _ (List.Sublist.cons _ (List.Sublist.cons _ List.Sublist.slnil)))))) (List.Sublist.refl []))
      have e9 : idN g last B = ⟨(Ev.pairT ((hvG g Ev.T.zero (decide ((gV 0 B 2) ≠ 1)) (decide ((gV 0 B 2) ≠ 2)) (B.drop (gD 0 B 2))).l) ((hvG g Ev.T.zero (decide ((gV 0 B 2) ≠ 1)) (decide ((gV 0 B 2) ≠ 2)) (B.drop (gD 0 B 2))).r)).1, (Ev.pairT ((hvG g Ev.T.zero (decide ((gV 0 B 2) ≠ 1)) (decide ((gV 0 B 2) ≠ 2)) (B.drop (gD 0 B 2))).l) ((hvG g Ev.T.zero (decide ((gV 0 B 2) ≠ 1)) (decide ((gV 0 B 2) ≠ 2)) (B.drop (gD 0 B 2))).r)).2, (gD 0 B 2) + ((hvG g Ev.T.zero (decide ((gV 0 B 2) ≠ 1)) (decide ((gV 0 B 2) ≠ 2)) (B.drop (gD 0 B 2))).d), (hvG g Ev.T.zero (decide ((gV 0 B 2) ≠ 1)) (decide ((gV 0 B 2) ≠ 2)) (B.drop (gD 0 B 2))).e⟩ := by unfold idN; rw [if_neg (of_decide_eq_false hc9), if_neg (of_decide_eq_false hc13), if_neg (show ¬ last = true by rw [hlast, hc19]; decide), if_neg (of_decide_eq_false hc27), if_neg (of_decide_eq_false hc36)]
      exact ⟨_, _, _, rfl, s, (by rw [e9]; exact ⟨_, rfl, rfl, _, _, rfl, (by simp only [Nat.add_assoc, Nat.add_zero]), h31_0⟩)⟩

theorem idG_c : ∀ (f : Nat) {I : IM} {l : List UInt8} {a : Option Addr} {c : Nat} {r p e : Nat} {B : List Bool} (_ : BSl I l (.slice a l.length c)) (_ : l.length ≤ 1000000) (_ : p ≤ l.length * 8) (_ : (bitsL l).drop p = B) (_ : e = 0) {deep : Nat} (_ : deep + f = 16), FunM Try.prog 61 #[.agg #[.pointer (some ⟨r, 0, none⟩)], .int .i64 ((deep : Nat) : Int)] I [(r, .cells #[.slice a l.length c, .int .i64 ((p : Nat) : Int), .int .i64 ((e : Nat) : Int)] 102)] (fun v J H' => ∃ b' : OB, H' = [b'] ∧ b'.1 = r ∧ ∃ bi pi, v = .tuple #[.agg #[.bool bi, .pointer pi], .int .i64 (((idG f B).er : Nat) : Int)] ∧ b' = (r, .cells #[.slice a l.length c, .int .i64 ((p + (idG f B).d : Nat) : Int), .int .i64 (((idG f B).e : Nat) : Int)] 102) ∧ Ev.TRep J (idG f B).t bi pi)
  | 0, _, _, _, _, _, _, _, _, hl, hn9, hp, hB, he, deep, hd => id_step hl hn9 hp hB he okZ (by omega) (decide_eq_true (by omega)).symm (fun q => absurd (show deep = 16 by omega) q)
  | f + 1, _, _, _, _, _, _, _, _, hl, hn9, hp, hB, he, deep, hd => id_step hl hn9 hp hB he (idG_ok f) (by omega) (decide_eq_false (by omega)).symm (fun _ {J} {p} {e} {B} a1 a2 a3 a4 => idG_c f a1 hn9 a2 a3 a4 (by omega))

end Go.Proofs.Ytgmigcmhnmmdkaa
/- What is read of bits: events. -/
set_option linter.all false
namespace Go.Proofs.Ytgmigcmhnmmdkaa

theorem bn_err {bs : List Bool} {e : Nat} (h : e ≠ 0) : bnV bs e = 0 ∧ bnD bs e = 0 ∧ bnE bs e = e := by
  unfold bnV bnD bnE; rw [if_neg (fun q => h q.1), if_neg (fun q => h q.1), if_neg (fun q => h q.1)]; exact ⟨rfl, rfl, rfl⟩
noncomputable def cnG (e : Nat) (B : List Bool) : Rd Nat := if bnE B e ≠ 0 then ⟨0, 6, bnD B e, bnE B e⟩ else if 1048576 < bnV B e then ⟨0, 4, bnD B e, bnE B e⟩ else ⟨bnV B e, 0, bnD B e, bnE B e⟩
theorem cn_d (e : Nat) (B : List Bool) : (cnG e B).d ≤ B.length := by
  unfold cnG; split
  · exact bnD_le _ _
  · split <;> exact bnD_le _ _
theorem cn_e (e : Nat) (B : List Bool) : (cnG e B).er = 0 → (cnG e B).e = 0 := by
  unfold cnG; split
  · exact fun z => absurd (show (6 : Nat) = 0 from z) (by decide)
  · rename_i h; split <;> exact fun _ => Decidable.not_not.1 h
theorem cn_le (e : Nat) (B : List Bool) : (cnG e B).t ≤ 1048576 := by
  unfold cnG; split
  · exact Nat.zero_le _
  · split
    · exact Nat.zero_le _
    · rename_i h; exact Nat.not_lt.1 h
structure Rk where
  k : Nat
  n : Nat
  er : Nat
  d : Nat
  e : Nat
def hdF (k d : Nat) (C : Rd Nat) : Rk := if C.er = 0 then (if C.t = 0 then ⟨k, C.t, 6, d + C.d, C.e⟩ else ⟨k, C.t, C.er, d + C.d, C.e⟩) else ⟨k, C.t, C.er, d + C.d, C.e⟩
noncomputable def hdG (B : List Bool) : Rk :=
  if gE 0 B 2 ≠ 0 then ⟨0, 0, 6, gD 0 B 2, gE 0 B 2⟩
  else if gV 0 B 2 ≠ 3 then ⟨gV 0 B 2, 0, 0, gD 0 B 2, gE 0 B 2⟩
  else if gV 0 (B.drop (gD 0 B 2)) 1 = 0 then
    hdF (gV (gE 0 (B.drop (gD 0 B 2)) 1) ((B.drop (gD 0 B 2)).drop (gD 0 (B.drop (gD 0 B 2)) 1)) 1) (gD 0 B 2 + gD 0 (B.drop (gD 0 B 2)) 1 + gD (gE 0 (B.drop (gD 0 B 2)) 1) ((B.drop (gD 0 B 2)).drop (gD 0 (B.drop (gD 0 B 2)) 1)) 1)
      (cnG (gE (gE 0 (B.drop (gD 0 B 2)) 1) ((B.drop (gD 0 B 2)).drop (gD 0 (B.drop (gD 0 B 2)) 1)) 1) (((B.drop (gD 0 B 2)).drop (gD 0 (B.drop (gD 0 B 2)) 1)).drop (gD (gE 0 (B.drop (gD 0 B 2)) 1) ((B.drop (gD 0 B 2)).drop (gD 0 (B.drop (gD 0 B 2)) 1)) 1)))
  else hdF 2 (gD 0 B 2 + gD 0 (B.drop (gD 0 B 2)) 1) (cnG (gE 0 (B.drop (gD 0 B 2)) 1) ((B.drop (gD 0 B 2)).drop (gD 0 (B.drop (gD 0 B 2)) 1)))
theorem hdF_d {k d : Nat} {C : Rd Nat} : (hdF k d C).d = d + C.d := by unfold hdF; split; · split <;> rfl
                                                                       rfl
theorem hdF_e {k d : Nat} {C : Rd Nat} (h : C.er = 0 → C.e = 0) : (hdF k d C).er = 0 → (hdF k d C).e = 0 := by
  unfold hdF; split
  · split
    · exact fun z => absurd (show (6 : Nat) = 0 from z) (by decide)
    · exact h
  · exact h
theorem hd_d (B : List Bool) : (hdG B).d ≤ B.length := by
  unfold hdG; split
  · exact gD_le _ _ _
  · split
    · exact gD_le _ _ _
    · have h1 := gD_le 0 B 2
      have h2 := drop_le h1 (gD_le 0 (B.drop (gD 0 B 2)) 1)
      split
      · rw [hdF_d]
        have h3 := drop_le h2 (by rw [← drop_drop B]; exact gD_le (gE 0 (B.drop (gD 0 B 2)) 1) ((B.drop (gD 0 B 2)).drop (gD 0 (B.drop (gD 0 B 2)) 1)) 1)
        refine drop_le h3 ?_
        rw [← drop_drop B, ← drop_drop B]
        exact cn_d _ _
      · rw [hdF_d]
        refine drop_le h2 ?_
        rw [← drop_drop B]
        exact cn_d _ _
theorem hd_e (B : List Bool) : (hdG B).er = 0 → (hdG B).e = 0 := by
  unfold hdG; split
  · exact fun z => absurd (show (6 : Nat) = 0 from z) (by decide)
  · rename_i h; split
    · exact fun _ => Decidable.not_not.1 h
    · split <;> exact hdF_e (cn_e _ _)
/- trees -/
def inF (l r : Ev.E) : Bool := decide (min l.base r.base = 0) && decide (0 < max l.top r.top)
noncomputable def ndG (g : List Bool → Rd Ev.E) (B : List Bool) : Rd Ev.E :=
  if (hdG B).er ≠ 0 then ⟨.leaf 0, (hdG B).er, (hdG B).d, (hdG B).e⟩
  else if (hvG g (.leaf 0) (decide ((hdG B).k ≠ 0)) (decide ((hdG B).k ≠ 1)) (B.drop (hdG B).d)).er ≠ 0 then ⟨.leaf 0, (hvG g (.leaf 0) (decide ((hdG B).k ≠ 0)) (decide ((hdG B).k ≠ 1)) (B.drop (hdG B).d)).er, (hdG B).d + (hvG g (.leaf 0) (decide ((hdG B).k ≠ 0)) (decide ((hdG B).k ≠ 1)) (B.drop (hdG B).d)).d, (hvG g (.leaf 0) (decide ((hdG B).k ≠ 0)) (decide ((hdG B).k ≠ 1)) (B.drop (hdG B).d)).e⟩
  else if kindE (hvG g (.leaf 0) (decide ((hdG B).k ≠ 0)) (decide ((hdG B).k ≠ 1)) (B.drop (hdG B).d)).l (hvG g (.leaf 0) (decide ((hdG B).k ≠ 0)) (decide ((hdG B).k ≠ 1)) (B.drop (hdG B).d)).r ≠ (hdG B).k then ⟨.leaf 0, 6, (hdG B).d + (hvG g (.leaf 0) (decide ((hdG B).k ≠ 0)) (decide ((hdG B).k ≠ 1)) (B.drop (hdG B).d)).d, (hvG g (.leaf 0) (decide ((hdG B).k ≠ 0)) (decide ((hdG B).k ≠ 1)) (B.drop (hdG B).d)).e⟩
  else if inF (hvG g (.leaf 0) (decide ((hdG B).k ≠ 0)) (decide ((hdG B).k ≠ 1)) (B.drop (hdG B).d)).l (hvG g (.leaf 0) (decide ((hdG B).k ≠ 0)) (decide ((hdG B).k ≠ 1)) (B.drop (hdG B).d)).r = true then ⟨(Ev.nodeR (hdG B).n (hvG g (.leaf 0) (decide ((hdG B).k ≠ 0)) (decide ((hdG B).k ≠ 1)) (B.drop (hdG B).d)).l (hvG g (.leaf 0) (decide ((hdG B).k ≠ 0)) (decide ((hdG B).k ≠ 1)) (B.drop (hdG B).d)).r).1, (Ev.nodeR (hdG B).n (hvG g (.leaf 0) (decide ((hdG B).k ≠ 0)) (decide ((hdG B).k ≠ 1)) (B.drop (hdG B).d)).l (hvG g (.leaf 0) (decide ((hdG B).k ≠ 0)) (decide ((hdG B).k ≠ 1)) (B.drop (hdG B).d)).r).2, (hdG B).d + (hvG g (.leaf 0) (decide ((hdG B).k ≠ 0)) (decide ((hdG B).k ≠ 1)) (B.drop (hdG B).d)).d, (hvG g (.leaf 0) (decide ((hdG B).k ≠ 0)) (decide ((hdG B).k ≠ 1)) (B.drop (hdG B).d)).e⟩
  else ⟨.leaf 0, 6, (hdG B).d + (hvG g (.leaf 0) (decide ((hdG B).k ≠ 0)) (decide ((hdG B).k ≠ 1)) (B.drop (hdG B).d)).d, (hvG g (.leaf 0) (decide ((hdG B).k ≠ 0)) (decide ((hdG B).k ≠ 1)) (B.drop (hdG B).d)).e⟩
noncomputable def evN (g : List Bool → Rd Ev.E) (last : Bool) (B : List Bool) : Rd Ev.E :=
  if gE 0 B 1 ≠ 0 then ⟨.leaf 0, 6, gD 0 B 1, gE 0 B 1⟩
  else if gV 0 B 1 = 1 then
    (if (cnG 0 (B.drop (gD 0 B 1))).er ≠ 0 then ⟨.leaf 0, (cnG 0 (B.drop (gD 0 B 1))).er, gD 0 B 1 + (cnG 0 (B.drop (gD 0 B 1))).d, (cnG 0 (B.drop (gD 0 B 1))).e⟩ else ⟨.leaf (cnG 0 (B.drop (gD 0 B 1))).t, 0, gD 0 B 1 + (cnG 0 (B.drop (gD 0 B 1))).d, (cnG 0 (B.drop (gD 0 B 1))).e⟩)
  else if last = true then ⟨.leaf 0, 3, gD 0 B 1, gE 0 B 1⟩
  else ⟨(ndG g (B.drop (gD 0 B 1))).t, (ndG g (B.drop (gD 0 B 1))).er, gD 0 B 1 + (ndG g (B.drop (gD 0 B 1))).d, (ndG g (B.drop (gD 0 B 1))).e⟩
noncomputable def evG : Nat → List Bool → Rd Ev.E
  | 0 => evN (fun _ => ⟨.leaf 0, 0, 0, 0⟩) true
  | f + 1 => evN (evG f) false
abbrev OkE := OkG Ev.E.depth Ev.E.top
theorem okZE : OkE (fun _ => ⟨.leaf 0, 0, 0, 0⟩) := ⟨fun _ => Nat.zero_le _, fun _ _ => rfl, fun _ => Nat.zero_le _, fun _ => Nat.zero_le _⟩
theorem zE : (Ev.E.leaf 0).depth ≤ 16 ∧ (Ev.E.leaf 0).top ≤ 1048576 := ⟨Nat.zero_le _, Nat.zero_le _⟩
theorem nodeR_ok (n : Nat) (l r : Ev.E) : (Ev.nodeR n l r).1.depth ≤ 16 ∧ (Ev.nodeR n l r).1.top ≤ 1048576 := by
  unfold Ev.nodeR; split
  · exact zE
  · split
    · exact zE
    · split
      · exact zE
      · have h1 := Ev.E.mk_depth n l r
        have h2 := Ev.E.mk_top n l r
        exact ⟨by show (Ev.E.mk n l r).depth ≤ 16; omega, by show (Ev.E.mk n l r).top ≤ 1048576; omega⟩
theorem ndG_ok {g : List Bool → Rd Ev.E} (h : OkE g) : OkE (ndG g) := by
  refine ⟨fun B => ?_, fun B => ?_, fun B => ?_, fun B => ?_⟩ <;> unfold ndG
  · split
    · exact hd_d B
    · split
      · exact drop_le (hd_d B) (hv_d h zE)
      · split
        · exact drop_le (hd_d B) (hv_d h zE)
        · split <;> exact drop_le (hd_d B) (hv_d h zE)
  · split
    · rename_i q; exact fun q' => absurd q' q
    · split
      · rename_i q; exact fun q' => absurd q' q
      · rename_i q
        split
        · exact fun z => absurd (show (6 : Nat) = 0 from z) (by decide)
        · split
          · exact fun _ => hv_e h zE (Decidable.not_not.1 q)
          · exact fun z => absurd (show (6 : Nat) = 0 from z) (by decide)
  · split
    · exact zE.1
    · split
      · exact zE.1
      · split
        · exact zE.1
        · split
          · exact (nodeR_ok _ _ _).1
          · exact zE.1
  · split
    · exact zE.2
    · split
      · exact zE.2
      · split
        · exact zE.2
        · split
          · exact (nodeR_ok _ _ _).2
          · exact zE.2
theorem evN_ok {g : List Bool → Rd Ev.E} (h : OkE g) (last : Bool) : OkE (evN g last) := by
  refine ⟨fun B => ?_, fun B => ?_, fun B => ?_, fun B => ?_⟩ <;> unfold evN
  · split
    · exact gD_le _ _ _
    · split
      · split <;> exact drop_le (gD_le _ _ _) (cn_d _ _)
      · split
        · exact gD_le _ _ _
        · exact drop_le (gD_le _ _ _) ((ndG_ok h).d _)
  · split
    · exact fun z => absurd (show (6 : Nat) = 0 from z) (by decide)
    · split
      · split
        · rename_i q; exact fun q' => absurd q' q
        · rename_i q; exact fun _ => cn_e _ _ (Decidable.not_not.1 q)
      · split
        · exact fun z => absurd (show (3 : Nat) = 0 from z) (by decide)
        · exact (ndG_ok h).e _
  · split
    · exact zE.1
    · split
      · split
        · exact zE.1
        · exact Nat.zero_le _
      · split
        · exact zE.1
        · exact (ndG_ok h).s _
  · split
    · exact zE.2
    · split
      · split
        · exact zE.2
        · exact cn_le _ _
      · split
        · exact zE.2
        · exact (ndG_ok h).t _
theorem evG_ok : ∀ f, OkE (evG f)
  | 0 => evN_ok okZE true
  | f + 1 => evN_ok (evG_ok f) false
/- what was written is read again -/
theorem bit_at {m k i : Nat} (h : i < k) : (putBits m k).getD i false = decide (m / 2 ^ (k - 1 - i) % 2 = 1) := by
  rw [List.getD_eq_getElem?_getD]; unfold putBits
  rw [List.getElem?_map, List.getElem?_range h]; rfl
theorem rdB_put {m k : Nat} (hm : m < 2 ^ k) (X : List Bool) : rdB (putBits m k ++ X) k = m := by
  rw [rdB_app (by rw [putBits_len]; exact Nat.le_refl _)]
  have key : ∀ i, i ≤ k → rdB (putBits m k) i = m / 2 ^ (k - i) := by
    intro i
    induction i with
    | zero => intro _; rw [rdB, Nat.sub_zero, Nat.div_eq_of_lt hm]
    | succ i ih =>
      intro hi
      rw [rdB, ih (by omega), bit_at (by omega)]
      have e1 : k - i = (k - 1 - i) + 1 := by omega
      have e2 : k - (i + 1) = k - 1 - i := by omega
      rw [e1, e2, Nat.pow_succ, ← Nat.div_div_eq_div_mul]
      have : m / 2 ^ (k - 1 - i) % 2 = 0 ∨ m / 2 ^ (k - 1 - i) % 2 = 1 := by omega
      rcases this with q | q
      · rw [q]; simp; omega
      · rw [q]; simp; omega
  rw [key k (Nat.le_refl _), Nat.sub_self, Nat.pow_zero, Nat.div_one]
theorem bn_numW {n : Nat} (hn : n < 18446744073709551616) (X : List Bool) : bnV (numW 62 2 n ++ X) 0 = n ∧ bnD (numW 62 2 n ++ X) 0 = (numW 62 2 n).length ∧ bnE (numW 62 2 n ++ X) 0 = 0 := by
  obtain ⟨j, m, hj, e1, e2, e3⟩ := numW_form 62 2 n (by rw [show (2 : Nat) ^ (62 + 2) = 18446744073709551616 by decide]; exact hn)
  have hlen : (numW 62 2 n).length = j + 1 + (j + 2) := by rw [e1]; simp [putBits_len]; omega
  have eB : numW 62 2 n ++ X = List.replicate j true ++ (false :: (putBits m (2 + j) ++ X)) := by rw [e1]; simp
  have hone : ∀ i, i < j → (numW 62 2 n ++ X).getD i false = true := fun i hi => by
    rw [eB, List.getD_eq_getElem?_getD, List.getElem?_append_left (by simpa using hi), List.getElem?_replicate, if_pos hi]; rfl
  have hz : (numW 62 2 n ++ X).getD j false = false := by
    rw [eB, List.getD_eq_getElem?_getD, List.getElem?_append_right (by simp)]; simp
  have hr : RunB (numW 62 2 n ++ X) j := ⟨hj, by rw [List.length_append, hlen]; omega, hone, .inr (.inr hz)⟩
  have hdrop : (numW 62 2 n ++ X).drop (j + 1) = putBits m (2 + j) ++ X := by
    rw [eB, List.drop_append, List.length_replicate, List.drop_eq_nil_of_le (by simp)]
    rw [show j + 1 - j = 1 by omega]; rfl
  have hv : fewV (numW 62 2 n ++ X) j = n := by
    unfold fewV
    rw [hdrop, show j + 2 = 2 + j by omega, rdB_put e3]
    have : 4 ≤ 2 ^ (2 + j) := by rw [Nat.pow_add]; have := Nat.two_pow_pos j; omega
    omega
  have hb : ¬ fewBad (numW 62 2 n ++ X) j := by
    unfold fewBad
    rw [hz, hv, List.length_append, hlen]
    intro q; rcases q with q | q | q
    · omega
    · cases q
    · omega
  obtain ⟨a, b, c⟩ := bn_good (e := 0) rfl hr hb
  exact ⟨by rw [a, hv], by rw [b, hlen], c⟩
theorem cn_back {n : Nat} (hn : n ≤ 1048576) (X : List Bool) : cnG 0 (numW 62 2 n ++ X) = ⟨n, 0, (numW 62 2 n).length, 0⟩ := by
  obtain ⟨a, b, c⟩ := bn_numW (n := n) (by omega) X
  unfold cnG; rw [c, if_neg (fun q => q rfl), a, if_neg (by omega), b]
theorem hd_back {n k : Nat} (hn : n ≤ 1048576) (hk : k < 3) (X : List Bool) : hdG (headB n k ++ X) = ⟨k, n, 0, (headB n k).length, 0⟩ := by
  have c : k = 0 ∨ k = 1 ∨ k = 2 := by omega
  by_cases z : n = 0
  · subst z
    have e : headB 0 k = putBits k 2 := by unfold headB; rw [if_pos rfl]
    rw [e]
    rcases c with rfl | rfl | rfl
    · obtain ⟨h1, h2, h3⟩ := g2 false false X
      rw [pb02]; simp only [List.cons_append, List.nil_append]; unfold hdG
      rw [h2, if_neg (fun q => q rfl), if_pos (by rw [h3]; decide), h3, h1]; rfl
    · obtain ⟨h1, h2, h3⟩ := g2 false true X
      rw [pb12]; simp only [List.cons_append, List.nil_append]; unfold hdG
      rw [h2, if_neg (fun q => q rfl), if_pos (by rw [h3]; decide), h3, h1]; rfl
    · obtain ⟨h1, h2, h3⟩ := g2 true false X
      rw [pb22]; simp only [List.cons_append, List.nil_append]; unfold hdG
      rw [h2, if_neg (fun q => q rfl), if_pos (by rw [h3]; decide), h3, h1]; rfl
  · have three : ∀ (Y : List Bool), gE 0 (true :: true :: Y) 2 = 0 ∧ gV 0 (true :: true :: Y) 2 = 3 ∧ (true :: true :: Y).drop (gD 0 (true :: true :: Y) 2) = Y ∧ gD 0 (true :: true :: Y) 2 = 2 := fun Y => by
      obtain ⟨h1, h2, h3⟩ := g2 true true Y
      exact ⟨h2, h3, by rw [h1]; rfl, h1⟩
    have fin : ∀ (d : Nat), hdF k d ⟨n, 0, (numW 62 2 n).length, 0⟩ = ⟨k, n, 0, d + (numW 62 2 n).length, 0⟩ := fun d => by
      unfold hdF; rw [if_pos rfl, if_neg z]
    rcases c with rfl | rfl | rfl
    · have e : headB n 0 = true :: true :: false :: false :: numW 62 2 n := by unfold headB; rw [if_neg z, if_neg (by decide), pb32, pb01]; rfl
      rw [e]; simp only [List.cons_append]
      obtain ⟨a1, a2, a3, a4⟩ := three (false :: false :: (numW 62 2 n ++ X))
      obtain ⟨b1, b2, b3⟩ := g1 false (false :: (numW 62 2 n ++ X))
      obtain ⟨c1, c2, c3⟩ := g1 false (numW 62 2 n ++ X)
      replace b3 : gV 0 (false :: false :: (numW 62 2 n ++ X)) 1 = 0 := b3
      replace c3 : gV 0 (false :: (numW 62 2 n ++ X)) 1 = 0 := c3
      unfold hdG
      rw [a1, if_neg (fun q => q rfl), a2, if_neg (fun q => q rfl), a3, b3, if_pos rfl, b1, b2, a4]
      simp only [List.drop_succ_cons, List.drop_zero]
      rw [c1, c2, c3]
      simp only [List.drop_succ_cons, List.drop_zero]
      rw [cn_back hn, fin]
      simp only [List.length_cons]; congr 1; omega
    · have e : headB n 1 = true :: true :: false :: true :: numW 62 2 n := by unfold headB; rw [if_neg z, if_neg (by decide), pb32, pb01, pb11]; rfl
      rw [e]; simp only [List.cons_append]
      obtain ⟨a1, a2, a3, a4⟩ := three (false :: true :: (numW 62 2 n ++ X))
      obtain ⟨b1, b2, b3⟩ := g1 false (true :: (numW 62 2 n ++ X))
      obtain ⟨c1, c2, c3⟩ := g1 true (numW 62 2 n ++ X)
      replace b3 : gV 0 (false :: true :: (numW 62 2 n ++ X)) 1 = 0 := b3
      replace c3 : gV 0 (true :: (numW 62 2 n ++ X)) 1 = 1 := c3
      unfold hdG
      rw [a1, if_neg (fun q => q rfl), a2, if_neg (fun q => q rfl), a3, b3, if_pos rfl, b1, b2, a4]
      simp only [List.drop_succ_cons, List.drop_zero]
      rw [c1, c2, c3]
      simp only [List.drop_succ_cons, List.drop_zero]
      rw [cn_back hn, fin]
      simp only [List.length_cons]; congr 1; omega
    · have e : headB n 2 = true :: true :: true :: numW 62 2 n := by unfold headB; rw [if_neg z, if_pos rfl, pb32, pb11]; rfl
      rw [e]; simp only [List.cons_append]
      obtain ⟨a1, a2, a3, a4⟩ := three (true :: (numW 62 2 n ++ X))
      obtain ⟨b1, b2, b3⟩ := g1 true (numW 62 2 n ++ X)
      replace b3 : gV 0 (true :: (numW 62 2 n ++ X)) 1 = 1 := b3
      unfold hdG
      rw [a1, if_neg (fun q => q rfl), a2, if_neg (fun q => q rfl), a3, b3, if_neg (by decide), b1, b2, a4]
      simp only [List.drop_succ_cons, List.drop_zero]
      rw [cn_back hn, fin]
      simp only [List.length_cons]; congr 1; omega
theorem evG_back : ∀ (t : Ev.E) (f : Nat) (X : List Bool), t.nf → t.top ≤ 1048576 → t.depth ≤ f → f ≤ 16 → evG f (evB t ++ X) = ⟨t, 0, (evB t).length, 0⟩ := by
  intro t
  induction t with
  | leaf n =>
    intro f X _ hn _ _
    have hn' : n ≤ 1048576 := hn
    have lf : ∀ (g : List Bool → Rd Ev.E) (last : Bool), evN g last (true :: (numW 62 2 n ++ X)) = ⟨.leaf n, 0, 1 + (numW 62 2 n).length, 0⟩ := fun g last => by
      obtain ⟨b1, b2, b3⟩ := g1 true (numW 62 2 n ++ X)
      replace b3 : gV 0 (true :: (numW 62 2 n ++ X)) 1 = 1 := b3
      unfold evN
      rw [b2, if_neg (fun q => q rfl), b3, if_pos rfl, b1]
      simp only [List.drop_succ_cons, List.drop_zero]
      rw [cn_back hn']
      rw [if_neg (fun q => q rfl)]
    have e : evB (.leaf n) = true :: numW 62 2 n := by simp [evB, pb11]
    rw [e]; simp only [List.cons_append, List.length_cons]
    rw [show (numW 62 2 n).length + 1 = 1 + (numW 62 2 n).length by omega]
    cases f with
    | zero => exact lf _ _
    | succ f => exact lf _ _
  | node n l r ihl ihr =>
    intro f X hnf ht hd hf
    cases f with
    | zero => simp [Ev.E.depth] at hd
    | succ f =>
      have hdl : l.depth ≤ f ∧ r.depth ≤ f := by simp only [Ev.E.depth] at hd; omega
      have htt : n + max l.top r.top ≤ 1048576 := ht
      have il := fun X => ihl f X hnf.1 (by omega) hdl.1 (by omega)
      have ir := fun X => ihr f X hnf.2.1 (by omega) hdl.2 (by omega)
      have hin : inF l r = true := by
        have h1 := (Ev.E.mk_iff.1 hnf.2.2).2
        have h2 := nd_top hnf
        have h3 : n < n + max l.top r.top := h2
        unfold inF; rw [decide_eq_true h1, decide_eq_true (by omega)]; rfl
      have hnode : Ev.nodeR n l r = (.node n l r, 0) := by
        unfold Ev.nodeR; rw [if_neg (by omega), if_neg (by omega), if_neg (by omega), hnf.2.2]
      have key : ∀ (Y : List Bool) (d : Nat), hvG (evG f) (.leaf 0) (decide (kindE l r ≠ 0)) (decide (kindE l r ≠ 1)) Y = ⟨l, r, 0, d, 0⟩ → evG (f + 1) (false :: (headB n (kindE l r) ++ Y)) = ⟨.node n l r, 0, 1 + ((headB n (kindE l r)).length + d), 0⟩ := fun Y d hv => by
        obtain ⟨b1, b2, b3⟩ := g1 false (headB n (kindE l r) ++ Y)
        replace b3 : gV 0 (false :: (headB n (kindE l r) ++ Y)) 1 = 0 := b3
        show evN (evG f) false (false :: (headB n (kindE l r) ++ Y)) = _
        unfold evN
        rw [b2, if_neg (fun q => q rfl), b3, if_neg (by decide), if_neg (by decide), b1]
        simp only [List.drop_succ_cons, List.drop_zero]
        have hh := hd_back (n := n) (k := kindE l r) (by omega) (kindE_lt l r) Y
        have hN : ndG (evG f) (headB n (kindE l r) ++ Y) = ⟨.node n l r, 0, (headB n (kindE l r)).length + d, 0⟩ := by
          unfold ndG
          rw [hh]
          simp only [List.drop_left, hv, hnode, hin]
          rw [if_neg (fun q => q rfl), if_neg (fun q => q rfl), if_neg (fun q => q rfl), if_pos trivial]
        rw [hN]
      have eB : evB (.node n l r) ++ X = false :: (headB n (kindE l r) ++ (((if kindE l r = 0 then [] else evB l) ++ (if kindE l r = 1 then [] else evB r)) ++ X)) := by
        simp [evB, pb01]
      have eL : (evB (.node n l r)).length = 1 + ((headB n (kindE l r)).length + ((if kindE l r = 0 then [] else evB l) ++ (if kindE l r = 1 then [] else evB r)).length) := by
        simp [evB, putBits_len]
      rw [eB, eL]
      apply key
      by_cases z : l.top = 0
      · have k0 : kindE l r = 0 := by unfold kindE; rw [if_pos z]
        rw [k0, if_pos rfl, if_neg (by decide)]
        have a1 : hL (evG f) (Ev.E.leaf 0) (decide ((0 : Nat) ≠ 0)) (([] ++ evB r) ++ X) = ⟨.leaf 0, 0, 0, 0⟩ := rfl
        unfold hvG; rw [a1]
        have a2 : hR (evG f) (Ev.E.leaf 0) (decide ((0 : Nat) ≠ 1)) ⟨.leaf 0, 0, 0, 0⟩ (([] ++ evB r) ++ X) = ⟨r, 0, (evB r).length, 0⟩ := by
          unfold hR; rw [if_pos ⟨by decide, rfl⟩]; exact ir X
        rw [a2, E_zero hnf.1 z]; simp
      · by_cases w : r.top = 0
        · have k1 : kindE l r = 1 := by unfold kindE; rw [if_neg z, if_pos w]
          rw [k1, if_neg (by decide), if_pos rfl]
          have a1 : hL (evG f) (Ev.E.leaf 0) (decide ((1 : Nat) ≠ 0)) ((evB l ++ []) ++ X) = ⟨l, 0, (evB l).length, 0⟩ := by
            unfold hL; rw [if_pos (by decide), List.append_nil]; exact il X
          unfold hvG; rw [a1]
          have a2 : hR (evG f) (Ev.E.leaf 0) (decide ((1 : Nat) ≠ 1)) ⟨l, 0, (evB l).length, 0⟩ ((evB l ++ []) ++ X) = ⟨.leaf 0, 0, 0, 0⟩ := by
            unfold hR; rw [if_neg (by simp)]
          rw [a2, E_zero hnf.2.1 w]; simp
        · have k2 : kindE l r = 2 := by unfold kindE; rw [if_neg z, if_neg w]
          rw [k2, if_neg (by decide), if_neg (by decide)]
          have a1 : hL (evG f) (Ev.E.leaf 0) (decide ((2 : Nat) ≠ 0)) ((evB l ++ evB r) ++ X) = ⟨l, 0, (evB l).length, 0⟩ := by
            unfold hL; rw [if_pos (by decide), List.append_assoc]; exact il _
          unfold hvG; rw [a1]
          have a2 : hR (evG f) (Ev.E.leaf 0) (decide ((2 : Nat) ≠ 1)) ⟨l, 0, (evB l).length, 0⟩ ((evB l ++ evB r) ++ X) = ⟨r, 0, (evB r).length, 0⟩ := by
            unfold hR; rw [if_pos ⟨by decide, rfl⟩, List.append_assoc, List.drop_left]; exact ir X
          rw [a2]; simp
end Go.Proofs.Ytgmigcmhnmmdkaa
