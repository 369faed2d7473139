/- A reader that has an error; what the law is given. -/
import Derived.Test.YtgmigcmhnmmdkaaDoorCdK24
import Derived.Test.YtgmigcmhnmmdkaaDoorCdM20
import Derived.Test.YtgmigcmhnmmdkaaDoorCdM14
import Derived.Test.YtgmigcmhnmmdkaaDoorCdBxW32
import Derived.Test.YtgmigcmhnmmdkaaDoorCdM19
import Derived.Test.YtgmigcmhnmmdkaaDoorCdM13
import Derived.OpenShut
import Derived.Test.YtgmigcmhnmmdkaaDoorRows
import Derived.Test.YtgmigcmhnmmdkaaDoorCdM17
import Derived.ProofKit
import Derived.LaidMore
import Derived.Lay
import Derived.Stop.Joined
import Derived.Stop.LaidErr
import Derived.Lib.LaidTab
set_option linter.all false
set_option maxRecDepth 100000
namespace Go.Proofs.YtgmigcmhnmmdkaaDoor
open Go.RowKit Go.Sep
attribute [local irreducible] Go.wpList Go.Code.wp

theorem getErr_c {I : IM} {l : List UInt8} {a : Option Addr} {c : Nat} {r p e : Nat} (hl : BSl I l (.slice a l.length c)) (hn9 : l.length ≤ 1000000) (hp : p ≤ l.length * 8) (he : e ≠ 0) {k : Nat} (hk : k ≤ 64) : FunM Tryd.prog 16 #[.pointer (some ⟨r, 0, none⟩), .int .i64 ((k : Nat) : Int)] I [(r, .cells #[.slice a l.length c, .int .i64 ((p : Nat) : Int), .int .i64 ((e : Nat) : Int)] 74)] (fun v J H' => ∃ b' : OB, H' = [b'] ∧ b'.1 = r ∧ v = .int .u64 0 ∧ b' = (r, .cells #[.slice a l.length c, .int .i64 ((p : Nat) : Int), .int .i64 ((e : Nat) : Int)] 74)) := by
  have h := getE_c (r := r) (e := e) (k := k) hl hn9 hp rfl hk
  have g1 : gV e ((bitsL l).drop p) k = 0 := by unfold gV; rw [if_neg (fun q => he q.1)]
  have g2 : gD e ((bitsL l).drop p) k = 0 := by unfold gD; rw [if_neg (fun q => he q.1)]
  have g3 : gE e ((bitsL l).drop p) k = e := by unfold gE; rw [if_neg (fun q => he q.1)]
  rw [g1, g2, g3] at h
  exact h

set_option maxHeartbeats 1000000 in
theorem idErr_c {I : IM} {l : List UInt8} {a : Option Addr} {c : Nat} {r p e : Nat} (hl : BSl I l (.slice a l.length c)) (hn9 : l.length ≤ 1000000) (hp : p ≤ l.length * 8) (he : e ≠ 0) : FunM Tryd.prog 37 #[.agg #[.pointer (some ⟨r, 0, none⟩)], .int .i64 0] I [(r, .cells #[.slice a l.length c, .int .i64 ((p : Nat) : Int), .int .i64 ((e : Nat) : Int)] 74)] (fun v J H' => ∃ b' : OB, H' = [b'] ∧ b'.1 = r ∧ v = .tuple #[.agg #[.bool false, .pointer none], .int .i64 6] ∧ b' = (r, .cells #[.slice a l.length c, .int .i64 ((p : Nat) : Int), .int .i64 ((e : Nat) : Int)] 74)) := by
 refine enterM_rule 59 [(0, .agg #[pB r]), (1, .int .i64 0)] Tryd.func37 rfl (by kernel_rfl) ?_
 intro w s
 refine seqR ?_
 refine oAD [(r, .cells #[.slice a l.length c, .int .i64 p, .int .i64 e] 74)] [] 3 [] 2 (fun φ1 => [(5, .int .i64 0), (4, pB (φ1 1)), (2, pB (φ1 0))]) (fun φ1 => [(r, .cells #[.slice a l.length c, .int .i64 p, .int .i64 e] 74), (φ1 0, .cells #[pB r] 71), (φ1 1, .cells #[.bool false, .pointer none] 27)]) (fun φ1 => []) s (fun φ1 => by kernel_rfl) (by kernel_rfl) ?_
 intro φ1 w1 s
 refine seqR ?_
 refine oK _ [] 2 [.o 1] 0 (fun φ2 => [(12, pB r), (11, pB (φ1 0))]) (fun φ2 => [(φ1 0)]) s (fun φ2 => by kernel_rfl) ?_
 intro φ2 w2 s
 refine callB_rule (b := (r, .cells #[.slice a l.length c, .int .i64 p, .int .i64 e] 74)) (F := []) (Hr := [(φ1 0, .cells #[pB r] 71), (φ1 1, .cells #[.bool false, .pointer none] 27)]) (some 13) 0 s (by kernel_rfl) (by kernel_rfl) (getErr_c (r := r) (k := 2) hl hn9 hp he (by decide)) (by kernel_rfl) ?_
 rintro v3 I3 w3 b3 le3 - h3 s
 obtain ⟨rfl, rfl⟩ := h3
 refine oKD _ [] 1 [] 0 (fun φ4 => [(6, .int .u64 0)]) (fun φ4 => []) s (fun φ4 => by kernel_rfl) (by kernel_rfl) ?_
 intro φ4 w4 s
 refine wp_seq ?_
 refine wp_block ?_
 refine seqR ?_
 refine oK _ [] 1 [.o 1] 0 (fun φ5 => [(15, .agg #[pB r])]) (fun φ5 => [(φ1 0)]) s (fun φ5 => by kernel_rfl) ?_
 intro φ5 w5 s
 refine callB_rule (b := (r, .cells #[.slice a l.length c, .int .i64 p, .int .i64 e] 74)) (F := []) (Hr := [(φ1 0, .cells #[pB r] 71), (φ1 1, .cells #[.bool false, .pointer none] 27)]) (some 16) 0 s (by kernel_rfl) (by kernel_rfl) (failed_c (r := r) (v0 := .slice a l.length c) (v1 := .int .i64 p) (e := e)) (by kernel_rfl) ?_
 rintro v6 I6 w6 b6 le6 - h6 s
 obtain ⟨rfl, rfl⟩ := h6
 refine oKD _ [] 1 [] 0 (fun φ7 => [(14, .bool (decide (e ≠ 0)))]) (fun φ7 => []) s (fun φ7 => by kernel_rfl) (by kernel_rfl) ?_
 intro φ7 w7 s
 rcases Bool.eq_false_or_eq_true (decide (e ≠ 0)) with hc8 | hc8
 ·
  rw [hc8]
  refine cond_true_rule (b := true) (by kernel_rfl) rfl ?_
  refine seqR ?_
  refine call_rule (some 17) s (Ev.tzero_c) (by kernel_rfl) ?_
  intro v9 I9 w9 le9 h9 s
  obtain rfl := h9
  refine oKD _ [] 2 [.o 2, .o 2] 0 (fun φ10 => [(5, .int .i64 6)]) (fun φ10 => [φ1 1, φ1 1]) s (fun φ10 => by kernel_rfl) (by kernel_rfl) ?_
  intro φ10 w10 s
  refine wp_ret ?_
  refine ret_rule (C := []) _ [] (.tuple #[.agg #[.bool false, .pointer none], .int .i64 6]) [.o 2, .o 2] [φ1 1, φ1 1] s trivial (by kernel_rfl) ?_
  replace s := s.drop (List.Sublist.append (List.Sublist.cons₂ _ (List.Sublist.cons _ (List.Sublist.cons _ List.Sublist.slnil))) (List.Sublist.refl []))
  exact ⟨_, _, _, rfl, s, ⟨_, rfl, rfl, rfl, rfl⟩⟩
 ·
  exact absurd he (of_decide_eq_false hc8)

set_option maxHeartbeats 1000000 in
theorem evErr_c {I : IM} {l : List UInt8} {a : Option Addr} {c : Nat} {r p e : Nat} (hl : BSl I l (.slice a l.length c)) (hn9 : l.length ≤ 1000000) (hp : p ≤ l.length * 8) (he : e ≠ 0) : FunM Tryd.prog 41 #[.agg #[.pointer (some ⟨r, 0, none⟩)], .int .i64 0] I [(r, .cells #[.slice a l.length c, .int .i64 ((p : Nat) : Int), .int .i64 ((e : Nat) : Int)] 74)] (fun v J H' => ∃ b' : OB, H' = [b'] ∧ b'.1 = r ∧ v = .tuple #[.agg #[.int .u64 0, .pointer none], .int .i64 6] ∧ b' = (r, .cells #[.slice a l.length c, .int .i64 ((p : Nat) : Int), .int .i64 ((e : Nat) : Int)] 74)) := by
 refine enterM_rule 41 [(0, .agg #[pB r]), (1, .int .i64 0)] Tryd.func41 rfl (by kernel_rfl) ?_
 intro w s
 refine seqR ?_
 refine oAD [(r, .cells #[.slice a l.length c, .int .i64 p, .int .i64 e] 74)] [] 3 [] 2 (fun φ1 => [(5, .int .i64 0), (4, pB (φ1 1)), (2, pB (φ1 0))]) (fun φ1 => [(r, .cells #[.slice a l.length c, .int .i64 p, .int .i64 e] 74), (φ1 0, .cells #[pB r] 71), (φ1 1, .cells #[.int .u64 0, .pointer none] 44)]) (fun φ1 => []) s (fun φ1 => by kernel_rfl) (by kernel_rfl) ?_
 intro φ1 w1 s
 refine seqR ?_
 refine oK _ [] 2 [.o 1] 0 (fun φ2 => [(10, pB r), (9, pB (φ1 0))]) (fun φ2 => [(φ1 0)]) s (fun φ2 => by kernel_rfl) ?_
 intro φ2 w2 s
 refine callB_rule (b := (r, .cells #[.slice a l.length c, .int .i64 p, .int .i64 e] 74)) (F := []) (Hr := [(φ1 0, .cells #[pB r] 71), (φ1 1, .cells #[.int .u64 0, .pointer none] 44)]) (some 11) 0 s (by kernel_rfl) (by kernel_rfl) (getErr_c (r := r) (k := 1) hl hn9 hp he (by decide)) (by kernel_rfl) ?_
 rintro v3 I3 w3 b3 le3 - h3 s
 obtain ⟨rfl, rfl⟩ := h3
 refine oKD _ [] 2 [] 0 (fun φ4 => [(6, .bool false), (12, .bool false)]) (fun φ4 => []) s (fun φ4 => by kernel_rfl) (by kernel_rfl) ?_
 intro φ4 w4 s
 refine wp_seq ?_
 refine wp_block ?_
 refine seqR ?_
 refine oK _ [] 1 [.o 1] 0 (fun φ5 => [(14, .agg #[pB r])]) (fun φ5 => [(φ1 0)]) s (fun φ5 => by kernel_rfl) ?_
 intro φ5 w5 s
 refine callB_rule (b := (r, .cells #[.slice a l.length c, .int .i64 p, .int .i64 e] 74)) (F := []) (Hr := [(φ1 0, .cells #[pB r] 71), (φ1 1, .cells #[.int .u64 0, .pointer none] 44)]) (some 15) 0 s (by kernel_rfl) (by kernel_rfl) (failed_c (r := r) (v0 := .slice a l.length c) (v1 := .int .i64 p) (e := e)) (by kernel_rfl) ?_
 rintro v6 I6 w6 b6 le6 - h6 s
 obtain ⟨rfl, rfl⟩ := h6
 refine oKD _ [] 1 [] 0 (fun φ7 => [(13, .bool (decide (e ≠ 0)))]) (fun φ7 => []) s (fun φ7 => by kernel_rfl) (by kernel_rfl) ?_
 intro φ7 w7 s
 rcases Bool.eq_false_or_eq_true (decide (e ≠ 0)) with hc8 | hc8
 ·
  rw [hc8]
  refine cond_true_rule (b := true) (by kernel_rfl) rfl ?_
  refine seqR ?_
  refine oKD _ [] 3 [.o 2, .o 2] 0 (fun φ9 => [(5, .int .i64 6), (16, .agg #[.int .u64 0, .pointer none])]) (fun φ9 => [φ1 1, φ1 1]) s (fun φ9 => by kernel_rfl) (by kernel_rfl) ?_
  intro φ9 w9 s
  refine wp_ret ?_
  refine ret_rule (C := []) _ [] (.tuple #[.agg #[.int .u64 0, .pointer none], .int .i64 6]) [.o 2, .o 2] [φ1 1, φ1 1] s trivial (by kernel_rfl) ?_
  replace s := s.drop (List.Sublist.append (List.Sublist.cons₂ _ (List.Sublist.cons _ (List.Sublist.cons _ List.Sublist.slnil))) (List.Sublist.refl []))
  exact ⟨_, _, _, rfl, s, ⟨_, rfl, rfl, rfl, rfl⟩⟩
 ·
  exact absurd he (of_decide_eq_false hc8)

set_option maxHeartbeats 1000000 in
theorem getIDErr_c {I : IM} {l : List UInt8} {a : Option Addr} {c : Nat} {r p e : Nat} (hl : BSl I l (.slice a l.length c)) (hn9 : l.length ≤ 1000000) (hp : p ≤ l.length * 8) (he : e ≠ 0) : FunM Tryd.prog 10 #[.pointer (some ⟨r, 0, none⟩)] I [(r, .cells #[.slice a l.length c, .int .i64 ((p : Nat) : Int), .int .i64 ((e : Nat) : Int)] 74)] (fun v J H' => ∃ b' : OB, H' = [b'] ∧ b'.1 = r ∧ v = .tuple #[.agg #[.bool false, .pointer none], .int .i64 6] ∧ b' = (r, .cells #[.slice a l.length c, .int .i64 ((p : Nat) : Int), .int .i64 ((e : Nat) : Int)] 74)) := by
 refine enterM_rule 9 [(0, pB r)] Tryd.func10 rfl (by kernel_rfl) ?_
 intro w s
 refine seqR ?_
 refine oAD [(r, .cells #[.slice a l.length c, .int .i64 p, .int .i64 e] 74)] [] 2 [] 1 (fun φ1 => [(3, .int .i64 0), (2, pB (φ1 0))]) (fun φ1 => [(r, .cells #[.slice a l.length c, .int .i64 p, .int .i64 e] 74), (φ1 0, .cells #[.bool false, .pointer none] 27)]) (fun φ1 => []) s (fun φ1 => by kernel_rfl) (by kernel_rfl) ?_
 intro φ1 w1 s
 refine seqR ?_
 refine oK _ [] 2 [] 0 (fun φ2 => [(5, .agg #[pB r]), (4, pB r)]) (fun φ2 => []) s (fun φ2 => by kernel_rfl) ?_
 intro φ2 w2 s
 refine callB_rule (b := (r, .cells #[.slice a l.length c, .int .i64 p, .int .i64 e] 74)) (F := []) (Hr := [(φ1 0, .cells #[.bool false, .pointer none] 27)]) (some 6) 0 s (by kernel_rfl) (by kernel_rfl) (idErr_c (r := r) hl hn9 hp he) (by kernel_rfl) ?_
 rintro v3 I3 w3 b3 le3 - h3 s
 obtain ⟨rfl, rfl⟩ := h3
 refine oKD _ [] 4 [.o 1, .o 1] 0 (fun φ4 => [(3, .int .i64 6), (8, .int .i64 6), (7, .agg #[.bool false, .pointer none])]) (fun φ4 => [φ1 0, φ1 0]) s (fun φ4 => by kernel_rfl) (by kernel_rfl) ?_
 intro φ4 w4 s
 refine wp_ret ?_
 refine ret_rule (C := []) _ [] (.tuple #[.agg #[.bool false, .pointer none], .int .i64 6]) [.o 1, .o 1] [φ1 0, φ1 0] s trivial (by kernel_rfl) ?_
 replace s := s.drop (List.Sublist.append (List.Sublist.cons₂ _ (List.Sublist.cons _ List.Sublist.slnil)) (List.Sublist.refl []))
 exact ⟨_, _, _, rfl, s, ⟨_, rfl, rfl, rfl, rfl⟩⟩

set_option maxHeartbeats 1000000 in
theorem getEvErr_c {I : IM} {l : List UInt8} {a : Option Addr} {c : Nat} {r p e : Nat} (hl : BSl I l (.slice a l.length c)) (hn9 : l.length ≤ 1000000) (hp : p ≤ l.length * 8) (he : e ≠ 0) : FunM Tryd.prog 14 #[.pointer (some ⟨r, 0, none⟩)] I [(r, .cells #[.slice a l.length c, .int .i64 ((p : Nat) : Int), .int .i64 ((e : Nat) : Int)] 74)] (fun v J H' => ∃ b' : OB, H' = [b'] ∧ b'.1 = r ∧ v = .tuple #[.agg #[.int .u64 0, .pointer none], .int .i64 6] ∧ b' = (r, .cells #[.slice a l.length c, .int .i64 ((p : Nat) : Int), .int .i64 ((e : Nat) : Int)] 74)) := by
 refine enterM_rule 9 [(0, pB r)] Tryd.func14 rfl (by kernel_rfl) ?_
 intro w s
 refine seqR ?_
 refine oAD [(r, .cells #[.slice a l.length c, .int .i64 p, .int .i64 e] 74)] [] 2 [] 1 (fun φ1 => [(3, .int .i64 0), (2, pB (φ1 0))]) (fun φ1 => [(r, .cells #[.slice a l.length c, .int .i64 p, .int .i64 e] 74), (φ1 0, .cells #[.int .u64 0, .pointer none] 44)]) (fun φ1 => []) s (fun φ1 => by kernel_rfl) (by kernel_rfl) ?_
 intro φ1 w1 s
 refine seqR ?_
 refine oK _ [] 2 [] 0 (fun φ2 => [(5, .agg #[pB r]), (4, pB r)]) (fun φ2 => []) s (fun φ2 => by kernel_rfl) ?_
 intro φ2 w2 s
 refine callB_rule (b := (r, .cells #[.slice a l.length c, .int .i64 p, .int .i64 e] 74)) (F := []) (Hr := [(φ1 0, .cells #[.int .u64 0, .pointer none] 44)]) (some 6) 0 s (by kernel_rfl) (by kernel_rfl) (evErr_c (r := r) hl hn9 hp he) (by kernel_rfl) ?_
 rintro v3 I3 w3 b3 le3 - h3 s
 obtain ⟨rfl, rfl⟩ := h3
 refine oKD _ [] 4 [.o 1, .o 1] 0 (fun φ4 => [(3, .int .i64 6), (8, .int .i64 6), (7, .agg #[.int .u64 0, .pointer none])]) (fun φ4 => [φ1 0, φ1 0]) s (fun φ4 => by kernel_rfl) (by kernel_rfl) ?_
 intro φ4 w4 s
 refine wp_ret ?_
 refine ret_rule (C := []) _ [] (.tuple #[.agg #[.int .u64 0, .pointer none], .int .i64 6]) [.o 1, .o 1] [φ1 0, φ1 0] s trivial (by kernel_rfl) ?_
 replace s := s.drop (List.Sublist.append (List.Sublist.cons₂ _ (List.Sublist.cons _ List.Sublist.slnil)) (List.Sublist.refl []))
 exact ⟨_, _, _, rfl, s, ⟨_, rfl, rfl, rfl, rfl⟩⟩

theorem textT_len : ∀ (t : Ev.T) (n : Nat), t.depth ≤ n → (Ev.textT t).length + 3 ≤ 4 * 2 ^ n
  | .zero, n, _ => by have := Nat.one_le_two_pow (n := n); simp [Ev.textT]; omega
  | .one, n, _ => by have := Nat.one_le_two_pow (n := n); simp [Ev.textT]; omega
  | .node l r, 0, h => by simp [Ev.T.depth] at h
  | .node l r, n + 1, h => by
    have hd : l.depth ≤ n ∧ r.depth ≤ n := by simp only [Ev.T.depth] at h; omega
    have h1 := textT_len l n hd.1
    have h2 := textT_len r n hd.2
    simp only [Ev.textT, List.length_append, List.length_cons, List.length_nil, Nat.pow_succ]
    omega
theorem textE_len : ∀ (e : Ev.E) (n : Nat), e.depth ≤ n → e.top < 18446744073709551616 → (Ev.textE e).length + 1004 ≤ 2008 * 2 ^ n
  | .leaf m, n, _, ht => by
    have := Nat.one_le_two_pow (n := n)
    have := Ev.digits_le m ht
    simp only [Ev.textE]; omega
  | .node m l r, 0, h, _ => by simp [Ev.E.depth] at h
  | .node m l r, n + 1, h, ht => by
    have hd : l.depth ≤ n ∧ r.depth ≤ n := by simp only [Ev.E.depth] at h; omega
    have hq := half_lt ht
    have h1 := textE_len l n hd.1 hq.1
    have h2 := textE_len r n hd.2 hq.2.1
    have := Ev.digits_le m hq.2.2
    simp only [Ev.textE, List.length_append, List.length_cons, List.length_nil, Nat.pow_succ]
    omega

theorem bclone_c {I : IM} {l : List UInt8} {a : Option Addr} {n c : Nat} (hl : BSl I l (.slice a n c)) (hn : l.length ≤ 1000000000) : Fun Tryd.prog 36 #[.slice a n c] I (fun v J => bsR l v J) := fun_of_rowB (bclone_r hl hn)

set_option maxHeartbeats 1000000 in
theorem cut_c {I : IM} {l : List UInt8} {a : Option Addr} {n c : Nat} (hl : BSl I l (.slice a n c)) : Fun Tryd.prog 9 #[.slice a n c, .int .i64 60] I (fun v J => bsR (l.take 60) v J) := by
 obtain ⟨rfl, -⟩ := hl.cap
 refine enter_rule 12 [(0, .slice a l.length c), (1, .int .i64 60)] Tryd.func9 rfl (by kernel_rfl) ?_
 intro w s
 refine seqR ?_
 refine oKD [] [] 1 [] 0 (fun φ1 => [(4, .slice none 0 0)]) (fun φ1 => []) s (fun φ1 => by kernel_rfl) (by kernel_rfl) ?_
 intro φ1 w1 s
 refine seqR ?_
 refine oK [] [] 5 [] 0 (fun φ2 => [(9, .int .i64 (if ((60 : Nat) : Int) < ((l.length : Nat) : Int) then ((60 : Nat) : Int) else ((l.length : Nat) : Int))), (8, .int .i64 60), (7, .int .i64 l.length), (6, .slice a l.length c), (5, .slice a l.length c)]) (fun φ2 => []) s (fun φ2 => by kernel_rfl) ?_
 intro φ2 w2 s
 rw [nat_min (a := l.length) (b := 60)]
 refine sem_rule (Instr.sliceAt 22 (.slice a l.length c) none (some (.int .i64 ((min l.length 60 : Nat) : Int))) none) (some 10) (.slice a (min l.length 60) c) (by kernel_rfl) (run_to (by have hcp := (BSl.cap hl).2; (try simp only [List.length_drop, List.length_take, List.length_append, List.length_cons, List.length_nil] at hcp ⊢);   (try simp only [List.length_drop, List.length_take, List.length_append, List.length_cons, List.length_nil]); omega)) ?_
 refine call_rule (some 11) s (bclone_c (bsl_to (hi := min l.length 60) hl (by have hcp := (BSl.cap hl).2; (try simp only [List.length_drop, List.length_take, List.length_append, List.length_cons, List.length_nil] at hcp ⊢);   (try simp only [List.length_drop, List.length_take, List.length_append, List.length_cons, List.length_nil]); omega)) (by rw [List.length_take]; omega)) (by kernel_rfl) ?_
 intro v3 I3 w3 le3 h3 s
 obtain ⟨a3, c3, rfl, h3_0⟩ := h3
 refine oKD [] [] 1 [] 0 (fun φ4 => [(4, .slice a3 (List.length (l.take (min l.length 60))) c3)]) (fun φ4 => []) s (fun φ4 => by kernel_rfl) (by kernel_rfl) ?_
 intro φ4 w4 s
 refine wp_ret ?_
 refine ret_rule (C := []) [] [] (.slice a3 (List.length (l.take (min l.length 60))) c3) [] [] s trivial (by kernel_rfl) ?_
 exact ⟨_, _, _, rfl, s, (by have e9 : (l.take (min l.length 60)) = l.take 60 := (by rw [List.take_eq_take_iff]; omega); rw [e9] at h3_0 ⊢; exact ⟨_, _, rfl, h3_0⟩)⟩

end Go.Proofs.YtgmigcmhnmmdkaaDoor
/- Any bytes, read as an id or a tree alone, are those of the document, or have its error. -/
set_option linter.all false
set_option maxRecDepth 100000
namespace Go.Proofs.YtgmigcmhnmmdkaaDoor
open Go.RowKit Go.Sep
attribute [local irreducible] Go.wpList Go.Code.wp

theorem refGIDf_c {I : IM} {B : List Bool} {a : Option Addr} {n c y e : Nat} (hb : BoS I B (.slice a n c)) (hn9 : B.length ≤ 1000000) (he : e = 0) : FunM Tryd.prog 12 #[.pointer (some ⟨y, 0, none⟩), .int .i64 0] I [(y, .cells #[.slice a n c, .int .i64 ((e : Nat) : Int)] 40)] (fun v J H' => ∃ b' : OB, H' = [b'] ∧ b'.1 = y ∧ ∃ (k : Nat) (a' : Option Addr) (n' c' : Nat), v = .tuple #[.pointer (some ⟨k, 0, none⟩), .int .i64 (((idG 16 B).er : Nat) : Int)] ∧ b' = (y, .cells #[.slice a' n' c', .int .i64 (((idG 16 B).e : Nat) : Int)] 40) ∧ Ev.RT J (idG 16 B).t k) := by
  refine funM_mono (refGID_c 16 (y := y) hb hn9 he (deep := 0) rfl) (fun v J H' q => ?_)
  obtain ⟨b', h1, h2, k, T, R, E, D, B', a', n', c', h3, h4, h5, h6, h7, h8⟩ := q
  rw [h7]
  exact ⟨b', h1, h2, k, a', n', c', h3, h4, h5⟩

theorem refGEvf_c {I : IM} {B : List Bool} {a : Option Addr} {n c y e : Nat} (hb : BoS I B (.slice a n c)) (hn9 : B.length ≤ 1000000) (he : e = 0) : FunM Tryd.prog 15 #[.pointer (some ⟨y, 0, none⟩), .int .i64 0] I [(y, .cells #[.slice a n c, .int .i64 ((e : Nat) : Int)] 40)] (fun v J H' => ∃ b' : OB, H' = [b'] ∧ b'.1 = y ∧ ∃ (k : Nat) (a' : Option Addr) (n' c' : Nat), v = .tuple #[.pointer (some ⟨k, 0, none⟩), .int .i64 (((evG 16 B).er : Nat) : Int)] ∧ b' = (y, .cells #[.slice a' n' c', .int .i64 (((evG 16 B).e : Nat) : Int)] 40) ∧ Ev.RE J (evG 16 B).t k) := by
  refine funM_mono (refGEv_c 16 (y := y) hb hn9 he (deep := 0) rfl) (fun v J H' q => ?_)
  obtain ⟨b', h1, h2, k, T, R, E, D, B', a', n', c', h3, h4, h5, h6, h7, h8⟩ := q
  rw [h7]
  exact ⟨b', h1, h2, k, a', n', c', h3, h4, h5⟩

theorem getNil_c {I : IM} {a : Option Addr} {c r : Nat} (hl : BSl I ([] : List UInt8) (.slice a (List.length ([] : List UInt8)) c)) : FunM Tryd.prog 16 #[.pointer (some ⟨r, 0, none⟩), .int .i64 1] I [(r, .cells #[.slice a (List.length ([] : List UInt8)) c, .int .i64 0, .int .i64 0] 74)] (fun v J H' => ∃ b' : OB, H' = [b'] ∧ b'.1 = r ∧ v = .int .u64 0 ∧ b' = (r, .cells #[.slice a (List.length ([] : List UInt8)) c, .int .i64 0, .int .i64 6] 74)) := by
  have h := getE_c (r := r) (p := 0) (e := 0) (k := 1) hl (by decide) (by decide) rfl (by decide)
  have hb : (bitsL ([] : List UInt8)).drop 0 = [] := rfl
  rw [hb] at h
  exact h

set_option maxHeartbeats 2000000 in
theorem codeParts_c {I : IM} {l : List UInt8} {a : Option Addr} {n c : Nat} (hT : Ev.Tab I) (hl : BSl I l (.slice a n c)) : Fun Tryd.prog 3 #[.slice a n c] I (fun v J => v = .bool true) := by
 obtain ⟨rfl, -⟩ := hl.cap
 have htp : (evG 16 (bitsL (l.take 60))).t.top < 18446744073709551616 := by have := (evG_ok 16).t (bitsL (l.take 60)); omega
 have hlT : (Ev.textT (idG 16 (bitsL (l.take 60))).t).length ≤ 1000000000 := by have := textT_len _ 16 (idG_deep 16 (bitsL (l.take 60))); omega
 have hlE : (Ev.textE (evG 16 (bitsL (l.take 60))).t).length ≤ 1000000000 := by have := textE_len _ 16 (evG_gd 16 (bitsL (l.take 60))).1 htp; omega
 refine enter_rule 91 [(0, .slice a l.length c)] Tryd.func3 rfl (by kernel_rfl) ?_
 intro w s
 refine seqR ?_
 refine oKD [] [] 1 [] 0 (fun φ1 => [(2, .bool false)]) (fun φ1 => []) s (fun φ1 => by kernel_rfl) (by kernel_rfl) ?_
 intro φ1 w1 s
 refine wp_seq ?_
 refine seqR ?_
 refine call_rule (some 16) s (awake7_c) (by kernel_rfl) ?_
 intro v2 I2 w2 le2 h2 s
 replace hl := BSl.mono le2 hl
 replace hT := Ev.Tab.mono le2 hT
 obtain rfl := h2
 refine oKD [] [] 1 [] 0 (fun φ3 => [(17, .bool false)]) (fun φ3 => []) s (fun φ3 => by kernel_rfl) (by kernel_rfl) ?_
 intro φ3 w3 s
 refine cond_false_rule (b := false) (by kernel_rfl) rfl ?_
 refine wp_skip ?_
 refine seqR ?_
 refine oK [] [] 1 [] 0 (fun φ4 => [(18, .slice a l.length c)]) (fun φ4 => []) s (fun φ4 => by kernel_rfl) ?_
 intro φ4 w4 s
 refine call_rule (some 19) s (cut_c hl) (by kernel_rfl) ?_
 intro v5 I5 w5 le5 h5 s
 replace hT := Ev.Tab.mono le5 hT
 obtain ⟨a5, c5, rfl, h5_0⟩ := h5
 refine oKD [] [] 1 [] 0 (fun φ6 => [(0, .slice a5 (List.length (l.take 60)) c5)]) (fun φ6 => []) s (fun φ6 => by kernel_rfl) (by kernel_rfl) ?_
 intro φ6 w6 s
 refine seqR ?_
 refine oK [] [] 1 [] 0 (fun φ7 => [(21, .slice a5 (List.length (l.take 60)) c5)]) (fun φ7 => []) s (fun φ7 => by kernel_rfl) ?_
 intro φ7 w7 s
 refine callF_rule (F := []) (some 22) s (newReader_c h5_0 (by rw [List.length_take]; omega)) (by kernel_rfl) ?_
 rintro v8 I8 w8 F8 le8 ⟨b8, a8, c8, rfl, rfl, hb8⟩ s
 replace hT := Ev.Tab.mono le8 hT
 replace h5_0 := BSl.mono le8 h5_0
 refine callB_rule (b := (b8, .cells #[.slice a8 (List.length (l.take 60)) c8, .int .i64 0, .int .i64 0] 74)) (H := [(b8, .cells #[.slice a8 (List.length (l.take 60)) c8, .int .i64 0, .int .i64 0] 74)]) (F := []) (Hr := []) (some 23) 0 s (by kernel_rfl) (by kernel_rfl) (getID_c (r := b8) (p := 0) (e := 0) (B := (bitsL (l.take 60))) hb8 (by rw [List.length_take]; omega) (Nat.zero_le _) List.drop_zero rfl) (by kernel_rfl) ?_
 rintro v9 I9 w9 b9 le9 - h9 s
 replace hT := Ev.Tab.mono le9 hT
 replace h5_0 := BSl.mono le9 h5_0
 obtain ⟨bi9, pi9, rfl, rfl, h9_0⟩ := h9
 refine oAD _ [] 6 [.o 1, .o 1] 1 (fun φ10 => [(4, .int .i64 (((idG 16 (bitsL (l.take 60))).er : Nat) : Int)), (3, pB (φ10 0)), (25, .int .i64 (((idG 16 (bitsL (l.take 60))).er : Nat) : Int)), (24, .agg #[.bool bi9, .pointer pi9]), (20, .tuple #[.agg #[.bool bi9, .pointer pi9], .int .i64 (((idG 16 (bitsL (l.take 60))).er : Nat) : Int)])]) (fun φ10 => [(b8, .cells #[.slice a8 (List.length (l.take 60)) c8, .int .i64 ((0 + (idG 16 (bitsL (l.take 60))).d : Nat) : Int), .int .i64 (((idG 16 (bitsL (l.take 60))).e : Nat) : Int)] 74), (φ10 0, .cells #[.bool bi9, .pointer pi9] 27)]) (fun φ10 => [φ10 0, φ10 0]) s (fun φ10 => by kernel_rfl) (by kernel_rfl) ?_
 intro φ10 w10 s
 refine seqR ?_
 refine oK _ [] 1 [] 0 (fun φ11 => [(27, .slice a5 (List.length (l.take 60)) c5)]) (fun φ11 => []) s (fun φ11 => by kernel_rfl) ?_
 intro φ11 w11 s
 refine call_rule (some 28) s (refBits_c h5_0 (by rw [List.length_take]; omega)) (by kernel_rfl) ?_
 intro v12 I12 w12 le12 h12 s
 replace hT := Ev.Tab.mono le12 hT
 replace h5_0 := BSl.mono le12 h5_0
 replace h9_0 := Ev.TRep.mono le12 h9_0
 obtain ⟨a12, c12, rfl, h12_0⟩ := h12
 refine oA _ [] 2 [] 1 (fun φ13 => [(30, pB (φ13 0)), (29, .agg #[.slice a12 (List.length (bitsL (l.take 60))) c12, .int .i64 0])]) (fun φ13 => [(b8, .cells #[.slice a8 (List.length (l.take 60)) c8, .int .i64 ((0 + (idG 16 (bitsL (l.take 60))).d : Nat) : Int), .int .i64 (((idG 16 (bitsL (l.take 60))).e : Nat) : Int)] 74), (φ10 0, .cells #[.bool bi9, .pointer pi9] 27), (φ13 0, .cells #[.slice a12 (List.length (bitsL (l.take 60))) c12, .int .i64 0] 40)]) (fun φ13 => []) s (fun φ13 => by kernel_rfl) ?_
 intro φ13 w13 s
 refine callB_rule (b := (φ13 0, .cells #[.slice a12 (List.length (bitsL (l.take 60))) c12, .int .i64 0] 40)) (F := []) (Hr := [(b8, .cells #[.slice a8 (List.length (l.take 60)) c8, .int .i64 ((0 + (idG 16 (bitsL (l.take 60))).d : Nat) : Int), .int .i64 (((idG 16 (bitsL (l.take 60))).e : Nat) : Int)] 74), (φ10 0, .cells #[.bool bi9, .pointer pi9] 27)]) (some 31) 2 s (by kernel_rfl) (by kernel_rfl) (refGIDf_c (y := (φ13 0)) (e := 0) h12_0 (by rw [bitsL_len, List.length_take]; omega) rfl) (by kernel_rfl) ?_
 rintro v14 I14 w14 b14 le14 - h14 s
 replace hT := Ev.Tab.mono le14 hT
 replace h5_0 := BSl.mono le14 h5_0
 replace h9_0 := Ev.TRep.mono le14 h9_0
 obtain ⟨k14, a14, n14, c14, rfl, rfl, h14_0⟩ := h14
 refine oKD _ [] 5 [] 0 (fun φ15 => [(6, .int .i64 (((idG 16 (bitsL (l.take 60))).er : Nat) : Int)), (5, pB k14), (33, .int .i64 (((idG 16 (bitsL (l.take 60))).er : Nat) : Int)), (32, pB k14), (26, .tuple #[pB k14, .int .i64 (((idG 16 (bitsL (l.take 60))).er : Nat) : Int)])]) (fun φ15 => []) s (fun φ15 => by kernel_rfl) (by kernel_rfl) ?_
 intro φ15 w15 s
 refine seqR ?_
 refine oK _ [] 1 [] 0 (fun φ16 => [(35, .slice a5 (List.length (l.take 60)) c5)]) (fun φ16 => []) s (fun φ16 => by kernel_rfl) ?_
 intro φ16 w16 s
 refine callF_rule (F := []) (some 36) s (newReader_c h5_0 (by rw [List.length_take]; omega)) (by kernel_rfl) ?_
 rintro v17 I17 w17 F17 le17 ⟨b17, a17, c17, rfl, rfl, hb17⟩ s
 replace hT := Ev.Tab.mono le17 hT
 replace h5_0 := BSl.mono le17 h5_0
 replace h9_0 := Ev.TRep.mono le17 h9_0
 replace h14_0 := Ev.RT.mono le17 h14_0
 refine callB_rule (b := (b17, .cells #[.slice a17 (List.length (l.take 60)) c17, .int .i64 0, .int .i64 0] 74)) (H := [(φ13 0, .cells #[.slice a14 n14 c14, .int .i64 (((idG 16 (bitsL (l.take 60))).e : Nat) : Int)] 40), (b8, .cells #[.slice a8 (List.length (l.take 60)) c8, .int .i64 ((0 + (idG 16 (bitsL (l.take 60))).d : Nat) : Int), .int .i64 (((idG 16 (bitsL (l.take 60))).e : Nat) : Int)] 74), (φ10 0, .cells #[.bool bi9, .pointer pi9] 27), (b17, .cells #[.slice a17 (List.length (l.take 60)) c17, .int .i64 0, .int .i64 0] 74)]) (F := []) (Hr := [(φ13 0, .cells #[.slice a14 n14 c14, .int .i64 (((idG 16 (bitsL (l.take 60))).e : Nat) : Int)] 40), (b8, .cells #[.slice a8 (List.length (l.take 60)) c8, .int .i64 ((0 + (idG 16 (bitsL (l.take 60))).d : Nat) : Int), .int .i64 (((idG 16 (bitsL (l.take 60))).e : Nat) : Int)] 74), (φ10 0, .cells #[.bool bi9, .pointer pi9] 27)]) (some 37) 3 s (by kernel_rfl) (by kernel_rfl) (getEvent_c (r := b17) (p := 0) (e := 0) (B := (bitsL (l.take 60))) hb17 (by rw [List.length_take]; omega) (Nat.zero_le _) List.drop_zero rfl) (by kernel_rfl) ?_
 rintro v18 I18 w18 b18 le18 - h18 s
 replace hT := Ev.Tab.mono le18 hT
 replace h5_0 := BSl.mono le18 h5_0
 replace h9_0 := Ev.TRep.mono le18 h9_0
 replace h14_0 := Ev.RT.mono le18 h14_0
 obtain ⟨bi18, pi18, rfl, rfl, h18_0⟩ := h18
 refine oAD _ [] 6 [.o 4, .o 4] 1 (fun φ19 => [(8, .int .i64 (((evG 16 (bitsL (l.take 60))).er : Nat) : Int)), (7, pB (φ19 0)), (39, .int .i64 (((evG 16 (bitsL (l.take 60))).er : Nat) : Int)), (38, .agg #[.int .u64 bi18, .pointer pi18]), (34, .tuple #[.agg #[.int .u64 bi18, .pointer pi18], .int .i64 (((evG 16 (bitsL (l.take 60))).er : Nat) : Int)])]) (fun φ19 => [(b17, .cells #[.slice a17 (List.length (l.take 60)) c17, .int .i64 ((0 + (evG 16 (bitsL (l.take 60))).d : Nat) : Int), .int .i64 (((evG 16 (bitsL (l.take 60))).e : Nat) : Int)] 74), (φ13 0, .cells #[.slice a14 n14 c14, .int .i64 (((idG 16 (bitsL (l.take 60))).e : Nat) : Int)] 40), (b8, .cells #[.slice a8 (List.length (l.take 60)) c8, .int .i64 ((0 + (idG 16 (bitsL (l.take 60))).d : Nat) : Int), .int .i64 (((idG 16 (bitsL (l.take 60))).e : Nat) : Int)] 74), (φ10 0, .cells #[.bool bi9, .pointer pi9] 27), (φ19 0, .cells #[.int .u64 bi18, .pointer pi18] 44)]) (fun φ19 => [φ19 0, φ19 0]) s (fun φ19 => by kernel_rfl) (by kernel_rfl) ?_
 intro φ19 w19 s
 refine seqR ?_
 refine oK _ [] 1 [] 0 (fun φ20 => [(41, .slice a5 (List.length (l.take 60)) c5)]) (fun φ20 => []) s (fun φ20 => by kernel_rfl) ?_
 intro φ20 w20 s
 refine call_rule (some 42) s (refBits_c h5_0 (by rw [List.length_take]; omega)) (by kernel_rfl) ?_
 intro v21 I21 w21 le21 h21 s
 replace hT := Ev.Tab.mono le21 hT
 replace h9_0 := Ev.TRep.mono le21 h9_0
 replace h14_0 := Ev.RT.mono le21 h14_0
 replace h18_0 := Ev.ERep.mono le21 h18_0
 obtain ⟨a21, c21, rfl, h21_0⟩ := h21
 refine oA _ [] 2 [] 1 (fun φ22 => [(44, pB (φ22 0)), (43, .agg #[.slice a21 (List.length (bitsL (l.take 60))) c21, .int .i64 0])]) (fun φ22 => [(b17, .cells #[.slice a17 (List.length (l.take 60)) c17, .int .i64 ((0 + (evG 16 (bitsL (l.take 60))).d : Nat) : Int), .int .i64 (((evG 16 (bitsL (l.take 60))).e : Nat) : Int)] 74), (φ13 0, .cells #[.slice a14 n14 c14, .int .i64 (((idG 16 (bitsL (l.take 60))).e : Nat) : Int)] 40), (b8, .cells #[.slice a8 (List.length (l.take 60)) c8, .int .i64 ((0 + (idG 16 (bitsL (l.take 60))).d : Nat) : Int), .int .i64 (((idG 16 (bitsL (l.take 60))).e : Nat) : Int)] 74), (φ10 0, .cells #[.bool bi9, .pointer pi9] 27), (φ19 0, .cells #[.int .u64 bi18, .pointer pi18] 44), (φ22 0, .cells #[.slice a21 (List.length (bitsL (l.take 60))) c21, .int .i64 0] 40)]) (fun φ22 => []) s (fun φ22 => by kernel_rfl) ?_
 intro φ22 w22 s
 refine callB_rule (b := (φ22 0, .cells #[.slice a21 (List.length (bitsL (l.take 60))) c21, .int .i64 0] 40)) (F := []) (Hr := [(b17, .cells #[.slice a17 (List.length (l.take 60)) c17, .int .i64 ((0 + (evG 16 (bitsL (l.take 60))).d : Nat) : Int), .int .i64 (((evG 16 (bitsL (l.take 60))).e : Nat) : Int)] 74), (φ13 0, .cells #[.slice a14 n14 c14, .int .i64 (((idG 16 (bitsL (l.take 60))).e : Nat) : Int)] 40), (b8, .cells #[.slice a8 (List.length (l.take 60)) c8, .int .i64 ((0 + (idG 16 (bitsL (l.take 60))).d : Nat) : Int), .int .i64 (((idG 16 (bitsL (l.take 60))).e : Nat) : Int)] 74), (φ10 0, .cells #[.bool bi9, .pointer pi9] 27), (φ19 0, .cells #[.int .u64 bi18, .pointer pi18] 44)]) (some 45) 5 s (by kernel_rfl) (by kernel_rfl) (refGEvf_c (y := (φ22 0)) (e := 0) h21_0 (by rw [bitsL_len, List.length_take]; omega) rfl) (by kernel_rfl) ?_
 rintro v23 I23 w23 b23 le23 - h23 s
 replace hT := Ev.Tab.mono le23 hT
 replace h9_0 := Ev.TRep.mono le23 h9_0
 replace h14_0 := Ev.RT.mono le23 h14_0
 replace h18_0 := Ev.ERep.mono le23 h18_0
 obtain ⟨k23, a23, n23, c23, rfl, rfl, h23_0⟩ := h23
 refine oKD _ [] 5 [] 0 (fun φ24 => [(10, .int .i64 (((evG 16 (bitsL (l.take 60))).er : Nat) : Int)), (9, pB k23), (47, .int .i64 (((evG 16 (bitsL (l.take 60))).er : Nat) : Int)), (46, pB k23), (40, .tuple #[pB k23, .int .i64 (((evG 16 (bitsL (l.take 60))).er : Nat) : Int)])]) (fun φ24 => []) s (fun φ24 => by kernel_rfl) (by kernel_rfl) ?_
 intro φ24 w24 s
 refine seqR ?_
 refine callF_rule (F := []) (some 48) s (newReader_c (l := ([] : List UInt8)) (bsl_nil _) (by decide)) (by kernel_rfl) ?_
 rintro v25 I25 w25 F25 le25 ⟨b25, a25, c25, rfl, rfl, hb25⟩ s
 replace hT := Ev.Tab.mono le25 hT
 replace h9_0 := Ev.TRep.mono le25 h9_0
 replace h14_0 := Ev.RT.mono le25 h14_0
 replace h18_0 := Ev.ERep.mono le25 h18_0
 replace h23_0 := Ev.RE.mono le25 h23_0
 refine oKD [(φ22 0, .cells #[.slice a23 n23 c23, .int .i64 (((evG 16 (bitsL (l.take 60))).e : Nat) : Int)] 40), (b17, .cells #[.slice a17 (List.length (l.take 60)) c17, .int .i64 ((0 + (evG 16 (bitsL (l.take 60))).d : Nat) : Int), .int .i64 (((evG 16 (bitsL (l.take 60))).e : Nat) : Int)] 74), (φ13 0, .cells #[.slice a14 n14 c14, .int .i64 (((idG 16 (bitsL (l.take 60))).e : Nat) : Int)] 40), (b8, .cells #[.slice a8 (List.length (l.take 60)) c8, .int .i64 ((0 + (idG 16 (bitsL (l.take 60))).d : Nat) : Int), .int .i64 (((idG 16 (bitsL (l.take 60))).e : Nat) : Int)] 74), (φ10 0, .cells #[.bool bi9, .pointer pi9] 27), (φ19 0, .cells #[.int .u64 bi18, .pointer pi18] 44), (b25, .cells #[.slice a25 (List.length ([] : List UInt8)) c25, .int .i64 0, .int .i64 0] 74)] [] 1 [] 0 (fun φ26 => [(11, pB b25)]) (fun φ26 => []) s (fun φ26 => by kernel_rfl) (by kernel_rfl) ?_
 intro φ26 w26 s
 refine seqR ?_
 refine oK _ [] 1 [] 0 (fun φ27 => [(49, pB b25)]) (fun φ27 => []) s (fun φ27 => by kernel_rfl) ?_
 intro φ27 w27 s
 refine callB_rule (b := (b25, .cells #[.slice a25 (List.length ([] : List UInt8)) c25, .int .i64 0, .int .i64 0] 74)) (F := []) (Hr := [(φ22 0, .cells #[.slice a23 n23 c23, .int .i64 (((evG 16 (bitsL (l.take 60))).e : Nat) : Int)] 40), (b17, .cells #[.slice a17 (List.length (l.take 60)) c17, .int .i64 ((0 + (evG 16 (bitsL (l.take 60))).d : Nat) : Int), .int .i64 (((evG 16 (bitsL (l.take 60))).e : Nat) : Int)] 74), (φ13 0, .cells #[.slice a14 n14 c14, .int .i64 (((idG 16 (bitsL (l.take 60))).e : Nat) : Int)] 40), (b8, .cells #[.slice a8 (List.length (l.take 60)) c8, .int .i64 ((0 + (idG 16 (bitsL (l.take 60))).d : Nat) : Int), .int .i64 (((idG 16 (bitsL (l.take 60))).e : Nat) : Int)] 74), (φ10 0, .cells #[.bool bi9, .pointer pi9] 27), (φ19 0, .cells #[.int .u64 bi18, .pointer pi18] 44)]) (some 50) 6 s (by kernel_rfl) (by kernel_rfl) (getNil_c (r := b25) hb25) (by kernel_rfl) ?_
 rintro v28 I28 w28 b28 le28 - h28 s
 replace hT := Ev.Tab.mono le28 hT
 replace h9_0 := Ev.TRep.mono le28 h9_0
 replace h14_0 := Ev.RT.mono le28 h14_0
 replace h18_0 := Ev.ERep.mono le28 h18_0
 replace h23_0 := Ev.RE.mono le28 h23_0
 replace hb25 := BSl.mono le28 hb25
 obtain ⟨rfl, rfl⟩ := h28
 refine ops_done (by kernel_rfl) ?_
 refine seqR ?_
 refine oK _ [] 1 [] 0 (fun φ29 => [(52, pB b25)]) (fun φ29 => []) s (fun φ29 => by kernel_rfl) ?_
 intro φ29 w29 s
 refine callB_rule (b := (b25, .cells #[.slice a25 (List.length ([] : List UInt8)) c25, .int .i64 0, .int .i64 6] 74)) (F := []) (Hr := [(φ22 0, .cells #[.slice a23 n23 c23, .int .i64 (((evG 16 (bitsL (l.take 60))).e : Nat) : Int)] 40), (b17, .cells #[.slice a17 (List.length (l.take 60)) c17, .int .i64 ((0 + (evG 16 (bitsL (l.take 60))).d : Nat) : Int), .int .i64 (((evG 16 (bitsL (l.take 60))).e : Nat) : Int)] 74), (φ13 0, .cells #[.slice a14 n14 c14, .int .i64 (((idG 16 (bitsL (l.take 60))).e : Nat) : Int)] 40), (b8, .cells #[.slice a8 (List.length (l.take 60)) c8, .int .i64 ((0 + (idG 16 (bitsL (l.take 60))).d : Nat) : Int), .int .i64 (((idG 16 (bitsL (l.take 60))).e : Nat) : Int)] 74), (φ10 0, .cells #[.bool bi9, .pointer pi9] 27), (φ19 0, .cells #[.int .u64 bi18, .pointer pi18] 44)]) (some 53) 0 s (by kernel_rfl) (by kernel_rfl) (getIDErr_c (r := b25) (l := ([] : List UInt8)) (p := 0) (e := 6) hb25 (by decide) (by decide) (by decide)) (by kernel_rfl) ?_
 rintro v30 I30 w30 b30 le30 - h30 s
 replace hT := Ev.Tab.mono le30 hT
 replace h9_0 := Ev.TRep.mono le30 h9_0
 replace h14_0 := Ev.RT.mono le30 h14_0
 replace h18_0 := Ev.ERep.mono le30 h18_0
 replace h23_0 := Ev.RE.mono le30 h23_0
 replace hb25 := BSl.mono le30 hb25
 obtain ⟨rfl, rfl⟩ := h30
 refine oAD _ [] 6 [.o 7, .o 7] 1 (fun φ31 => [(13, .int .i64 6), (12, pB (φ31 0)), (55, .int .i64 6), (54, .agg #[.bool false, .pointer none]), (51, .tuple #[.agg #[.bool false, .pointer none], .int .i64 6])]) (fun φ31 => [(b25, .cells #[.slice a25 (List.length ([] : List UInt8)) c25, .int .i64 0, .int .i64 6] 74), (φ22 0, .cells #[.slice a23 n23 c23, .int .i64 (((evG 16 (bitsL (l.take 60))).e : Nat) : Int)] 40), (b17, .cells #[.slice a17 (List.length (l.take 60)) c17, .int .i64 ((0 + (evG 16 (bitsL (l.take 60))).d : Nat) : Int), .int .i64 (((evG 16 (bitsL (l.take 60))).e : Nat) : Int)] 74), (φ13 0, .cells #[.slice a14 n14 c14, .int .i64 (((idG 16 (bitsL (l.take 60))).e : Nat) : Int)] 40), (b8, .cells #[.slice a8 (List.length (l.take 60)) c8, .int .i64 ((0 + (idG 16 (bitsL (l.take 60))).d : Nat) : Int), .int .i64 (((idG 16 (bitsL (l.take 60))).e : Nat) : Int)] 74), (φ10 0, .cells #[.bool bi9, .pointer pi9] 27), (φ19 0, .cells #[.int .u64 bi18, .pointer pi18] 44), (φ31 0, .cells #[.bool false, .pointer none] 27)]) (fun φ31 => [φ31 0, φ31 0]) s (fun φ31 => by kernel_rfl) (by kernel_rfl) ?_
 intro φ31 w31 s
 refine seqR ?_
 refine oK _ [] 1 [] 0 (fun φ32 => [(57, pB b25)]) (fun φ32 => []) s (fun φ32 => by kernel_rfl) ?_
 intro φ32 w32 s
 refine callB_rule (b := (b25, .cells #[.slice a25 (List.length ([] : List UInt8)) c25, .int .i64 0, .int .i64 6] 74)) (F := []) (Hr := [(φ22 0, .cells #[.slice a23 n23 c23, .int .i64 (((evG 16 (bitsL (l.take 60))).e : Nat) : Int)] 40), (b17, .cells #[.slice a17 (List.length (l.take 60)) c17, .int .i64 ((0 + (evG 16 (bitsL (l.take 60))).d : Nat) : Int), .int .i64 (((evG 16 (bitsL (l.take 60))).e : Nat) : Int)] 74), (φ13 0, .cells #[.slice a14 n14 c14, .int .i64 (((idG 16 (bitsL (l.take 60))).e : Nat) : Int)] 40), (b8, .cells #[.slice a8 (List.length (l.take 60)) c8, .int .i64 ((0 + (idG 16 (bitsL (l.take 60))).d : Nat) : Int), .int .i64 (((idG 16 (bitsL (l.take 60))).e : Nat) : Int)] 74), (φ10 0, .cells #[.bool bi9, .pointer pi9] 27), (φ19 0, .cells #[.int .u64 bi18, .pointer pi18] 44), (φ31 0, .cells #[.bool false, .pointer none] 27)]) (some 58) 0 s (by kernel_rfl) (by kernel_rfl) (getEvErr_c (r := b25) (l := ([] : List UInt8)) (p := 0) (e := 6) hb25 (by decide) (by decide) (by decide)) (by kernel_rfl) ?_
 rintro v33 I33 w33 b33 le33 - h33 s
 replace hT := Ev.Tab.mono le33 hT
 replace h9_0 := Ev.TRep.mono le33 h9_0
 replace h14_0 := Ev.RT.mono le33 h14_0
 replace h18_0 := Ev.ERep.mono le33 h18_0
 replace h23_0 := Ev.RE.mono le33 h23_0
 obtain ⟨rfl, rfl⟩ := h33
 refine oAD _ [] 6 [.o 8, .o 8] 1 (fun φ34 => [(15, .int .i64 6), (14, pB (φ34 0)), (60, .int .i64 6), (59, .agg #[.int .u64 0, .pointer none]), (56, .tuple #[.agg #[.int .u64 0, .pointer none], .int .i64 6])]) (fun φ34 => [(b25, .cells #[.slice a25 (List.length ([] : List UInt8)) c25, .int .i64 0, .int .i64 6] 74), (φ22 0, .cells #[.slice a23 n23 c23, .int .i64 (((evG 16 (bitsL (l.take 60))).e : Nat) : Int)] 40), (b17, .cells #[.slice a17 (List.length (l.take 60)) c17, .int .i64 ((0 + (evG 16 (bitsL (l.take 60))).d : Nat) : Int), .int .i64 (((evG 16 (bitsL (l.take 60))).e : Nat) : Int)] 74), (φ13 0, .cells #[.slice a14 n14 c14, .int .i64 (((idG 16 (bitsL (l.take 60))).e : Nat) : Int)] 40), (b8, .cells #[.slice a8 (List.length (l.take 60)) c8, .int .i64 ((0 + (idG 16 (bitsL (l.take 60))).d : Nat) : Int), .int .i64 (((idG 16 (bitsL (l.take 60))).e : Nat) : Int)] 74), (φ10 0, .cells #[.bool bi9, .pointer pi9] 27), (φ19 0, .cells #[.int .u64 bi18, .pointer pi18] 44), (φ31 0, .cells #[.bool false, .pointer none] 27), (φ34 0, .cells #[.int .u64 0, .pointer none] 44)]) (fun φ34 => [φ34 0, φ34 0]) s (fun φ34 => by kernel_rfl) (by kernel_rfl) ?_
 intro φ34 w34 s
 refine seqR ?_
 refine oK _ [] 4 [] 0 (fun φ35 => [(64, .bool ((((idG 16 (bitsL (l.take 60))).er : Nat) : Int) == (((idG 16 (bitsL (l.take 60))).er : Nat) : Int))), (63, .bool ((((idG 16 (bitsL (l.take 60))).er : Nat) : Int) == (((idG 16 (bitsL (l.take 60))).er : Nat) : Int))), (62, .int .i64 (((idG 16 (bitsL (l.take 60))).er : Nat) : Int)), (61, .int .i64 (((idG 16 (bitsL (l.take 60))).er : Nat) : Int))]) (fun φ35 => []) s (fun φ35 => by kernel_rfl) ?_
 intro φ35 w35 s
 rw [(nat_eql (a := ((idG 16 (bitsL (l.take 60))).er)) (b := ((idG 16 (bitsL (l.take 60))).er))).trans (decide_eq_true rfl)]
 refine oK _ [] 1 [.o 5, .o 5] 0 (fun φ36 => [(65, .agg #[.bool bi9, .pointer pi9])]) (fun φ36 => [φ10 0, φ10 0]) s (fun φ36 => by kernel_rfl) ?_
 intro φ36 w36 s
 refine call_rule (some 66) s (Ev.idtext_c h9_0 hlT) (by kernel_rfl) ?_
 intro v37 I37 w37 le37 h37 s
 replace hT := Ev.Tab.mono le37 hT
 replace h14_0 := Ev.RT.mono le37 h14_0
 replace h18_0 := Ev.ERep.mono le37 h18_0
 replace h23_0 := Ev.RE.mono le37 h23_0
 obtain rfl := h37
 refine oK _ [] 1 [] 0 (fun φ38 => [(67, pB k14)]) (fun φ38 => []) s (fun φ38 => by kernel_rfl) ?_
 intro φ38 w38 s
 refine call_rule (some 68) s (Ev.rtext_c _ h14_0 hlT) (by kernel_rfl) ?_
 intro v39 I39 w39 le39 h39 s
 replace hT := Ev.Tab.mono le39 hT
 replace h18_0 := Ev.ERep.mono le39 h18_0
 replace h23_0 := Ev.RE.mono le39 h23_0
 obtain rfl := h39
 refine oK _ [] 3 [] 0 (fun φ40 => [(71, .bool ((⟨(Ev.textT (idG 16 (bitsL (l.take 60))).t).toArray⟩ : ByteArray).toList == (⟨(Ev.textT (idG 16 (bitsL (l.take 60))).t).toArray⟩ : ByteArray).toList)), (70, .bool ((⟨(Ev.textT (idG 16 (bitsL (l.take 60))).t).toArray⟩ : ByteArray).toList == (⟨(Ev.textT (idG 16 (bitsL (l.take 60))).t).toArray⟩ : ByteArray).toList)), (69, .bool ((⟨(Ev.textT (idG 16 (bitsL (l.take 60))).t).toArray⟩ : ByteArray).toList == (⟨(Ev.textT (idG 16 (bitsL (l.take 60))).t).toArray⟩ : ByteArray).toList))]) (fun φ40 => []) s (fun φ40 => by kernel_rfl) ?_
 intro φ40 w40 s
 rw [beq_self_eq_true _]
 refine oK _ [] 5 [] 0 (fun φ41 => [(76, .bool ((((evG 16 (bitsL (l.take 60))).er : Nat) : Int) == (((evG 16 (bitsL (l.take 60))).er : Nat) : Int))), (75, .bool ((((evG 16 (bitsL (l.take 60))).er : Nat) : Int) == (((evG 16 (bitsL (l.take 60))).er : Nat) : Int))), (74, .bool ((((evG 16 (bitsL (l.take 60))).er : Nat) : Int) == (((evG 16 (bitsL (l.take 60))).er : Nat) : Int))), (73, .int .i64 (((evG 16 (bitsL (l.take 60))).er : Nat) : Int)), (72, .int .i64 (((evG 16 (bitsL (l.take 60))).er : Nat) : Int))]) (fun φ41 => []) s (fun φ41 => by kernel_rfl) ?_
 intro φ41 w41 s
 rw [(nat_eql (a := ((evG 16 (bitsL (l.take 60))).er)) (b := ((evG 16 (bitsL (l.take 60))).er))).trans (decide_eq_true rfl)]
 refine oK _ [] 1 [.o 6, .o 6] 0 (fun φ42 => [(77, .agg #[.int .u64 bi18, .pointer pi18])]) (fun φ42 => [φ19 0, φ19 0]) s (fun φ42 => by kernel_rfl) ?_
 intro φ42 w42 s
 refine call_rule (some 78) s (Ev.text_c hT h18_0 htp hlE) (by kernel_rfl) ?_
 intro v43 I43 w43 le43 h43 s
 replace h23_0 := Ev.RE.mono le43 h23_0
 obtain rfl := h43
 refine oK _ [] 1 [] 0 (fun φ44 => [(79, pB k23)]) (fun φ44 => []) s (fun φ44 => by kernel_rfl) ?_
 intro φ44 w44 s
 refine call_rule (some 80) s (Ev.etext_c _ h23_0 htp hlE) (by kernel_rfl) ?_
 intro v45 I45 w45 le45 h45 s
 obtain rfl := h45
 refine oK _ [] 3 [] 0 (fun φ46 => [(83, .bool ((⟨(Ev.textE (evG 16 (bitsL (l.take 60))).t).toArray⟩ : ByteArray).toList == (⟨(Ev.textE (evG 16 (bitsL (l.take 60))).t).toArray⟩ : ByteArray).toList)), (82, .bool ((⟨(Ev.textE (evG 16 (bitsL (l.take 60))).t).toArray⟩ : ByteArray).toList == (⟨(Ev.textE (evG 16 (bitsL (l.take 60))).t).toArray⟩ : ByteArray).toList)), (81, .bool ((⟨(Ev.textE (evG 16 (bitsL (l.take 60))).t).toArray⟩ : ByteArray).toList == (⟨(Ev.textE (evG 16 (bitsL (l.take 60))).t).toArray⟩ : ByteArray).toList))]) (fun φ46 => []) s (fun φ46 => by kernel_rfl) ?_
 intro φ46 w46 s
 rw [beq_self_eq_true _]
 refine oKD _ [] 8 [] 0 (fun φ47 => [(2, .bool true), (90, .bool true), (89, .bool true), (88, .int .i64 6), (87, .bool true), (86, .bool true), (85, .bool true), (84, .int .i64 6)]) (fun φ47 => []) s (fun φ47 => by kernel_rfl) (by kernel_rfl) ?_
 intro φ47 w47 s
 refine wp_ret ?_
 refine ret_rule (C := []) _ [] (.bool true) [] [] s trivial (by kernel_rfl) ?_
 exact ⟨_, _, _, rfl, s, rfl⟩

end Go.Proofs.YtgmigcmhnmmdkaaDoor
/- A slice of bytes that came in, as the contracts want it. -/
set_option linter.all false
namespace Go.Proofs.YtgmigcmhnmmdkaaDoor
open Go.RowKit Go.Sep

theorem u8_nat {z : Int} (h : (Lit.int .u8 z).wf = true) : z = (((UInt8.ofNat z.toNat).toNat : Nat) : Int) := by
  have hb : 0 ≤ z ∧ z < 256 := by
    have := h; simp [Lit.wf, IntKind.min, IntKind.max, IntKind.signed, IntKind.bits] at this; omega
  rw [UInt8.toNat_ofNat']
  omega
theorem cell_block {w : World} {b o : Nat} {v : Value} (h : w.cell? ⟨b, o, none⟩ = some v) : ∃ cs T fr, w.heap[b]? = some (.cells cs T fr) ∧ cs[o]? = some v := by
  unfold World.cell? at h
  cases hb : w.heap[b]? with
  | none => simp [hb] at h
  | some ob =>
    cases ob <;> simp [hb] at h
    exact ⟨_, _, _, rfl, h⟩
theorem bslI_row {w : World} {a : Option Addr} {len cap : Nat} {zs : List Int}
    (h : (a = none ∧ len = 0 ∧ cap = 0 ∧ zs = []) ∨ ∃ x, a = some x ∧ len ≤ cap ∧ cap ≤ maxLen ∧ zs.length = cap ∧ (∀ i, i < zs.length → w.cell? (x.add i) = some (.int .u8 (zs.getD i 0))) ∧ ∀ n ∈ zs, (Lit.int .u8 n).wf = true) :
    ∃ l, BSl (fun k => w.heap[k]?) l (.slice a len cap) := by
  rcases h with ⟨rfl, rfl, rfl, rfl⟩ | ⟨x, rfl, hl, hm, hz, hc, hw⟩
  · exact ⟨[], bsl_nil _⟩
  · refine ⟨(zs.take len).map fun z => UInt8.ofNat z.toNat, some x, cap, by rw [List.length_map, List.length_take, Nat.min_eq_left (show len ≤ zs.length by omega)], by rw [List.length_map, List.length_take]; omega, fun j y hj => ?_⟩
    rw [List.getElem?_map, Option.map_eq_some_iff] at hj
    obtain ⟨z, hz1, rfl⟩ := hj
    rw [List.getElem?_take] at hz1
    split at hz1
    · have hjl : j < zs.length := (List.getElem?_eq_some_iff.1 hz1).1
      have h1 := hc j hjl
      have h2 : zs.getD j 0 = z := by simp [hz1]
      rw [h2] at h1
      obtain ⟨b, o, sp⟩ := x
      cases sp with
      | none =>
        have : (⟨b, o, none⟩ : Addr).add j = ⟨b, o + j, none⟩ := by unfold Addr.add; split <;> simp_all
        rw [this] at h1
        obtain ⟨cs, T, fr, e1, e2⟩ := cell_block h1
        refine ⟨b, o, cs, T, fr, rfl, e1, ?_⟩
        rw [← u8_nat (hw z (List.mem_of_getElem? hz1))]; exact e2
      | some sp =>
        exfalso
        have h0 := hc 0 (by omega)
        unfold World.cell? Addr.add at h0
        rw [if_pos rfl] at h0
        revert h0
        split <;> simp
    · cases hz1
end Go.Proofs.YtgmigcmhnmmdkaaDoor
/- What the laid tables give. -/
set_option linter.all false
set_option maxRecDepth 100000
namespace Go.Proofs.YtgmigcmhnmmdkaaDoor
open Go.RowKit Go.Sep
theorem ownKnob_none : ownKnob Tryd.prog.godebug = none := by kernel_rfl
abbrev laidT : List (String × DataW Unit) := Rows.codePartsRow.laid
theorem tabIs_of_laid {W : World} (h : laidMetH Tryd.prog laidT W) : Lib.TabIs Tryd.prog W "internal/strconv.uint64pow10" .u64 Lib.pow10Tab := by
  rw [MakeChecks.laidMetH_plain _ _ _ (by kernel_rfl)] at h
  have h2 := laidMet.tail (laidMet.tail h)
  exact Lib.tabIs_of_head (g := 2) (t := 168) (n := 20) (e := 41) (by kernel_rfl) (by kernel_rfl) (by kernel_rfl) (by kernel_rfl) (by kernel_rfl) (by kernel_rfl) h2
theorem tab_of_laid {W : World} (h : laidMetH Tryd.prog laidT W) : Ev.Tab (fun k => W.heap[k]?) := fun w hw => by
  have := tabIs_of_laid h
  unfold Lib.TabIs World.var? at this ⊢
  cases hg : Tryd.prog.globalNamed "internal/strconv.uint64pow10" with
  | none => rw [hg] at this; exact this
  | some g =>
    rw [hg] at this
    simp only [Option.bind_some] at this ⊢
    cases ho : W.heap[g]? with
    | none => rw [ho] at this; cases this
    | some o => rw [hw g o ho]; rw [ho] at this; exact this
theorem met_wit (os : Os) (args : Array Value) : laidMetH Tryd.prog laidT ((World.laidAll Tryd.prog os laidT).forCall (fun _ _ => 0) ⟨#[], args, []⟩).memory := by
  rw [MakeChecks.laidMetH_plain _ _ _ (by kernel_rfl)]; exact laidMet_laidAll _ (by kernel_rfl) (by kernel_rfl)
end Go.Proofs.YtgmigcmhnmmdkaaDoor
