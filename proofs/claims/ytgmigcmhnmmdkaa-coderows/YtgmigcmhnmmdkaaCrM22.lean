/- Events are read. -/
import Derived.Test.YtgmigcmhnmmdkaaCrK11
import Derived.Test.YtgmigcmhnmmdkaaCrM20
import Derived.Test.YtgmigcmhnmmdkaaCrM14
set_option linter.all false
set_option maxRecDepth 100000
namespace Go.Proofs.Ytgmigcmhnmmdkaa
open Go.RowKit Go.Sep
attribute [local irreducible] Go.wpList Go.Code.wp

set_option maxHeartbeats 4000000 in
theorem node_c {I : IM} {l : List UInt8} {a : Option Addr} {c : Nat} {r p e : Nat} {B : List Bool} (hl : BSl I l (.slice a l.length c)) (hn9 : l.length ≤ 1000000) (hp : p ≤ l.length * 8) (hB : (bitsL l).drop p = B) (he : e = 0) {g : List Bool → Rd Ev.E} (hg : OkE g) {deep : Nat} (hdp : deep ≤ 16) (ih : ∀ {J : IM} {p e : Nat} {B : List Bool}, BSl J l (.slice a l.length c) → p ≤ l.length * 8 → (bitsL l).drop p = B → e = 0 → FunM Try.prog 60 #[.agg #[.pointer (some ⟨r, 0, none⟩)], .int .i64 ((deep + 1 : Nat) : Int)] J [(r, .cells #[.slice a l.length c, .int .i64 ((p : Nat) : Int), .int .i64 ((e : Nat) : Int)] 102)] (fun v J H' => ∃ b' : OB, H' = [b'] ∧ b'.1 = r ∧ ∃ bi pi, v = .tuple #[.agg #[.int .u64 ((bi : Nat) : Int), .pointer pi], .int .i64 (((g B).er : Nat) : Int)] ∧ b' = (r, .cells #[.slice a l.length c, .int .i64 ((p + (g B).d : Nat) : Int), .int .i64 (((g B).e : Nat) : Int)] 102) ∧ Ev.ERep J (g B).t bi pi)) : FunM Try.prog 86 #[.agg #[.pointer (some ⟨r, 0, none⟩)], .int .i64 ((deep : Nat) : Int)] I [(r, .cells #[.slice a l.length c, .int .i64 ((p : Nat) : Int), .int .i64 ((e : Nat) : Int)] 102)] (fun v J H' => ∃ b' : OB, H' = [b'] ∧ b'.1 = r ∧ ∃ bi pi, v = .tuple #[.agg #[.int .u64 ((bi : Nat) : Int), .pointer pi], .int .i64 (((ndG g B).er : Nat) : Int)] ∧ b' = (r, .cells #[.slice a l.length c, .int .i64 ((p + (ndG g B).d : Nat) : Int), .int .i64 (((ndG g B).e : Nat) : Int)] 102) ∧ Ev.ERep J (ndG g B).t bi pi) := by
 refine enterM_rule 56 [(0, .agg #[.pointer (some ⟨r, 0, none⟩)]), (1, .int .i64 ((deep : Nat) : Int))] Try.func86 rfl (by kernel_rfl) ?_
 intro w s
 refine wp_seq ?_
 refine region_rule ?_
 refine ops_rule (C := []) [(r, .cells #[.slice a l.length c, .int .i64 ((p : Nat) : Int), .int .i64 ((e : Nat) : Int)] 102)] [] 3 [] 2 (fun φ1 => [(5, .int .i64 0), (4, .pointer (some ⟨(φ1 1), 0, none⟩)), (2, .pointer (some ⟨(φ1 0), 0, none⟩))]) (fun φ1 => [(r, .cells #[.slice a l.length c, .int .i64 ((p : Nat) : Int), .int .i64 ((e : Nat) : Int)] 102), ((φ1 0), .cells #[.pointer (some ⟨r, 0, none⟩)] 104), ((φ1 1), .cells #[.int .u64 0, .pointer none] 30)]) (fun φ1 => []) s trivial (fun φ1 => by kernel_rfl) ?_
 intro φ1 w1 s
 refine ops_done (by kernel_rfl) ?_
 refine wp_seq ?_
 refine region_rule ?_
 refine ops_rule (C := []) [(r, .cells #[.slice a l.length c, .int .i64 ((p : Nat) : Int), .int .i64 ((e : Nat) : Int)] 102), ((φ1 0), .cells #[.pointer (some ⟨r, 0, none⟩)] 104), ((φ1 1), .cells #[.int .u64 0, .pointer none] 30)] [] 1 [.o 1] 0 (fun φ2 => [(12, .agg #[.pointer (some ⟨r, 0, none⟩)])]) (fun φ2 => [(r, .cells #[.slice a l.length c, .int .i64 ((p : Nat) : Int), .int .i64 ((e : Nat) : Int)] 102), ((φ1 0), .cells #[.pointer (some ⟨r, 0, none⟩)] 104), ((φ1 1), .cells #[.int .u64 0, .pointer none] 30)]) (fun φ2 => [(φ1 0)]) s trivial (fun φ2 => by kernel_rfl) ?_
 intro φ2 w2 s
 refine callB_rule (b := (r, .cells #[.slice a l.length c, .int .i64 ((p : Nat) : Int), .int .i64 ((e : Nat) : Int)] 102)) (H := [(r, .cells #[.slice a l.length c, .int .i64 ((p : Nat) : Int), .int .i64 ((e : Nat) : Int)] 102), ((φ1 0), .cells #[.pointer (some ⟨r, 0, none⟩)] 104), ((φ1 1), .cells #[.int .u64 0, .pointer none] 30)]) (F := []) (Hr := [((φ1 0), .cells #[.pointer (some ⟨r, 0, none⟩)] 104), ((φ1 1), .cells #[.int .u64 0, .pointer none] 30)]) (some 13) 0 s (by kernel_rfl) (by kernel_rfl) (head_c (r := r) (p := p) (B := B) hl hn9 hp hB he) (by kernel_rfl) ?_
 rintro v4 I4 w4 b4 le4 - h4 s
 replace hl := BSl.mono le4 hl
 obtain ⟨rfl, rfl⟩ := h4
 have hB3 := next_B (d := (hdG B).d) hB
 have hp3 := next_p (d := (hdG B).d) hp hB (hd_d _)
 refine ops_rule (C := []) [(r, .cells #[.slice a l.length c, .int .i64 ((p + ((hdG B).d) : Nat) : Int), .int .i64 (((hdG B).e : Nat) : Int)] 102), ((φ1 0), .cells #[.pointer (some ⟨r, 0, none⟩)] 104), ((φ1 1), .cells #[.int .u64 0, .pointer none] 30)] [] 7 [] 0 (fun φ5 => [(8, .int .i64 (((hdG B).er : Nat) : Int)), (7, .int .u64 (((hdG B).n : Nat) : Int)), (6, .int .u64 (((hdG B).k : Nat) : Int)), (16, .int .i64 (((hdG B).er : Nat) : Int)), (15, .int .u64 (((hdG B).n : Nat) : Int)), (14, .int .u64 (((hdG B).k : Nat) : Int)), (11, .tuple #[.int .u64 (((hdG B).k : Nat) : Int), .int .u64 (((hdG B).n : Nat) : Int), .int .i64 (((hdG B).er : Nat) : Int)])]) (fun φ5 => [(r, .cells #[.slice a l.length c, .int .i64 ((p + ((hdG B).d) : Nat) : Int), .int .i64 (((hdG B).e : Nat) : Int)] 102), ((φ1 0), .cells #[.pointer (some ⟨r, 0, none⟩)] 104), ((φ1 1), .cells #[.int .u64 0, .pointer none] 30)]) (fun φ5 => []) s trivial (fun φ5 => by kernel_rfl) ?_
 intro φ5 w5 s
 refine ops_done (by kernel_rfl) ?_
 refine wp_seq ?_
 refine wp_seq ?_
 refine region_rule ?_
 refine ops_rule (C := []) [(r, .cells #[.slice a l.length c, .int .i64 ((p + ((hdG B).d) : Nat) : Int), .int .i64 (((hdG B).e : Nat) : Int)] 102), ((φ1 0), .cells #[.pointer (some ⟨r, 0, none⟩)] 104), ((φ1 1), .cells #[.int .u64 0, .pointer none] 30)] [] 2 [] 0 (fun φ6 => [(18, .bool ((((hdG B).er : Nat) : Int) != ((0 : Nat) : Int))), (17, .int .i64 (((hdG B).er : Nat) : Int))]) (fun φ6 => [(r, .cells #[.slice a l.length c, .int .i64 ((p + ((hdG B).d) : Nat) : Int), .int .i64 (((hdG B).e : Nat) : Int)] 102), ((φ1 0), .cells #[.pointer (some ⟨r, 0, none⟩)] 104), ((φ1 1), .cells #[.int .u64 0, .pointer none] 30)]) (fun φ6 => []) s trivial (fun φ6 => by kernel_rfl) ?_
 intro φ6 w6 s
 rw [nat_neq (a := ((hdG B).er)) (b := 0)]
 refine ops_done (by kernel_rfl) ?_
 rcases Bool.eq_false_or_eq_true (decide (((hdG B).er) ≠ 0)) with hc7 | hc7
 ·
  rw [hc7]
  refine cond_true_rule (b := true) (by kernel_rfl) rfl ?_
  refine wp_seq ?_
  refine region_rule ?_
  refine ops_rule (C := []) [(r, .cells #[.slice a l.length c, .int .i64 ((p + ((hdG B).d) : Nat) : Int), .int .i64 (((hdG B).e : Nat) : Int)] 102), ((φ1 0), .cells #[.pointer (some ⟨r, 0, none⟩)] 104), ((φ1 1), .cells #[.int .u64 0, .pointer none] 30)] [] 4 [.o 2, .o 2] 0 (fun φ8 => [(5, .int .i64 (((hdG B).er : Nat) : Int)), (20, .int .i64 (((hdG B).er : Nat) : Int)), (19, .agg #[.int .u64 0, .pointer none])]) (fun φ8 => [(r, .cells #[.slice a l.length c, .int .i64 ((p + ((hdG B).d) : Nat) : Int), .int .i64 (((hdG B).e : Nat) : Int)] 102), ((φ1 0), .cells #[.pointer (some ⟨r, 0, none⟩)] 104), ((φ1 1), .cells #[.int .u64 0, .pointer none] 30)]) (fun φ8 => [(φ1 1), (φ1 1)]) s trivial (fun φ8 => by kernel_rfl) ?_
  intro φ8 w8 s
  refine ops_done (by kernel_rfl) ?_
  refine wp_ret ?_
  refine ret_rule (C := []) [(r, .cells #[.slice a l.length c, .int .i64 ((p + ((hdG B).d) : Nat) : Int), .int .i64 (((hdG B).e : Nat) : Int)] 102), ((φ1 0), .cells #[.pointer (some ⟨r, 0, none⟩)] 104), ((φ1 1), .cells #[.int .u64 0, .pointer none] 30)] [] (.tuple #[.agg #[.int .u64 0, .pointer none], .int .i64 (((hdG B).er : Nat) : Int)]) [.o 2, .o 2] [(φ1 1), (φ1 1)] s trivial (by kernel_rfl) ?_
  replace s := s.drop (List.Sublist.append (List.Sublist.cons₂ _ (List.Sublist.cons _ (List.Sublist.cons _ List.Sublist.slnil))) (List.Sublist.refl []))
  have e9 : ndG g B = ⟨(Ev.E.leaf 0), (hdG B).er, ((hdG B).d), (hdG B).e⟩ := by unfold ndG; rw [if_pos (of_decide_eq_true hc7)]
  exact ⟨_, _, _, rfl, s, (by rw [e9]; exact ⟨_, rfl, rfl, _, _, rfl, (by simp only [Nat.add_assoc, Nat.add_zero]), (Ev.ERep.lf _ 0)⟩)⟩
 ·
  rw [hc7]
  refine cond_false_rule (b := false) (by kernel_rfl) rfl ?_
  refine wp_skip ?_
  refine wp_seq ?_
  refine region_rule ?_
  refine ops_rule (C := []) [(r, .cells #[.slice a l.length c, .int .i64 ((p + ((hdG B).d) : Nat) : Int), .int .i64 (((hdG B).e : Nat) : Int)] 102), ((φ1 0), .cells #[.pointer (some ⟨r, 0, none⟩)] 104), ((φ1 1), .cells #[.int .u64 0, .pointer none] 30)] [] 8 [.o 1] 0 (fun φ9 => [(29, .func (.func 60) #[.agg #[.pointer (some ⟨r, 0, none⟩)]] #[]), (28, .agg #[.pointer (some ⟨r, 0, none⟩)]), (27, .int .i64 (IntKind.wrap .i64 (((deep : Nat) : Int) + ((1 : Nat) : Int)))), (26, .int .i64 ((deep : Nat) : Int)), (25, .bool ((((hdG B).k : Nat) : Int) != ((1 : Nat) : Int))), (24, .int .u64 (((hdG B).k : Nat) : Int)), (23, .bool ((((hdG B).k : Nat) : Int) != ((0 : Nat) : Int))), (22, .int .u64 (((hdG B).k : Nat) : Int))]) (fun φ9 => [(r, .cells #[.slice a l.length c, .int .i64 ((p + ((hdG B).d) : Nat) : Int), .int .i64 (((hdG B).e : Nat) : Int)] 102), ((φ1 0), .cells #[.pointer (some ⟨r, 0, none⟩)] 104), ((φ1 1), .cells #[.int .u64 0, .pointer none] 30)]) (fun φ9 => [(φ1 0)]) s trivial (fun φ9 => by kernel_rfl) ?_
  intro φ9 w9 s
  rw [nat_neq (a := ((hdG B).k)) (b := 0)]
  rw [nat_neq (a := ((hdG B).k)) (b := 1)]
  rw [nat_addI (a := deep) (b := 1) (by  have hq0 := of_decide_eq_false hc7; omega)]
  refine callB_rule (b := (r, .cells #[.slice a l.length c, .int .i64 ((p + ((hdG B).d) : Nat) : Int), .int .i64 (((hdG B).e : Nat) : Int)] 102)) (H := [(r, .cells #[.slice a l.length c, .int .i64 ((p + ((hdG B).d) : Nat) : Int), .int .i64 (((hdG B).e : Nat) : Int)] 102), ((φ1 0), .cells #[.pointer (some ⟨r, 0, none⟩)] 104), ((φ1 1), .cells #[.int .u64 0, .pointer none] 30)]) (F := []) (Hr := [((φ1 0), .cells #[.pointer (some ⟨r, 0, none⟩)] 104), ((φ1 1), .cells #[.int .u64 0, .pointer none] 30)]) (some 30) 0 s (by kernel_rfl) (by kernel_rfl) (halvesE_c (r := r) (p := p + ((hdG B).d)) (B := (B.drop ((hdG B).d))) hl hn9 hp3 hB3 (hd_e _ (Decidable.not_not.1 (of_decide_eq_false hc7))) hg (deep := deep + 1) ih (xa := decide (((hdG B).k) ≠ 0)) (xb := decide (((hdG B).k) ≠ 1))) (by kernel_rfl) ?_
  rintro v11 I11 w11 b11 le11 - h11 s
  obtain ⟨b111, p111, b211, p211, rfl, rfl, h11_0, h11_1⟩ := h11
  have hB10 := next_B (d := (hvG g (Ev.E.leaf 0) (decide (((hdG B).k) ≠ 0)) (decide (((hdG B).k) ≠ 1)) (B.drop ((hdG B).d))).d) hB3
  have hp10 := next_p (d := (hvG g (Ev.E.leaf 0) (decide (((hdG B).k) ≠ 0)) (decide (((hdG B).k) ≠ 1)) (B.drop ((hdG B).d))).d) hp3 hB3 (hv_d hg zE)
  refine ops_rule (C := []) [(r, .cells #[.slice a l.length c, .int .i64 ((p + ((hdG B).d) + ((hvG g (Ev.E.leaf 0) (decide (((hdG B).k) ≠ 0)) (decide (((hdG B).k) ≠ 1)) (B.drop ((hdG B).d))).d) : Nat) : Int), .int .i64 (((hvG g (Ev.E.leaf 0) (decide (((hdG B).k) ≠ 0)) (decide (((hdG B).k) ≠ 1)) (B.drop ((hdG B).d))).e : Nat) : Int)] 102), ((φ1 0), .cells #[.pointer (some ⟨r, 0, none⟩)] 104), ((φ1 1), .cells #[.int .u64 0, .pointer none] 30)] [] 9 [.o 3, .o 3, .o 4, .o 4] 2 (fun φ12 => [(8, .int .i64 (((hvG g (Ev.E.leaf 0) (decide (((hdG B).k) ≠ 0)) (decide (((hdG B).k) ≠ 1)) (B.drop ((hdG B).d))).er : Nat) : Int)), (10, .pointer (some ⟨(φ12 1), 0, none⟩)), (9, .pointer (some ⟨(φ12 0), 0, none⟩)), (33, .int .i64 (((hvG g (Ev.E.leaf 0) (decide (((hdG B).k) ≠ 0)) (decide (((hdG B).k) ≠ 1)) (B.drop ((hdG B).d))).er : Nat) : Int)), (32, .agg #[.int .u64 ((b211 : Nat) : Int), .pointer p211]), (31, .agg #[.int .u64 ((b111 : Nat) : Int), .pointer p111]), (21, .tuple #[.agg #[.int .u64 ((b111 : Nat) : Int), .pointer p111], .agg #[.int .u64 ((b211 : Nat) : Int), .pointer p211], .int .i64 (((hvG g (Ev.E.leaf 0) (decide (((hdG B).k) ≠ 0)) (decide (((hdG B).k) ≠ 1)) (B.drop ((hdG B).d))).er : Nat) : Int)])]) (fun φ12 => [(r, .cells #[.slice a l.length c, .int .i64 ((p + ((hdG B).d) + ((hvG g (Ev.E.leaf 0) (decide (((hdG B).k) ≠ 0)) (decide (((hdG B).k) ≠ 1)) (B.drop ((hdG B).d))).d) : Nat) : Int), .int .i64 (((hvG g (Ev.E.leaf 0) (decide (((hdG B).k) ≠ 0)) (decide (((hdG B).k) ≠ 1)) (B.drop ((hdG B).d))).e : Nat) : Int)] 102), ((φ1 0), .cells #[.pointer (some ⟨r, 0, none⟩)] 104), ((φ1 1), .cells #[.int .u64 0, .pointer none] 30), ((φ12 0), .cells #[.int .u64 ((b111 : Nat) : Int), .pointer p111] 30), ((φ12 1), .cells #[.int .u64 ((b211 : Nat) : Int), .pointer p211] 30)]) (fun φ12 => [(φ12 0), (φ12 0), (φ12 1), (φ12 1)]) s trivial (fun φ12 => by kernel_rfl) ?_
  intro φ12 w12 s
  refine ops_done (by kernel_rfl) ?_
  refine wp_seq ?_
  refine wp_seq ?_
  refine region_rule ?_
  refine ops_rule (C := []) [(r, .cells #[.slice a l.length c, .int .i64 ((p + ((hdG B).d) + ((hvG g (Ev.E.leaf 0) (decide (((hdG B).k) ≠ 0)) (decide (((hdG B).k) ≠ 1)) (B.drop ((hdG B).d))).d) : Nat) : Int), .int .i64 (((hvG g (Ev.E.leaf 0) (decide (((hdG B).k) ≠ 0)) (decide (((hdG B).k) ≠ 1)) (B.drop ((hdG B).d))).e : Nat) : Int)] 102), ((φ1 0), .cells #[.pointer (some ⟨r, 0, none⟩)] 104), ((φ1 1), .cells #[.int .u64 0, .pointer none] 30), ((φ12 0), .cells #[.int .u64 ((b111 : Nat) : Int), .pointer p111] 30), ((φ12 1), .cells #[.int .u64 ((b211 : Nat) : Int), .pointer p211] 30)] [] 2 [] 0 (fun φ13 => [(35, .bool ((((hvG g (Ev.E.leaf 0) (decide (((hdG B).k) ≠ 0)) (decide (((hdG B).k) ≠ 1)) (B.drop ((hdG B).d))).er : Nat) : Int) != ((0 : Nat) : Int))), (34, .int .i64 (((hvG g (Ev.E.leaf 0) (decide (((hdG B).k) ≠ 0)) (decide (((hdG B).k) ≠ 1)) (B.drop ((hdG B).d))).er : Nat) : Int))]) (fun φ13 => [(r, .cells #[.slice a l.length c, .int .i64 ((p + ((hdG B).d) + ((hvG g (Ev.E.leaf 0) (decide (((hdG B).k) ≠ 0)) (decide (((hdG B).k) ≠ 1)) (B.drop ((hdG B).d))).d) : Nat) : Int), .int .i64 (((hvG g (Ev.E.leaf 0) (decide (((hdG B).k) ≠ 0)) (decide (((hdG B).k) ≠ 1)) (B.drop ((hdG B).d))).e : Nat) : Int)] 102), ((φ1 0), .cells #[.pointer (some ⟨r, 0, none⟩)] 104), ((φ1 1), .cells #[.int .u64 0, .pointer none] 30), ((φ12 0), .cells #[.int .u64 ((b111 : Nat) : Int), .pointer p111] 30), ((φ12 1), .cells #[.int .u64 ((b211 : Nat) : Int), .pointer p211] 30)]) (fun φ13 => []) s trivial (fun φ13 => by kernel_rfl) ?_
  intro φ13 w13 s
  rw [nat_neq (a := ((hvG g (Ev.E.leaf 0) (decide (((hdG B).k) ≠ 0)) (decide (((hdG B).k) ≠ 1)) (B.drop ((hdG B).d))).er)) (b := 0)]
  refine ops_done (by kernel_rfl) ?_
  rcases Bool.eq_false_or_eq_true (decide (((hvG g (Ev.E.leaf 0) (decide (((hdG B).k) ≠ 0)) (decide (((hdG B).k) ≠ 1)) (B.drop ((hdG B).d))).er) ≠ 0)) with hc14 | hc14
  ·
   rw [hc14]
   refine cond_true_rule (b := true) (by kernel_rfl) rfl ?_
   refine wp_seq ?_
   refine region_rule ?_
   refine ops_rule (C := []) [(r, .cells #[.slice a l.length c, .int .i64 ((p + ((hdG B).d) + ((hvG g (Ev.E.leaf 0) (decide (((hdG B).k) ≠ 0)) (decide (((hdG B).k) ≠ 1)) (B.drop ((hdG B).d))).d) : Nat) : Int), .int .i64 (((hvG g (Ev.E.leaf 0) (decide (((hdG B).k) ≠ 0)) (decide (((hdG B).k) ≠ 1)) (B.drop ((hdG B).d))).e : Nat) : Int)] 102), ((φ1 0), .cells #[.pointer (some ⟨r, 0, none⟩)] 104), ((φ1 1), .cells #[.int .u64 0, .pointer none] 30), ((φ12 0), .cells #[.int .u64 ((b111 : Nat) : Int), .pointer p111] 30), ((φ12 1), .cells #[.int .u64 ((b211 : Nat) : Int), .pointer p211] 30)] [] 4 [.o 2, .o 2] 0 (fun φ15 => [(5, .int .i64 (((hvG g (Ev.E.leaf 0) (decide (((hdG B).k) ≠ 0)) (decide (((hdG B).k) ≠ 1)) (B.drop ((hdG B).d))).er : Nat) : Int)), (37, .int .i64 (((hvG g (Ev.E.leaf 0) (decide (((hdG B).k) ≠ 0)) (decide (((hdG B).k) ≠ 1)) (B.drop ((hdG B).d))).er : Nat) : Int)), (36, .agg #[.int .u64 0, .pointer none])]) (fun φ15 => [(r, .cells #[.slice a l.length c, .int .i64 ((p + ((hdG B).d) + ((hvG g (Ev.E.leaf 0) (decide (((hdG B).k) ≠ 0)) (decide (((hdG B).k) ≠ 1)) (B.drop ((hdG B).d))).d) : Nat) : Int), .int .i64 (((hvG g (Ev.E.leaf 0) (decide (((hdG B).k) ≠ 0)) (decide (((hdG B).k) ≠ 1)) (B.drop ((hdG B).d))).e : Nat) : Int)] 102), ((φ1 0), .cells #[.pointer (some ⟨r, 0, none⟩)] 104), ((φ1 1), .cells #[.int .u64 0, .pointer none] 30), ((φ12 0), .cells #[.int .u64 ((b111 : Nat) : Int), .pointer p111] 30), ((φ12 1), .cells #[.int .u64 ((b211 : Nat) : Int), .pointer p211] 30)]) (fun φ15 => [(φ1 1), (φ1 1)]) s trivial (fun φ15 => by kernel_rfl) ?_
   intro φ15 w15 s
   refine ops_done (by kernel_rfl) ?_
   refine wp_ret ?_
   refine ret_rule (C := []) [(r, .cells #[.slice a l.length c, .int .i64 ((p + ((hdG B).d) + ((hvG g (Ev.E.leaf 0) (decide (((hdG B).k) ≠ 0)) (decide (((hdG B).k) ≠ 1)) (B.drop ((hdG B).d))).d) : Nat) : Int), .int .i64 (((hvG g (Ev.E.leaf 0) (decide (((hdG B).k) ≠ 0)) (decide (((hdG B).k) ≠ 1)) (B.drop ((hdG B).d))).e : Nat) : Int)] 102), ((φ1 0), .cells #[.pointer (some ⟨r, 0, none⟩)] 104), ((φ1 1), .cells #[.int .u64 0, .pointer none] 30), ((φ12 0), .cells #[.int .u64 ((b111 : Nat) : Int), .pointer p111] 30), ((φ12 1), .cells #[.int .u64 ((b211 : Nat) : Int), .pointer p211] 30)] [] (.tuple #[.agg #[.int .u64 0, .pointer none], .int .i64 (((hvG g (Ev.E.leaf 0) (decide (((hdG B).k) ≠ 0)) (decide (((hdG B).k) ≠ 1)) (B.drop ((hdG B).d))).er : Nat) : Int)]) [.o 2, .o 2] [(φ1 1), (φ1 1)] s trivial (by kernel_rfl) ?_
   replace s := s.drop (List.Sublist.append (List.Sublist.cons₂ _ (List.Sublist.cons _ (List.Sublist.cons _ (List.Sublist.cons _ (List.Sublist.cons _ List.Sublist.slnil))))) (List.Sublist.refl []))
   have e9 : ndG g B = ⟨(Ev.E.leaf 0), (hvG g (Ev.E.leaf 0) (decide (((hdG B).k) ≠ 0)) (decide (((hdG B).k) ≠ 1)) (B.drop ((hdG B).d))).er, ((hdG B).d) + ((hvG g (Ev.E.leaf 0) (decide (((hdG B).k) ≠ 0)) (decide (((hdG B).k) ≠ 1)) (B.drop ((hdG B).d))).d), (hvG g (Ev.E.leaf 0) (decide (((hdG B).k) ≠ 0)) (decide (((hdG B).k) ≠ 1)) (B.drop ((hdG B).d))).e⟩ := by unfold ndG; rw [if_neg (of_decide_eq_false hc7), if_pos (of_decide_eq_true hc14)]
   exact ⟨_, _, _, rfl, s, (by rw [e9]; exact ⟨_, rfl, rfl, _, _, rfl, (by simp only [Nat.add_assoc, Nat.add_zero]), (Ev.ERep.lf _ 0)⟩)⟩
  ·
   rw [hc14]
   refine cond_false_rule (b := false) (by kernel_rfl) rfl ?_
   refine wp_skip ?_
   refine wp_seq ?_
   refine wp_seq ?_
   refine region_rule ?_
   refine ops_rule (C := []) [(r, .cells #[.slice a l.length c, .int .i64 ((p + ((hdG B).d) + ((hvG g (Ev.E.leaf 0) (decide (((hdG B).k) ≠ 0)) (decide (((hdG B).k) ≠ 1)) (B.drop ((hdG B).d))).d) : Nat) : Int), .int .i64 (((hvG g (Ev.E.leaf 0) (decide (((hdG B).k) ≠ 0)) (decide (((hdG B).k) ≠ 1)) (B.drop ((hdG B).d))).e : Nat) : Int)] 102), ((φ1 0), .cells #[.pointer (some ⟨r, 0, none⟩)] 104), ((φ1 1), .cells #[.int .u64 0, .pointer none] 30), ((φ12 0), .cells #[.int .u64 ((b111 : Nat) : Int), .pointer p111] 30), ((φ12 1), .cells #[.int .u64 ((b211 : Nat) : Int), .pointer p211] 30)] [] 2 [.o 3, .o 3, .o 4, .o 4] 0 (fun φ16 => [(39, .agg #[.int .u64 ((b211 : Nat) : Int), .pointer p211]), (38, .agg #[.int .u64 ((b111 : Nat) : Int), .pointer p111])]) (fun φ16 => [(r, .cells #[.slice a l.length c, .int .i64 ((p + ((hdG B).d) + ((hvG g (Ev.E.leaf 0) (decide (((hdG B).k) ≠ 0)) (decide (((hdG B).k) ≠ 1)) (B.drop ((hdG B).d))).d) : Nat) : Int), .int .i64 (((hvG g (Ev.E.leaf 0) (decide (((hdG B).k) ≠ 0)) (decide (((hdG B).k) ≠ 1)) (B.drop ((hdG B).d))).e : Nat) : Int)] 102), ((φ1 0), .cells #[.pointer (some ⟨r, 0, none⟩)] 104), ((φ1 1), .cells #[.int .u64 0, .pointer none] 30), ((φ12 0), .cells #[.int .u64 ((b111 : Nat) : Int), .pointer p111] 30), ((φ12 1), .cells #[.int .u64 ((b211 : Nat) : Int), .pointer p211] 30)]) (fun φ16 => [(φ12 0), (φ12 0), (φ12 1), (φ12 1)]) s trivial (fun φ16 => by kernel_rfl) ?_
   intro φ16 w16 s
   refine call_rule (some 40) s (halvesKind_c h11_0 h11_1 (Nat.lt_of_le_of_lt (hv_s hg zE).1.2 (by decide)) (Nat.lt_of_le_of_lt (hv_s hg zE).2.2 (by decide))) (by kernel_rfl) ?_
   intro v17 I17 w17 le17 h17 s
   replace h11_0 := Ev.ERep.mono le17 h11_0
   replace h11_1 := Ev.ERep.mono le17 h11_1
   obtain rfl := h17
   refine ops_rule (C := []) [(r, .cells #[.slice a l.length c, .int .i64 ((p + ((hdG B).d) + ((hvG g (Ev.E.leaf 0) (decide (((hdG B).k) ≠ 0)) (decide (((hdG B).k) ≠ 1)) (B.drop ((hdG B).d))).d) : Nat) : Int), .int .i64 (((hvG g (Ev.E.leaf 0) (decide (((hdG B).k) ≠ 0)) (decide (((hdG B).k) ≠ 1)) (B.drop ((hdG B).d))).e : Nat) : Int)] 102), ((φ1 0), .cells #[.pointer (some ⟨r, 0, none⟩)] 104), ((φ1 1), .cells #[.int .u64 0, .pointer none] 30), ((φ12 0), .cells #[.int .u64 ((b111 : Nat) : Int), .pointer p111] 30), ((φ12 1), .cells #[.int .u64 ((b211 : Nat) : Int), .pointer p211] 30)] [] 3 [] 0 (fun φ18 => [(43, .bool (((kindE ((hvG g (Ev.E.leaf 0) (decide (((hdG B).k) ≠ 0)) (decide (((hdG B).k) ≠ 1)) (B.drop ((hdG B).d))).l) ((hvG g (Ev.E.leaf 0) (decide (((hdG B).k) ≠ 0)) (decide (((hdG B).k) ≠ 1)) (B.drop ((hdG B).d))).r) : Nat) : Int) != (((hdG B).k : Nat) : Int))), (42, .bool (((kindE ((hvG g (Ev.E.leaf 0) (decide (((hdG B).k) ≠ 0)) (decide (((hdG B).k) ≠ 1)) (B.drop ((hdG B).d))).l) ((hvG g (Ev.E.leaf 0) (decide (((hdG B).k) ≠ 0)) (decide (((hdG B).k) ≠ 1)) (B.drop ((hdG B).d))).r) : Nat) : Int) != (((hdG B).k : Nat) : Int))), (41, .int .u64 (((hdG B).k : Nat) : Int))]) (fun φ18 => [(r, .cells #[.slice a l.length c, .int .i64 ((p + ((hdG B).d) + ((hvG g (Ev.E.leaf 0) (decide (((hdG B).k) ≠ 0)) (decide (((hdG B).k) ≠ 1)) (B.drop ((hdG B).d))).d) : Nat) : Int), .int .i64 (((hvG g (Ev.E.leaf 0) (decide (((hdG B).k) ≠ 0)) (decide (((hdG B).k) ≠ 1)) (B.drop ((hdG B).d))).e : Nat) : Int)] 102), ((φ1 0), .cells #[.pointer (some ⟨r, 0, none⟩)] 104), ((φ1 1), .cells #[.int .u64 0, .pointer none] 30), ((φ12 0), .cells #[.int .u64 ((b111 : Nat) : Int), .pointer p111] 30), ((φ12 1), .cells #[.int .u64 ((b211 : Nat) : Int), .pointer p211] 30)]) (fun φ18 => []) s trivial (fun φ18 => by kernel_rfl) ?_
   intro φ18 w18 s
   rw [nat_neq (a := (kindE ((hvG g (Ev.E.leaf 0) (decide (((hdG B).k) ≠ 0)) (decide (((hdG B).k) ≠ 1)) (B.drop ((hdG B).d))).l) ((hvG g (Ev.E.leaf 0) (decide (((hdG B).k) ≠ 0)) (decide (((hdG B).k) ≠ 1)) (B.drop ((hdG B).d))).r))) (b := ((hdG B).k))]
   rcases Bool.eq_false_or_eq_true (decide ((kindE ((hvG g (Ev.E.leaf 0) (decide (((hdG B).k) ≠ 0)) (decide (((hdG B).k) ≠ 1)) (B.drop ((hdG B).d))).l) ((hvG g (Ev.E.leaf 0) (decide (((hdG B).k) ≠ 0)) (decide (((hdG B).k) ≠ 1)) (B.drop ((hdG B).d))).r)) ≠ ((hdG B).k))) with hc19 | hc19
   ·
    rw [hc19]
    refine ops_rule (C := []) [(r, .cells #[.slice a l.length c, .int .i64 ((p + ((hdG B).d) + ((hvG g (Ev.E.leaf 0) (decide (((hdG B).k) ≠ 0)) (decide (((hdG B).k) ≠ 1)) (B.drop ((hdG B).d))).d) : Nat) : Int), .int .i64 (((hvG g (Ev.E.leaf 0) (decide (((hdG B).k) ≠ 0)) (decide (((hdG B).k) ≠ 1)) (B.drop ((hdG B).d))).e : Nat) : Int)] 102), ((φ1 0), .cells #[.pointer (some ⟨r, 0, none⟩)] 104), ((φ1 1), .cells #[.int .u64 0, .pointer none] 30), ((φ12 0), .cells #[.int .u64 ((b111 : Nat) : Int), .pointer p111] 30), ((φ12 1), .cells #[.int .u64 ((b211 : Nat) : Int), .pointer p211] 30)] [] 5 [] 0 (fun φ20 => [(48, .bool true), (47, undef), (46, undef), (45, undef), (44, undef)]) (fun φ20 => [(r, .cells #[.slice a l.length c, .int .i64 ((p + ((hdG B).d) + ((hvG g (Ev.E.leaf 0) (decide (((hdG B).k) ≠ 0)) (decide (((hdG B).k) ≠ 1)) (B.drop ((hdG B).d))).d) : Nat) : Int), .int .i64 (((hvG g (Ev.E.leaf 0) (decide (((hdG B).k) ≠ 0)) (decide (((hdG B).k) ≠ 1)) (B.drop ((hdG B).d))).e : Nat) : Int)] 102), ((φ1 0), .cells #[.pointer (some ⟨r, 0, none⟩)] 104), ((φ1 1), .cells #[.int .u64 0, .pointer none] 30), ((φ12 0), .cells #[.int .u64 ((b111 : Nat) : Int), .pointer p111] 30), ((φ12 1), .cells #[.int .u64 ((b211 : Nat) : Int), .pointer p211] 30)]) (fun φ20 => []) s trivial (fun φ20 => by kernel_rfl) ?_
    intro φ20 w20 s
    refine ops_done (by kernel_rfl) ?_
    refine cond_true_rule (b := true) (by kernel_rfl) rfl ?_
    refine wp_seq ?_
    refine region_rule ?_
    refine ops_rule (C := []) [(r, .cells #[.slice a l.length c, .int .i64 ((p + ((hdG B).d) + ((hvG g (Ev.E.leaf 0) (decide (((hdG B).k) ≠ 0)) (decide (((hdG B).k) ≠ 1)) (B.drop ((hdG B).d))).d) : Nat) : Int), .int .i64 (((hvG g (Ev.E.leaf 0) (decide (((hdG B).k) ≠ 0)) (decide (((hdG B).k) ≠ 1)) (B.drop ((hdG B).d))).e : Nat) : Int)] 102), ((φ1 0), .cells #[.pointer (some ⟨r, 0, none⟩)] 104), ((φ1 1), .cells #[.int .u64 0, .pointer none] 30), ((φ12 0), .cells #[.int .u64 ((b111 : Nat) : Int), .pointer p111] 30), ((φ12 1), .cells #[.int .u64 ((b211 : Nat) : Int), .pointer p211] 30)] [] 3 [.o 2, .o 2] 0 (fun φ21 => [(5, .int .i64 6), (49, .agg #[.int .u64 0, .pointer none])]) (fun φ21 => [(r, .cells #[.slice a l.length c, .int .i64 ((p + ((hdG B).d) + ((hvG g (Ev.E.leaf 0) (decide (((hdG B).k) ≠ 0)) (decide (((hdG B).k) ≠ 1)) (B.drop ((hdG B).d))).d) : Nat) : Int), .int .i64 (((hvG g (Ev.E.leaf 0) (decide (((hdG B).k) ≠ 0)) (decide (((hdG B).k) ≠ 1)) (B.drop ((hdG B).d))).e : Nat) : Int)] 102), ((φ1 0), .cells #[.pointer (some ⟨r, 0, none⟩)] 104), ((φ1 1), .cells #[.int .u64 0, .pointer none] 30), ((φ12 0), .cells #[.int .u64 ((b111 : Nat) : Int), .pointer p111] 30), ((φ12 1), .cells #[.int .u64 ((b211 : Nat) : Int), .pointer p211] 30)]) (fun φ21 => [(φ1 1), (φ1 1)]) s trivial (fun φ21 => by kernel_rfl) ?_
    intro φ21 w21 s
    refine ops_done (by kernel_rfl) ?_
    refine wp_ret ?_
    refine ret_rule (C := []) [(r, .cells #[.slice a l.length c, .int .i64 ((p + ((hdG B).d) + ((hvG g (Ev.E.leaf 0) (decide (((hdG B).k) ≠ 0)) (decide (((hdG B).k) ≠ 1)) (B.drop ((hdG B).d))).d) : Nat) : Int), .int .i64 (((hvG g (Ev.E.leaf 0) (decide (((hdG B).k) ≠ 0)) (decide (((hdG B).k) ≠ 1)) (B.drop ((hdG B).d))).e : Nat) : Int)] 102), ((φ1 0), .cells #[.pointer (some ⟨r, 0, none⟩)] 104), ((φ1 1), .cells #[.int .u64 0, .pointer none] 30), ((φ12 0), .cells #[.int .u64 ((b111 : Nat) : Int), .pointer p111] 30), ((φ12 1), .cells #[.int .u64 ((b211 : Nat) : Int), .pointer p211] 30)] [] (.tuple #[.agg #[.int .u64 0, .pointer none], .int .i64 6]) [.o 2, .o 2] [(φ1 1), (φ1 1)] s trivial (by kernel_rfl) ?_
    replace s := s.drop (List.Sublist.append (List.Sublist.cons₂ _ (List.Sublist.cons _ (List.Sublist.cons _ (List.Sublist.cons _ (List.Sublist.cons _ List.Sublist.slnil))))) (List.Sublist.refl []))
    have e9 : ndG g B = ⟨(Ev.E.leaf 0), 6, ((hdG B).d) + ((hvG g (Ev.E.leaf 0) (decide (((hdG B).k) ≠ 0)) (decide (((hdG B).k) ≠ 1)) (B.drop ((hdG B).d))).d), (hvG g (Ev.E.leaf 0) (decide (((hdG B).k) ≠ 0)) (decide (((hdG B).k) ≠ 1)) (B.drop ((hdG B).d))).e⟩ := by unfold ndG; rw [if_neg (of_decide_eq_false hc7), if_neg (of_decide_eq_false hc14), if_pos (of_decide_eq_true hc19)]
    exact ⟨_, _, _, rfl, s, (by rw [e9]; exact ⟨_, rfl, rfl, _, _, rfl, (by simp only [Nat.add_assoc, Nat.add_zero]), (Ev.ERep.lf _ 0)⟩)⟩
   ·
    rw [hc19]
    refine ops_rule (C := []) [(r, .cells #[.slice a l.length c, .int .i64 ((p + ((hdG B).d) + ((hvG g (Ev.E.leaf 0) (decide (((hdG B).k) ≠ 0)) (decide (((hdG B).k) ≠ 1)) (B.drop ((hdG B).d))).d) : Nat) : Int), .int .i64 (((hvG g (Ev.E.leaf 0) (decide (((hdG B).k) ≠ 0)) (decide (((hdG B).k) ≠ 1)) (B.drop ((hdG B).d))).e : Nat) : Int)] 102), ((φ1 0), .cells #[.pointer (some ⟨r, 0, none⟩)] 104), ((φ1 1), .cells #[.int .u64 0, .pointer none] 30), ((φ12 0), .cells #[.int .u64 ((b111 : Nat) : Int), .pointer p111] 30), ((φ12 1), .cells #[.int .u64 ((b211 : Nat) : Int), .pointer p211] 30)] [] 2 [.o 3, .o 3, .o 4, .o 4] 0 (fun φ22 => [(45, .agg #[.int .u64 ((b211 : Nat) : Int), .pointer p211]), (44, .agg #[.int .u64 ((b111 : Nat) : Int), .pointer p111])]) (fun φ22 => [(r, .cells #[.slice a l.length c, .int .i64 ((p + ((hdG B).d) + ((hvG g (Ev.E.leaf 0) (decide (((hdG B).k) ≠ 0)) (decide (((hdG B).k) ≠ 1)) (B.drop ((hdG B).d))).d) : Nat) : Int), .int .i64 (((hvG g (Ev.E.leaf 0) (decide (((hdG B).k) ≠ 0)) (decide (((hdG B).k) ≠ 1)) (B.drop ((hdG B).d))).e : Nat) : Int)] 102), ((φ1 0), .cells #[.pointer (some ⟨r, 0, none⟩)] 104), ((φ1 1), .cells #[.int .u64 0, .pointer none] 30), ((φ12 0), .cells #[.int .u64 ((b111 : Nat) : Int), .pointer p111] 30), ((φ12 1), .cells #[.int .u64 ((b211 : Nat) : Int), .pointer p211] 30)]) (fun φ22 => [(φ12 0), (φ12 0), (φ12 1), (φ12 1)]) s trivial (fun φ22 => by kernel_rfl) ?_
    intro φ22 w22 s
    refine call_rule (some 46) s (inForm_c h11_0 h11_1 (Nat.lt_of_le_of_lt (hv_s hg zE).1.2 (by decide)) (Nat.lt_of_le_of_lt (hv_s hg zE).2.2 (by decide))) (by kernel_rfl) ?_
    intro v23 I23 w23 le23 h23 s
    replace h11_0 := Ev.ERep.mono le23 h11_0
    replace h11_1 := Ev.ERep.mono le23 h11_1
    obtain rfl := h23
    refine ops_rule (C := []) [(r, .cells #[.slice a l.length c, .int .i64 ((p + ((hdG B).d) + ((hvG g (Ev.E.leaf 0) (decide (((hdG B).k) ≠ 0)) (decide (((hdG B).k) ≠ 1)) (B.drop ((hdG B).d))).d) : Nat) : Int), .int .i64 (((hvG g (Ev.E.leaf 0) (decide (((hdG B).k) ≠ 0)) (decide (((hdG B).k) ≠ 1)) (B.drop ((hdG B).d))).e : Nat) : Int)] 102), ((φ1 0), .cells #[.pointer (some ⟨r, 0, none⟩)] 104), ((φ1 1), .cells #[.int .u64 0, .pointer none] 30), ((φ12 0), .cells #[.int .u64 ((b111 : Nat) : Int), .pointer p111] 30), ((φ12 1), .cells #[.int .u64 ((b211 : Nat) : Int), .pointer p211] 30)] [] 2 [] 0 (fun φ24 => [(48, .bool (!(inF ((hvG g (Ev.E.leaf 0) (decide (((hdG B).k) ≠ 0)) (decide (((hdG B).k) ≠ 1)) (B.drop ((hdG B).d))).l) ((hvG g (Ev.E.leaf 0) (decide (((hdG B).k) ≠ 0)) (decide (((hdG B).k) ≠ 1)) (B.drop ((hdG B).d))).r)))), (47, .bool (!(inF ((hvG g (Ev.E.leaf 0) (decide (((hdG B).k) ≠ 0)) (decide (((hdG B).k) ≠ 1)) (B.drop ((hdG B).d))).l) ((hvG g (Ev.E.leaf 0) (decide (((hdG B).k) ≠ 0)) (decide (((hdG B).k) ≠ 1)) (B.drop ((hdG B).d))).r))))]) (fun φ24 => [(r, .cells #[.slice a l.length c, .int .i64 ((p + ((hdG B).d) + ((hvG g (Ev.E.leaf 0) (decide (((hdG B).k) ≠ 0)) (decide (((hdG B).k) ≠ 1)) (B.drop ((hdG B).d))).d) : Nat) : Int), .int .i64 (((hvG g (Ev.E.leaf 0) (decide (((hdG B).k) ≠ 0)) (decide (((hdG B).k) ≠ 1)) (B.drop ((hdG B).d))).e : Nat) : Int)] 102), ((φ1 0), .cells #[.pointer (some ⟨r, 0, none⟩)] 104), ((φ1 1), .cells #[.int .u64 0, .pointer none] 30), ((φ12 0), .cells #[.int .u64 ((b111 : Nat) : Int), .pointer p111] 30), ((φ12 1), .cells #[.int .u64 ((b211 : Nat) : Int), .pointer p211] 30)]) (fun φ24 => []) s trivial (fun φ24 => by kernel_rfl) ?_
    intro φ24 w24 s
    refine ops_done (by kernel_rfl) ?_
    rcases Bool.eq_false_or_eq_true (inF ((hvG g (Ev.E.leaf 0) (decide (((hdG B).k) ≠ 0)) (decide (((hdG B).k) ≠ 1)) (B.drop ((hdG B).d))).l) ((hvG g (Ev.E.leaf 0) (decide (((hdG B).k) ≠ 0)) (decide (((hdG B).k) ≠ 1)) (B.drop ((hdG B).d))).r)) with hc25 | hc25
    ·
     rw [hc25]
     refine cond_false_rule (b := false) (by kernel_rfl) rfl ?_
     refine wp_skip ?_
     refine wp_seq ?_
     refine region_rule ?_
     refine ops_rule (C := []) [(r, .cells #[.slice a l.length c, .int .i64 ((p + ((hdG B).d) + ((hvG g (Ev.E.leaf 0) (decide (((hdG B).k) ≠ 0)) (decide (((hdG B).k) ≠ 1)) (B.drop ((hdG B).d))).d) : Nat) : Int), .int .i64 (((hvG g (Ev.E.leaf 0) (decide (((hdG B).k) ≠ 0)) (decide (((hdG B).k) ≠ 1)) (B.drop ((hdG B).d))).e : Nat) : Int)] 102), ((φ1 0), .cells #[.pointer (some ⟨r, 0, none⟩)] 104), ((φ1 1), .cells #[.int .u64 0, .pointer none] 30), ((φ12 0), .cells #[.int .u64 ((b111 : Nat) : Int), .pointer p111] 30), ((φ12 1), .cells #[.int .u64 ((b211 : Nat) : Int), .pointer p211] 30)] [] 3 [.o 3, .o 3, .o 4, .o 4] 0 (fun φ26 => [(52, .agg #[.int .u64 ((b211 : Nat) : Int), .pointer p211]), (51, .agg #[.int .u64 ((b111 : Nat) : Int), .pointer p111]), (50, .int .u64 (((hdG B).n : Nat) : Int))]) (fun φ26 => [(r, .cells #[.slice a l.length c, .int .i64 ((p + ((hdG B).d) + ((hvG g (Ev.E.leaf 0) (decide (((hdG B).k) ≠ 0)) (decide (((hdG B).k) ≠ 1)) (B.drop ((hdG B).d))).d) : Nat) : Int), .int .i64 (((hvG g (Ev.E.leaf 0) (decide (((hdG B).k) ≠ 0)) (decide (((hdG B).k) ≠ 1)) (B.drop ((hdG B).d))).e : Nat) : Int)] 102), ((φ1 0), .cells #[.pointer (some ⟨r, 0, none⟩)] 104), ((φ1 1), .cells #[.int .u64 0, .pointer none] 30), ((φ12 0), .cells #[.int .u64 ((b111 : Nat) : Int), .pointer p111] 30), ((φ12 1), .cells #[.int .u64 ((b211 : Nat) : Int), .pointer p211] 30)]) (fun φ26 => [(φ12 0), (φ12 0), (φ12 1), (φ12 1)]) s trivial (fun φ26 => by kernel_rfl) ?_
     intro φ26 w26 s
     refine call_rule (some 53) s (Ev.nodeR_c (n := (hdG B).n) h11_0 h11_1 (hv_s hg zE).1.2 (hv_s hg zE).2.2 (Nat.le_trans (hv_s hg zE).1.1 (by decide)) (Nat.le_trans (hv_s hg zE).2.1 (by decide))) (by kernel_rfl) ?_
     intro v27 I27 w27 le27 h27 s
     obtain ⟨b27, p27, rfl, h27_0⟩ := h27
     refine ops_rule (C := []) [(r, .cells #[.slice a l.length c, .int .i64 ((p + ((hdG B).d) + ((hvG g (Ev.E.leaf 0) (decide (((hdG B).k) ≠ 0)) (decide (((hdG B).k) ≠ 1)) (B.drop ((hdG B).d))).d) : Nat) : Int), .int .i64 (((hvG g (Ev.E.leaf 0) (decide (((hdG B).k) ≠ 0)) (decide (((hdG B).k) ≠ 1)) (B.drop ((hdG B).d))).e : Nat) : Int)] 102), ((φ1 0), .cells #[.pointer (some ⟨r, 0, none⟩)] 104), ((φ1 1), .cells #[.int .u64 0, .pointer none] 30), ((φ12 0), .cells #[.int .u64 ((b111 : Nat) : Int), .pointer p111] 30), ((φ12 1), .cells #[.int .u64 ((b211 : Nat) : Int), .pointer p211] 30)] [] 4 [.o 2, .o 2] 0 (fun φ28 => [(5, .int .i64 (((Ev.nodeR ((hdG B).n) ((hvG g (Ev.E.leaf 0) (decide (((hdG B).k) ≠ 0)) (decide (((hdG B).k) ≠ 1)) (B.drop ((hdG B).d))).l) ((hvG g (Ev.E.leaf 0) (decide (((hdG B).k) ≠ 0)) (decide (((hdG B).k) ≠ 1)) (B.drop ((hdG B).d))).r)).2 : Nat) : Int)), (55, .int .i64 (((Ev.nodeR ((hdG B).n) ((hvG g (Ev.E.leaf 0) (decide (((hdG B).k) ≠ 0)) (decide (((hdG B).k) ≠ 1)) (B.drop ((hdG B).d))).l) ((hvG g (Ev.E.leaf 0) (decide (((hdG B).k) ≠ 0)) (decide (((hdG B).k) ≠ 1)) (B.drop ((hdG B).d))).r)).2 : Nat) : Int)), (54, .agg #[.int .u64 ((b27 : Nat) : Int), .pointer p27])]) (fun φ28 => [(r, .cells #[.slice a l.length c, .int .i64 ((p + ((hdG B).d) + ((hvG g (Ev.E.leaf 0) (decide (((hdG B).k) ≠ 0)) (decide (((hdG B).k) ≠ 1)) (B.drop ((hdG B).d))).d) : Nat) : Int), .int .i64 (((hvG g (Ev.E.leaf 0) (decide (((hdG B).k) ≠ 0)) (decide (((hdG B).k) ≠ 1)) (B.drop ((hdG B).d))).e : Nat) : Int)] 102), ((φ1 0), .cells #[.pointer (some ⟨r, 0, none⟩)] 104), ((φ1 1), .cells #[.int .u64 ((b27 : Nat) : Int), .pointer p27] 30), ((φ12 0), .cells #[.int .u64 ((b111 : Nat) : Int), .pointer p111] 30), ((φ12 1), .cells #[.int .u64 ((b211 : Nat) : Int), .pointer p211] 30)]) (fun φ28 => [(φ1 1), (φ1 1)]) s trivial (fun φ28 => by kernel_rfl) ?_
     intro φ28 w28 s
     refine ops_done (by kernel_rfl) ?_
     refine wp_ret ?_
     refine ret_rule (C := []) [(r, .cells #[.slice a l.length c, .int .i64 ((p + ((hdG B).d) + ((hvG g (Ev.E.leaf 0) (decide (((hdG B).k) ≠ 0)) (decide (((hdG B).k) ≠ 1)) (B.drop ((hdG B).d))).d) : Nat) : Int), .int .i64 (((hvG g (Ev.E.leaf 0) (decide (((hdG B).k) ≠ 0)) (decide (((hdG B).k) ≠ 1)) (B.drop ((hdG B).d))).e : Nat) : Int)] 102), ((φ1 0), .cells #[.pointer (some ⟨r, 0, none⟩)] 104), ((φ1 1), .cells #[.int .u64 ((b27 : Nat) : Int), .pointer p27] 30), ((φ12 0), .cells #[.int .u64 ((b111 : Nat) : Int), .pointer p111] 30), ((φ12 1), .cells #[.int .u64 ((b211 : Nat) : Int), .pointer p211] 30)] [] (.tuple #[.agg #[.int .u64 ((b27 : Nat) : Int), .pointer p27], .int .i64 (((Ev.nodeR ((hdG B).n) ((hvG g (Ev.E.leaf 0) (decide (((hdG B).k) ≠ 0)) (decide (((hdG B).k) ≠ 1)) (B.drop ((hdG B).d))).l) ((hvG g (Ev.E.leaf 0) (decide (((hdG B).k) ≠ 0)) (decide (((hdG B).k) ≠ 1)) (B.drop ((hdG B).d))).r)).2 : Nat) : Int)]) [.o 2, .o 2] [(φ1 1), (φ1 1)] s trivial (by kernel_rfl) ?_
     replace s := s.drop (List.Sublist.append (List.Sublist.cons₂ _ (List.Sublist.cons _ (List.Sublist.cons _ (List.Sublist.cons _ (List.Sublist.cons _ List.Sublist.slnil))))) (List.Sublist.refl []))
     have e9 : ndG g B = ⟨(Ev.nodeR ((hdG B).n) ((hvG g (Ev.E.leaf 0) (decide (((hdG B).k) ≠ 0)) (decide (((hdG B).k) ≠ 1)) (B.drop ((hdG B).d))).l) ((hvG g (Ev.E.leaf 0) (decide (((hdG B).k) ≠ 0)) (decide (((hdG B).k) ≠ 1)) (B.drop ((hdG B).d))).r)).1, (Ev.nodeR ((hdG B).n) ((hvG g (Ev.E.leaf 0) (decide (((hdG B).k) ≠ 0)) (decide (((hdG B).k) ≠ 1)) (B.drop ((hdG B).d))).l) ((hvG g (Ev.E.leaf 0) (decide (((hdG B).k) ≠ 0)) (decide (((hdG B).k) ≠ 1)) (B.drop ((hdG B).d))).r)).2, ((hdG B).d) + ((hvG g (Ev.E.leaf 0) (decide (((hdG B).k) ≠ 0)) (decide (((hdG B).k) ≠ 1)) (B.drop ((hdG B).d))).d), (hvG g (Ev.E.leaf 0) (decide (((hdG B).k) ≠ 0)) (decide (((hdG B).k) ≠ 1)) (B.drop ((hdG B).d))).e⟩ := by unfold ndG; rw [if_neg (of_decide_eq_false hc7), if_neg (of_decide_eq_false hc14), if_neg (of_decide_eq_false hc19), if_pos hc25]
     exact ⟨_, _, _, rfl, s, (by rw [e9]; exact ⟨_, rfl, rfl, _, _, rfl, (by simp only [Nat.add_assoc, Nat.add_zero]), h27_0⟩)⟩
    ·
     rw [hc25]
     refine cond_true_rule (b := true) (by kernel_rfl) rfl ?_
     refine wp_seq ?_
     refine region_rule ?_
     refine ops_rule (C := []) [(r, .cells #[.slice a l.length c, .int .i64 ((p + ((hdG B).d) + ((hvG g (Ev.E.leaf 0) (decide (((hdG B).k) ≠ 0)) (decide (((hdG B).k) ≠ 1)) (B.drop ((hdG B).d))).d) : Nat) : Int), .int .i64 (((hvG g (Ev.E.leaf 0) (decide (((hdG B).k) ≠ 0)) (decide (((hdG B).k) ≠ 1)) (B.drop ((hdG B).d))).e : Nat) : Int)] 102), ((φ1 0), .cells #[.pointer (some ⟨r, 0, none⟩)] 104), ((φ1 1), .cells #[.int .u64 0, .pointer none] 30), ((φ12 0), .cells #[.int .u64 ((b111 : Nat) : Int), .pointer p111] 30), ((φ12 1), .cells #[.int .u64 ((b211 : Nat) : Int), .pointer p211] 30)] [] 3 [.o 2, .o 2] 0 (fun φ29 => [(5, .int .i64 6), (49, .agg #[.int .u64 0, .pointer none])]) (fun φ29 => [(r, .cells #[.slice a l.length c, .int .i64 ((p + ((hdG B).d) + ((hvG g (Ev.E.leaf 0) (decide (((hdG B).k) ≠ 0)) (decide (((hdG B).k) ≠ 1)) (B.drop ((hdG B).d))).d) : Nat) : Int), .int .i64 (((hvG g (Ev.E.leaf 0) (decide (((hdG B).k) ≠ 0)) (decide (((hdG B).k) ≠ 1)) (B.drop ((hdG B).d))).e : Nat) : Int)] 102), ((φ1 0), .cells #[.pointer (some ⟨r, 0, none⟩)] 104), ((φ1 1), .cells #[.int .u64 0, .pointer none] 30), ((φ12 0), .cells #[.int .u64 ((b111 : Nat) : Int), .pointer p111] 30), ((φ12 1), .cells #[.int .u64 ((b211 : Nat) : Int), .pointer p211] 30)]) (fun φ29 => [(φ1 1), (φ1 1)]) s trivial (fun φ29 => by kernel_rfl) ?_
     intro φ29 w29 s
     refine ops_done (by kernel_rfl) ?_
     refine wp_ret ?_
     refine ret_rule (C := []) [(r, .cells #[.slice a l.length c, .int .i64 ((p + ((hdG B).d) + ((hvG g (Ev.E.leaf 0) (decide (((hdG B).k) ≠ 0)) (decide (((hdG B).k) ≠ 1)) (B.drop ((hdG B).d))).d) : Nat) : Int), .int .i64 (((hvG g (Ev.E.leaf 0) (decide (((hdG B).k) ≠ 0)) (decide (((hdG B).k) ≠ 1)) (B.drop ((hdG B).d))).e : Nat) : Int)] 102), ((φ1 0), .cells #[.pointer (some ⟨r, 0, none⟩)] 104), ((φ1 1), .cells #[.int .u64 0, .pointer none] 30), ((φ12 0), .cells #[.int .u64 ((b111 : Nat) : Int), .pointer p111] 30), ((φ12 1), .cells #[.int .u64 ((b211 : Nat) : Int), .pointer p211] 30)] [] (.tuple #[.agg #[.int .u64 0, .pointer none], .int .i64 6]) [.o 2, .o 2] [(φ1 1), (φ1 1)] s trivial (by kernel_rfl) ?_
     replace s := s.drop (List.Sublist.append (List.Sublist.cons₂ _ (List.Sublist.cons _ (List.Sublist.cons _ (List.Sublist.cons _ (List.Sublist.cons _ List.Sublist.slnil))))) (List.Sublist.refl []))
     have e9 : ndG g B = ⟨(Ev.E.leaf 0), 6, ((hdG B).d) + ((hvG g (Ev.E.leaf 0) (decide (((hdG B).k) ≠ 0)) (decide (((hdG B).k) ≠ 1)) (B.drop ((hdG B).d))).d), (hvG g (Ev.E.leaf 0) (decide (((hdG B).k) ≠ 0)) (decide (((hdG B).k) ≠ 1)) (B.drop ((hdG B).d))).e⟩ := by unfold ndG; rw [if_neg (of_decide_eq_false hc7), if_neg (of_decide_eq_false hc14), if_neg (of_decide_eq_false hc19), if_neg (show ¬ inF ((hvG g (Ev.E.leaf 0) (decide (((hdG B).k) ≠ 0)) (decide (((hdG B).k) ≠ 1)) (B.drop ((hdG B).d))).l) ((hvG g (Ev.E.leaf 0) (decide (((hdG B).k) ≠ 0)) (decide (((hdG B).k) ≠ 1)) (B.drop ((hdG B).d))).r) = true by rw [hc25]; decide)]
     exact ⟨_, _, _, rfl, s, (by rw [e9]; exact ⟨_, rfl, rfl, _, _, rfl, (by simp only [Nat.add_assoc, Nat.add_zero]), (Ev.ERep.lf _ 0)⟩)⟩

set_option maxHeartbeats 4000000 in
theorem event_step {I : IM} {l : List UInt8} {a : Option Addr} {c : Nat} {r p e : Nat} {B : List Bool} (hl : BSl I l (.slice a l.length c)) (hn9 : l.length ≤ 1000000) (hp : p ≤ l.length * 8) (hB : (bitsL l).drop p = B) (he : e = 0) {g : List Bool → Rd Ev.E} (hg : OkE g) {deep : Nat} (hdp : deep ≤ 16) {last : Bool} (hlast : last = decide (deep = 16)) (ih : deep ≠ 16 → ∀ {J : IM} {p e : Nat} {B : List Bool}, BSl J l (.slice a l.length c) → p ≤ l.length * 8 → (bitsL l).drop p = B → e = 0 → FunM Try.prog 60 #[.agg #[.pointer (some ⟨r, 0, none⟩)], .int .i64 ((deep + 1 : Nat) : Int)] J [(r, .cells #[.slice a l.length c, .int .i64 ((p : Nat) : Int), .int .i64 ((e : Nat) : Int)] 102)] (fun v J H' => ∃ b' : OB, H' = [b'] ∧ b'.1 = r ∧ ∃ bi pi, v = .tuple #[.agg #[.int .u64 ((bi : Nat) : Int), .pointer pi], .int .i64 (((g B).er : Nat) : Int)] ∧ b' = (r, .cells #[.slice a l.length c, .int .i64 ((p + (g B).d : Nat) : Int), .int .i64 (((g B).e : Nat) : Int)] 102) ∧ Ev.ERep J (g B).t bi pi)) : FunM Try.prog 60 #[.agg #[.pointer (some ⟨r, 0, none⟩)], .int .i64 ((deep : Nat) : Int)] I [(r, .cells #[.slice a l.length c, .int .i64 ((p : Nat) : Int), .int .i64 ((e : Nat) : Int)] 102)] (fun v J H' => ∃ b' : OB, H' = [b'] ∧ b'.1 = r ∧ ∃ bi pi, v = .tuple #[.agg #[.int .u64 ((bi : Nat) : Int), .pointer pi], .int .i64 (((evN g last B).er : Nat) : Int)] ∧ b' = (r, .cells #[.slice a l.length c, .int .i64 ((p + (evN g last B).d : Nat) : Int), .int .i64 (((evN g last B).e : Nat) : Int)] 102) ∧ Ev.ERep J (evN g last B).t bi pi) := by
 refine enterM_rule 41 [(0, .agg #[.pointer (some ⟨r, 0, none⟩)]), (1, .int .i64 ((deep : Nat) : Int))] Try.func60 rfl (by kernel_rfl) ?_
 intro w s
 refine wp_seq ?_
 refine region_rule ?_
 refine ops_rule (C := []) [(r, .cells #[.slice a l.length c, .int .i64 ((p : Nat) : Int), .int .i64 ((e : Nat) : Int)] 102)] [] 3 [] 2 (fun φ1 => [(5, .int .i64 0), (4, .pointer (some ⟨(φ1 1), 0, none⟩)), (2, .pointer (some ⟨(φ1 0), 0, none⟩))]) (fun φ1 => [(r, .cells #[.slice a l.length c, .int .i64 ((p : Nat) : Int), .int .i64 ((e : Nat) : Int)] 102), ((φ1 0), .cells #[.pointer (some ⟨r, 0, none⟩)] 104), ((φ1 1), .cells #[.int .u64 0, .pointer none] 30)]) (fun φ1 => []) s trivial (fun φ1 => by kernel_rfl) ?_
 intro φ1 w1 s
 refine ops_done (by kernel_rfl) ?_
 refine wp_seq ?_
 refine region_rule ?_
 refine ops_rule (C := []) [(r, .cells #[.slice a l.length c, .int .i64 ((p : Nat) : Int), .int .i64 ((e : Nat) : Int)] 102), ((φ1 0), .cells #[.pointer (some ⟨r, 0, none⟩)] 104), ((φ1 1), .cells #[.int .u64 0, .pointer none] 30)] [] 2 [.o 1] 0 (fun φ2 => [(10, .pointer (some ⟨r, 0, none⟩)), (9, .pointer (some ⟨(φ1 0), 0, none⟩))]) (fun φ2 => [(r, .cells #[.slice a l.length c, .int .i64 ((p : Nat) : Int), .int .i64 ((e : Nat) : Int)] 102), ((φ1 0), .cells #[.pointer (some ⟨r, 0, none⟩)] 104), ((φ1 1), .cells #[.int .u64 0, .pointer none] 30)]) (fun φ2 => [(φ1 0)]) s trivial (fun φ2 => by kernel_rfl) ?_
 intro φ2 w2 s
 refine callB_rule (b := (r, .cells #[.slice a l.length c, .int .i64 ((p : Nat) : Int), .int .i64 ((e : Nat) : Int)] 102)) (H := [(r, .cells #[.slice a l.length c, .int .i64 ((p : Nat) : Int), .int .i64 ((e : Nat) : Int)] 102), ((φ1 0), .cells #[.pointer (some ⟨r, 0, none⟩)] 104), ((φ1 1), .cells #[.int .u64 0, .pointer none] 30)]) (F := []) (Hr := [((φ1 0), .cells #[.pointer (some ⟨r, 0, none⟩)] 104), ((φ1 1), .cells #[.int .u64 0, .pointer none] 30)]) (some 11) 0 s (by kernel_rfl) (by kernel_rfl) (getK_c (k := 1) (r := r) (p := p) (B := B) hl hn9 hp hB he (by decide)) (by kernel_rfl) ?_
 rintro v4 I4 w4 b4 le4 - h4 s
 replace hl := BSl.mono le4 hl
 obtain ⟨rfl, rfl⟩ := h4
 have hB3 := next_B (d := gD 0 B 1) hB
 have hp3 := next_p (d := gD 0 B 1) hp hB (gD_le _ _ _)
 refine ops_rule (C := []) [(r, .cells #[.slice a l.length c, .int .i64 ((p + (gD 0 B 1) : Nat) : Int), .int .i64 ((gE 0 B 1 : Nat) : Int)] 102), ((φ1 0), .cells #[.pointer (some ⟨r, 0, none⟩)] 104), ((φ1 1), .cells #[.int .u64 0, .pointer none] 30)] [] 2 [] 0 (fun φ5 => [(6, .bool (((gV 0 B 1 : Nat) : Int) == ((1 : Nat) : Int))), (12, .bool (((gV 0 B 1 : Nat) : Int) == ((1 : Nat) : Int)))]) (fun φ5 => [(r, .cells #[.slice a l.length c, .int .i64 ((p + (gD 0 B 1) : Nat) : Int), .int .i64 ((gE 0 B 1 : Nat) : Int)] 102), ((φ1 0), .cells #[.pointer (some ⟨r, 0, none⟩)] 104), ((φ1 1), .cells #[.int .u64 0, .pointer none] 30)]) (fun φ5 => []) s trivial (fun φ5 => by kernel_rfl) ?_
 intro φ5 w5 s
 rw [nat_eql (a := (gV 0 B 1)) (b := 1)]
 refine ops_done (by kernel_rfl) ?_
 refine wp_seq ?_
 refine wp_block ?_
 refine wp_seq ?_
 refine region_rule ?_
 refine ops_rule (C := []) [(r, .cells #[.slice a l.length c, .int .i64 ((p + (gD 0 B 1) : Nat) : Int), .int .i64 ((gE 0 B 1 : Nat) : Int)] 102), ((φ1 0), .cells #[.pointer (some ⟨r, 0, none⟩)] 104), ((φ1 1), .cells #[.int .u64 0, .pointer none] 30)] [] 1 [.o 1] 0 (fun φ6 => [(14, .agg #[.pointer (some ⟨r, 0, none⟩)])]) (fun φ6 => [(r, .cells #[.slice a l.length c, .int .i64 ((p + (gD 0 B 1) : Nat) : Int), .int .i64 ((gE 0 B 1 : Nat) : Int)] 102), ((φ1 0), .cells #[.pointer (some ⟨r, 0, none⟩)] 104), ((φ1 1), .cells #[.int .u64 0, .pointer none] 30)]) (fun φ6 => [(φ1 0)]) s trivial (fun φ6 => by kernel_rfl) ?_
 intro φ6 w6 s
 refine callB_rule (b := (r, .cells #[.slice a l.length c, .int .i64 ((p + (gD 0 B 1) : Nat) : Int), .int .i64 ((gE 0 B 1 : Nat) : Int)] 102)) (H := [(r, .cells #[.slice a l.length c, .int .i64 ((p + (gD 0 B 1) : Nat) : Int), .int .i64 ((gE 0 B 1 : Nat) : Int)] 102), ((φ1 0), .cells #[.pointer (some ⟨r, 0, none⟩)] 104), ((φ1 1), .cells #[.int .u64 0, .pointer none] 30)]) (F := []) (Hr := [((φ1 0), .cells #[.pointer (some ⟨r, 0, none⟩)] 104), ((φ1 1), .cells #[.int .u64 0, .pointer none] 30)]) (some 15) 0 s (by kernel_rfl) (by kernel_rfl) (failed_c (r := r) (v0 := .slice a l.length c) (v1 := .int .i64 ((p + (gD 0 B 1) : Nat) : Int)) (e := gE 0 B 1)) (by kernel_rfl) ?_
 rintro v7 I7 w7 b7 le7 - h7 s
 replace hl := BSl.mono le7 hl
 obtain ⟨rfl, rfl⟩ := h7
 refine ops_rule (C := []) [(r, .cells #[.slice a l.length c, .int .i64 ((p + (gD 0 B 1) : Nat) : Int), .int .i64 ((gE 0 B 1 : Nat) : Int)] 102), ((φ1 0), .cells #[.pointer (some ⟨r, 0, none⟩)] 104), ((φ1 1), .cells #[.int .u64 0, .pointer none] 30)] [] 1 [] 0 (fun φ8 => [(13, .bool (decide (gE 0 B 1 ≠ 0)))]) (fun φ8 => [(r, .cells #[.slice a l.length c, .int .i64 ((p + (gD 0 B 1) : Nat) : Int), .int .i64 ((gE 0 B 1 : Nat) : Int)] 102), ((φ1 0), .cells #[.pointer (some ⟨r, 0, none⟩)] 104), ((φ1 1), .cells #[.int .u64 0, .pointer none] 30)]) (fun φ8 => []) s trivial (fun φ8 => by kernel_rfl) ?_
 intro φ8 w8 s
 refine ops_done (by kernel_rfl) ?_
 rcases Bool.eq_false_or_eq_true (decide (gE 0 B 1 ≠ 0)) with hc9 | hc9
 ·
  rw [hc9]
  refine cond_true_rule (b := true) (by kernel_rfl) rfl ?_
  refine wp_seq ?_
  refine region_rule ?_
  refine ops_rule (C := []) [(r, .cells #[.slice a l.length c, .int .i64 ((p + (gD 0 B 1) : Nat) : Int), .int .i64 ((gE 0 B 1 : Nat) : Int)] 102), ((φ1 0), .cells #[.pointer (some ⟨r, 0, none⟩)] 104), ((φ1 1), .cells #[.int .u64 0, .pointer none] 30)] [] 3 [.o 2, .o 2] 0 (fun φ10 => [(5, .int .i64 6), (16, .agg #[.int .u64 0, .pointer none])]) (fun φ10 => [(r, .cells #[.slice a l.length c, .int .i64 ((p + (gD 0 B 1) : Nat) : Int), .int .i64 ((gE 0 B 1 : Nat) : Int)] 102), ((φ1 0), .cells #[.pointer (some ⟨r, 0, none⟩)] 104), ((φ1 1), .cells #[.int .u64 0, .pointer none] 30)]) (fun φ10 => [(φ1 1), (φ1 1)]) s trivial (fun φ10 => by kernel_rfl) ?_
  intro φ10 w10 s
  refine ops_done (by kernel_rfl) ?_
  refine wp_ret ?_
  refine ret_rule (C := []) [(r, .cells #[.slice a l.length c, .int .i64 ((p + (gD 0 B 1) : Nat) : Int), .int .i64 ((gE 0 B 1 : Nat) : Int)] 102), ((φ1 0), .cells #[.pointer (some ⟨r, 0, none⟩)] 104), ((φ1 1), .cells #[.int .u64 0, .pointer none] 30)] [] (.tuple #[.agg #[.int .u64 0, .pointer none], .int .i64 6]) [.o 2, .o 2] [(φ1 1), (φ1 1)] s trivial (by kernel_rfl) ?_
  replace s := s.drop (List.Sublist.append (List.Sublist.cons₂ _ (List.Sublist.cons _ (List.Sublist.cons _ List.Sublist.slnil))) (List.Sublist.refl []))
  have e9 : evN g last B = ⟨(Ev.E.leaf 0), 6, (gD 0 B 1), gE 0 B 1⟩ := by unfold evN; rw [if_pos (of_decide_eq_true hc9)]
  exact ⟨_, _, _, rfl, s, (by rw [e9]; exact ⟨_, rfl, rfl, _, _, rfl, (by simp only [Nat.add_assoc, Nat.add_zero]), (Ev.ERep.lf _ 0)⟩)⟩
 ·
  rw [hc9]
  refine cond_false_rule (b := false) (by kernel_rfl) rfl ?_
  refine wp_seq ?_
  refine region_rule ?_
  refine ops_rule (C := []) [(r, .cells #[.slice a l.length c, .int .i64 ((p + (gD 0 B 1) : Nat) : Int), .int .i64 ((gE 0 B 1 : Nat) : Int)] 102), ((φ1 0), .cells #[.pointer (some ⟨r, 0, none⟩)] 104), ((φ1 1), .cells #[.int .u64 0, .pointer none] 30)] [] 2 [] 0 (fun φ11 => [(17, .bool (decide ((gV 0 B 1) = 1))), (18, .bool (decide ((gV 0 B 1) = 1)))]) (fun φ11 => [(r, .cells #[.slice a l.length c, .int .i64 ((p + (gD 0 B 1) : Nat) : Int), .int .i64 ((gE 0 B 1 : Nat) : Int)] 102), ((φ1 0), .cells #[.pointer (some ⟨r, 0, none⟩)] 104), ((φ1 1), .cells #[.int .u64 0, .pointer none] 30)]) (fun φ11 => []) s trivial (fun φ11 => by kernel_rfl) ?_
  intro φ11 w11 s
  refine ops_done (by kernel_rfl) ?_
  rcases Bool.eq_false_or_eq_true (decide ((gV 0 B 1) = 1)) with hc12 | hc12
  ·
   rw [hc12]
   refine cond_true_rule (b := true) (by kernel_rfl) rfl ?_
   refine wp_seq ?_
   refine region_rule ?_
   refine ops_rule (C := []) [(r, .cells #[.slice a l.length c, .int .i64 ((p + (gD 0 B 1) : Nat) : Int), .int .i64 ((gE 0 B 1 : Nat) : Int)] 102), ((φ1 0), .cells #[.pointer (some ⟨r, 0, none⟩)] 104), ((φ1 1), .cells #[.int .u64 0, .pointer none] 30)] [] 1 [.o 1] 0 (fun φ13 => [(20, .agg #[.pointer (some ⟨r, 0, none⟩)])]) (fun φ13 => [(r, .cells #[.slice a l.length c, .int .i64 ((p + (gD 0 B 1) : Nat) : Int), .int .i64 ((gE 0 B 1 : Nat) : Int)] 102), ((φ1 0), .cells #[.pointer (some ⟨r, 0, none⟩)] 104), ((φ1 1), .cells #[.int .u64 0, .pointer none] 30)]) (fun φ13 => [(φ1 0)]) s trivial (fun φ13 => by kernel_rfl) ?_
   intro φ13 w13 s
   refine callB_rule (b := (r, .cells #[.slice a l.length c, .int .i64 ((p + (gD 0 B 1) : Nat) : Int), .int .i64 ((gE 0 B 1 : Nat) : Int)] 102)) (H := [(r, .cells #[.slice a l.length c, .int .i64 ((p + (gD 0 B 1) : Nat) : Int), .int .i64 ((gE 0 B 1 : Nat) : Int)] 102), ((φ1 0), .cells #[.pointer (some ⟨r, 0, none⟩)] 104), ((φ1 1), .cells #[.int .u64 0, .pointer none] 30)]) (F := []) (Hr := [((φ1 0), .cells #[.pointer (some ⟨r, 0, none⟩)] 104), ((φ1 1), .cells #[.int .u64 0, .pointer none] 30)]) (some 21) 0 s (by kernel_rfl) (by kernel_rfl) (countK_c (r := r) (p := p + (gD 0 B 1)) (B := (B.drop (gD 0 B 1))) hl hn9 hp3 hB3 (Decidable.not_not.1 (of_decide_eq_false hc9))) (by kernel_rfl) ?_
   rintro v15 I15 w15 b15 le15 - h15 s
   replace hl := BSl.mono le15 hl
   obtain ⟨rfl, rfl⟩ := h15
   have hB14 := next_B (d := (cnG 0 (B.drop (gD 0 B 1))).d) hB3
   have hp14 := next_p (d := (cnG 0 (B.drop (gD 0 B 1))).d) hp3 hB3 (cn_d _ _)
   refine ops_rule (C := []) [(r, .cells #[.slice a l.length c, .int .i64 ((p + (gD 0 B 1) + ((cnG 0 (B.drop (gD 0 B 1))).d) : Nat) : Int), .int .i64 (((cnG 0 (B.drop (gD 0 B 1))).e : Nat) : Int)] 102), ((φ1 0), .cells #[.pointer (some ⟨r, 0, none⟩)] 104), ((φ1 1), .cells #[.int .u64 0, .pointer none] 30)] [] 5 [] 0 (fun φ16 => [(8, .int .i64 (((cnG 0 (B.drop (gD 0 B 1))).er : Nat) : Int)), (7, .int .u64 (((cnG 0 (B.drop (gD 0 B 1))).t : Nat) : Int)), (23, .int .i64 (((cnG 0 (B.drop (gD 0 B 1))).er : Nat) : Int)), (22, .int .u64 (((cnG 0 (B.drop (gD 0 B 1))).t : Nat) : Int)), (19, .tuple #[.int .u64 (((cnG 0 (B.drop (gD 0 B 1))).t : Nat) : Int), .int .i64 (((cnG 0 (B.drop (gD 0 B 1))).er : Nat) : Int)])]) (fun φ16 => [(r, .cells #[.slice a l.length c, .int .i64 ((p + (gD 0 B 1) + ((cnG 0 (B.drop (gD 0 B 1))).d) : Nat) : Int), .int .i64 (((cnG 0 (B.drop (gD 0 B 1))).e : Nat) : Int)] 102), ((φ1 0), .cells #[.pointer (some ⟨r, 0, none⟩)] 104), ((φ1 1), .cells #[.int .u64 0, .pointer none] 30)]) (fun φ16 => []) s trivial (fun φ16 => by kernel_rfl) ?_
   intro φ16 w16 s
   refine ops_done (by kernel_rfl) ?_
   refine wp_seq ?_
   refine wp_seq ?_
   refine region_rule ?_
   refine ops_rule (C := []) [(r, .cells #[.slice a l.length c, .int .i64 ((p + (gD 0 B 1) + ((cnG 0 (B.drop (gD 0 B 1))).d) : Nat) : Int), .int .i64 (((cnG 0 (B.drop (gD 0 B 1))).e : Nat) : Int)] 102), ((φ1 0), .cells #[.pointer (some ⟨r, 0, none⟩)] 104), ((φ1 1), .cells #[.int .u64 0, .pointer none] 30)] [] 2 [] 0 (fun φ17 => [(25, .bool ((((cnG 0 (B.drop (gD 0 B 1))).er : Nat) : Int) != ((0 : Nat) : Int))), (24, .int .i64 (((cnG 0 (B.drop (gD 0 B 1))).er : Nat) : Int))]) (fun φ17 => [(r, .cells #[.slice a l.length c, .int .i64 ((p + (gD 0 B 1) + ((cnG 0 (B.drop (gD 0 B 1))).d) : Nat) : Int), .int .i64 (((cnG 0 (B.drop (gD 0 B 1))).e : Nat) : Int)] 102), ((φ1 0), .cells #[.pointer (some ⟨r, 0, none⟩)] 104), ((φ1 1), .cells #[.int .u64 0, .pointer none] 30)]) (fun φ17 => []) s trivial (fun φ17 => by kernel_rfl) ?_
   intro φ17 w17 s
   rw [nat_neq (a := ((cnG 0 (B.drop (gD 0 B 1))).er)) (b := 0)]
   refine ops_done (by kernel_rfl) ?_
   rcases Bool.eq_false_or_eq_true (decide (((cnG 0 (B.drop (gD 0 B 1))).er) ≠ 0)) with hc18 | hc18
   ·
    rw [hc18]
    refine cond_true_rule (b := true) (by kernel_rfl) rfl ?_
    refine wp_seq ?_
    refine region_rule ?_
    refine ops_rule (C := []) [(r, .cells #[.slice a l.length c, .int .i64 ((p + (gD 0 B 1) + ((cnG 0 (B.drop (gD 0 B 1))).d) : Nat) : Int), .int .i64 (((cnG 0 (B.drop (gD 0 B 1))).e : Nat) : Int)] 102), ((φ1 0), .cells #[.pointer (some ⟨r, 0, none⟩)] 104), ((φ1 1), .cells #[.int .u64 0, .pointer none] 30)] [] 4 [.o 2, .o 2] 0 (fun φ19 => [(5, .int .i64 (((cnG 0 (B.drop (gD 0 B 1))).er : Nat) : Int)), (27, .int .i64 (((cnG 0 (B.drop (gD 0 B 1))).er : Nat) : Int)), (26, .agg #[.int .u64 0, .pointer none])]) (fun φ19 => [(r, .cells #[.slice a l.length c, .int .i64 ((p + (gD 0 B 1) + ((cnG 0 (B.drop (gD 0 B 1))).d) : Nat) : Int), .int .i64 (((cnG 0 (B.drop (gD 0 B 1))).e : Nat) : Int)] 102), ((φ1 0), .cells #[.pointer (some ⟨r, 0, none⟩)] 104), ((φ1 1), .cells #[.int .u64 0, .pointer none] 30)]) (fun φ19 => [(φ1 1), (φ1 1)]) s trivial (fun φ19 => by kernel_rfl) ?_
    intro φ19 w19 s
    refine ops_done (by kernel_rfl) ?_
    refine wp_ret ?_
    refine ret_rule (C := []) [(r, .cells #[.slice a l.length c, .int .i64 ((p + (gD 0 B 1) + ((cnG 0 (B.drop (gD 0 B 1))).d) : Nat) : Int), .int .i64 (((cnG 0 (B.drop (gD 0 B 1))).e : Nat) : Int)] 102), ((φ1 0), .cells #[.pointer (some ⟨r, 0, none⟩)] 104), ((φ1 1), .cells #[.int .u64 0, .pointer none] 30)] [] (.tuple #[.agg #[.int .u64 0, .pointer none], .int .i64 (((cnG 0 (B.drop (gD 0 B 1))).er : Nat) : Int)]) [.o 2, .o 2] [(φ1 1), (φ1 1)] s trivial (by kernel_rfl) ?_
    replace s := s.drop (List.Sublist.append (List.Sublist.cons₂ _ (List.Sublist.cons _ (List.Sublist.cons _ List.Sublist.slnil))) (List.Sublist.refl []))
    have e9 : evN g last B = ⟨(Ev.E.leaf 0), (cnG 0 (B.drop (gD 0 B 1))).er, (gD 0 B 1) + ((cnG 0 (B.drop (gD 0 B 1))).d), (cnG 0 (B.drop (gD 0 B 1))).e⟩ := by unfold evN; rw [if_neg (of_decide_eq_false hc9), if_pos (of_decide_eq_true hc12), if_pos (of_decide_eq_true hc18)]
    exact ⟨_, _, _, rfl, s, (by rw [e9]; exact ⟨_, rfl, rfl, _, _, rfl, (by simp only [Nat.add_assoc, Nat.add_zero]), (Ev.ERep.lf _ 0)⟩)⟩
   ·
    rw [hc18]
    refine cond_false_rule (b := false) (by kernel_rfl) rfl ?_
    refine wp_skip ?_
    refine wp_seq ?_
    refine region_rule ?_
    refine ops_rule (C := []) [(r, .cells #[.slice a l.length c, .int .i64 ((p + (gD 0 B 1) + ((cnG 0 (B.drop (gD 0 B 1))).d) : Nat) : Int), .int .i64 (((cnG 0 (B.drop (gD 0 B 1))).e : Nat) : Int)] 102), ((φ1 0), .cells #[.pointer (some ⟨r, 0, none⟩)] 104), ((φ1 1), .cells #[.int .u64 0, .pointer none] 30)] [] 1 [] 0 (fun φ20 => [(28, .int .u64 (((cnG 0 (B.drop (gD 0 B 1))).t : Nat) : Int))]) (fun φ20 => [(r, .cells #[.slice a l.length c, .int .i64 ((p + (gD 0 B 1) + ((cnG 0 (B.drop (gD 0 B 1))).d) : Nat) : Int), .int .i64 (((cnG 0 (B.drop (gD 0 B 1))).e : Nat) : Int)] 102), ((φ1 0), .cells #[.pointer (some ⟨r, 0, none⟩)] 104), ((φ1 1), .cells #[.int .u64 0, .pointer none] 30)]) (fun φ20 => []) s trivial (fun φ20 => by kernel_rfl) ?_
    intro φ20 w20 s
    refine call_rule (some 29) s (Ev.leafOk_c (n := (cnG 0 (B.drop (gD 0 B 1))).t) (cn_le _ _)) (by kernel_rfl) ?_
    intro v21 I21 w21 le21 h21 s
    replace hl := BSl.mono le21 hl
    obtain rfl := h21
    refine ops_rule (C := []) [(r, .cells #[.slice a l.length c, .int .i64 ((p + (gD 0 B 1) + ((cnG 0 (B.drop (gD 0 B 1))).d) : Nat) : Int), .int .i64 (((cnG 0 (B.drop (gD 0 B 1))).e : Nat) : Int)] 102), ((φ1 0), .cells #[.pointer (some ⟨r, 0, none⟩)] 104), ((φ1 1), .cells #[.int .u64 0, .pointer none] 30)] [] 4 [.o 2, .o 2] 0 (fun φ22 => [(5, .int .i64 0), (31, .int .i64 0), (30, .agg #[.int .u64 (((cnG 0 (B.drop (gD 0 B 1))).t : Nat) : Int), .pointer none])]) (fun φ22 => [(r, .cells #[.slice a l.length c, .int .i64 ((p + (gD 0 B 1) + ((cnG 0 (B.drop (gD 0 B 1))).d) : Nat) : Int), .int .i64 (((cnG 0 (B.drop (gD 0 B 1))).e : Nat) : Int)] 102), ((φ1 0), .cells #[.pointer (some ⟨r, 0, none⟩)] 104), ((φ1 1), .cells #[.int .u64 (((cnG 0 (B.drop (gD 0 B 1))).t : Nat) : Int), .pointer none] 30)]) (fun φ22 => [(φ1 1), (φ1 1)]) s trivial (fun φ22 => by kernel_rfl) ?_
    intro φ22 w22 s
    refine ops_done (by kernel_rfl) ?_
    refine wp_ret ?_
    refine ret_rule (C := []) [(r, .cells #[.slice a l.length c, .int .i64 ((p + (gD 0 B 1) + ((cnG 0 (B.drop (gD 0 B 1))).d) : Nat) : Int), .int .i64 (((cnG 0 (B.drop (gD 0 B 1))).e : Nat) : Int)] 102), ((φ1 0), .cells #[.pointer (some ⟨r, 0, none⟩)] 104), ((φ1 1), .cells #[.int .u64 (((cnG 0 (B.drop (gD 0 B 1))).t : Nat) : Int), .pointer none] 30)] [] (.tuple #[.agg #[.int .u64 (((cnG 0 (B.drop (gD 0 B 1))).t : Nat) : Int), .pointer none], .int .i64 0]) [.o 2, .o 2] [(φ1 1), (φ1 1)] s trivial (by kernel_rfl) ?_
    replace s := s.drop (List.Sublist.append (List.Sublist.cons₂ _ (List.Sublist.cons _ (List.Sublist.cons _ List.Sublist.slnil))) (List.Sublist.refl []))
    have e9 : evN g last B = ⟨(Ev.E.leaf ((cnG 0 (B.drop (gD 0 B 1))).t)), 0, (gD 0 B 1) + ((cnG 0 (B.drop (gD 0 B 1))).d), (cnG 0 (B.drop (gD 0 B 1))).e⟩ := by unfold evN; rw [if_neg (of_decide_eq_false hc9), if_pos (of_decide_eq_true hc12), if_neg (of_decide_eq_false hc18)]
    exact ⟨_, _, _, rfl, s, (by rw [e9]; exact ⟨_, rfl, rfl, _, _, rfl, (by simp only [Nat.add_assoc, Nat.add_zero]), (Ev.ERep.lf _ ((cnG 0 (B.drop (gD 0 B 1))).t))⟩)⟩
  ·
   rw [hc12]
   refine cond_false_rule (b := false) (by kernel_rfl) rfl ?_
   refine wp_seq ?_
   refine region_rule ?_
   refine ops_rule (C := []) [(r, .cells #[.slice a l.length c, .int .i64 ((p + (gD 0 B 1) : Nat) : Int), .int .i64 ((gE 0 B 1 : Nat) : Int)] 102), ((φ1 0), .cells #[.pointer (some ⟨r, 0, none⟩)] 104), ((φ1 1), .cells #[.int .u64 0, .pointer none] 30)] [] 3 [] 0 (fun φ23 => [(32, .bool (((deep : Nat) : Int) == ((16 : Nat) : Int))), (34, .bool (((deep : Nat) : Int) == ((16 : Nat) : Int))), (33, .int .i64 ((deep : Nat) : Int))]) (fun φ23 => [(r, .cells #[.slice a l.length c, .int .i64 ((p + (gD 0 B 1) : Nat) : Int), .int .i64 ((gE 0 B 1 : Nat) : Int)] 102), ((φ1 0), .cells #[.pointer (some ⟨r, 0, none⟩)] 104), ((φ1 1), .cells #[.int .u64 0, .pointer none] 30)]) (fun φ23 => []) s trivial (fun φ23 => by kernel_rfl) ?_
   intro φ23 w23 s
   rw [nat_eql (a := deep) (b := 16)]
   refine ops_done (by kernel_rfl) ?_
   rcases Bool.eq_false_or_eq_true (decide (deep = 16)) with hc24 | hc24
   ·
    rw [hc24]
    refine cond_true_rule (b := true) (by kernel_rfl) rfl ?_
    refine wp_seq ?_
    refine region_rule ?_
    refine ops_rule (C := []) [(r, .cells #[.slice a l.length c, .int .i64 ((p + (gD 0 B 1) : Nat) : Int), .int .i64 ((gE 0 B 1 : Nat) : Int)] 102), ((φ1 0), .cells #[.pointer (some ⟨r, 0, none⟩)] 104), ((φ1 1), .cells #[.int .u64 0, .pointer none] 30)] [] 3 [.o 2, .o 2] 0 (fun φ25 => [(5, .int .i64 3), (35, .agg #[.int .u64 0, .pointer none])]) (fun φ25 => [(r, .cells #[.slice a l.length c, .int .i64 ((p + (gD 0 B 1) : Nat) : Int), .int .i64 ((gE 0 B 1 : Nat) : Int)] 102), ((φ1 0), .cells #[.pointer (some ⟨r, 0, none⟩)] 104), ((φ1 1), .cells #[.int .u64 0, .pointer none] 30)]) (fun φ25 => [(φ1 1), (φ1 1)]) s trivial (fun φ25 => by kernel_rfl) ?_
    intro φ25 w25 s
    refine ops_done (by kernel_rfl) ?_
    refine wp_ret ?_
    refine ret_rule (C := []) [(r, .cells #[.slice a l.length c, .int .i64 ((p + (gD 0 B 1) : Nat) : Int), .int .i64 ((gE 0 B 1 : Nat) : Int)] 102), ((φ1 0), .cells #[.pointer (some ⟨r, 0, none⟩)] 104), ((φ1 1), .cells #[.int .u64 0, .pointer none] 30)] [] (.tuple #[.agg #[.int .u64 0, .pointer none], .int .i64 3]) [.o 2, .o 2] [(φ1 1), (φ1 1)] s trivial (by kernel_rfl) ?_
    replace s := s.drop (List.Sublist.append (List.Sublist.cons₂ _ (List.Sublist.cons _ (List.Sublist.cons _ List.Sublist.slnil))) (List.Sublist.refl []))
    have e9 : evN g last B = ⟨(Ev.E.leaf 0), 3, (gD 0 B 1), gE 0 B 1⟩ := by unfold evN; rw [if_neg (of_decide_eq_false hc9), if_neg (of_decide_eq_false hc12), if_pos (show last = true by rw [hlast, hc24])]
    exact ⟨_, _, _, rfl, s, (by rw [e9]; exact ⟨_, rfl, rfl, _, _, rfl, (by simp only [Nat.add_assoc, Nat.add_zero]), (Ev.ERep.lf _ 0)⟩)⟩
   ·
    rw [hc24]
    refine cond_false_rule (b := false) (by kernel_rfl) rfl ?_
    refine wp_skip ?_
    refine wp_seq ?_
    refine region_rule ?_
    refine ops_rule (C := []) [(r, .cells #[.slice a l.length c, .int .i64 ((p + (gD 0 B 1) : Nat) : Int), .int .i64 ((gE 0 B 1 : Nat) : Int)] 102), ((φ1 0), .cells #[.pointer (some ⟨r, 0, none⟩)] 104), ((φ1 1), .cells #[.int .u64 0, .pointer none] 30)] [] 2 [.o 1] 0 (fun φ26 => [(37, .int .i64 ((deep : Nat) : Int)), (36, .agg #[.pointer (some ⟨r, 0, none⟩)])]) (fun φ26 => [(r, .cells #[.slice a l.length c, .int .i64 ((p + (gD 0 B 1) : Nat) : Int), .int .i64 ((gE 0 B 1 : Nat) : Int)] 102), ((φ1 0), .cells #[.pointer (some ⟨r, 0, none⟩)] 104), ((φ1 1), .cells #[.int .u64 0, .pointer none] 30)]) (fun φ26 => [(φ1 0)]) s trivial (fun φ26 => by kernel_rfl) ?_
    intro φ26 w26 s
    refine callB_rule (b := (r, .cells #[.slice a l.length c, .int .i64 ((p + (gD 0 B 1) : Nat) : Int), .int .i64 ((gE 0 B 1 : Nat) : Int)] 102)) (H := [(r, .cells #[.slice a l.length c, .int .i64 ((p + (gD 0 B 1) : Nat) : Int), .int .i64 ((gE 0 B 1 : Nat) : Int)] 102), ((φ1 0), .cells #[.pointer (some ⟨r, 0, none⟩)] 104), ((φ1 1), .cells #[.int .u64 0, .pointer none] 30)]) (F := []) (Hr := [((φ1 0), .cells #[.pointer (some ⟨r, 0, none⟩)] 104), ((φ1 1), .cells #[.int .u64 0, .pointer none] 30)]) (some 38) 0 s (by kernel_rfl) (by kernel_rfl) (node_c (r := r) (p := p + (gD 0 B 1)) (B := (B.drop (gD 0 B 1))) hl hn9 hp3 hB3 (Decidable.not_not.1 (of_decide_eq_false hc9)) hg (deep := deep) hdp (ih (of_decide_eq_false hc24))) (by kernel_rfl) ?_
    rintro v28 I28 w28 b28 le28 - h28 s
    obtain ⟨bi28, pi28, rfl, rfl, h28_0⟩ := h28
    have hB27 := next_B (d := (ndG g (B.drop (gD 0 B 1))).d) hB3
    have hp27 := next_p (d := (ndG g (B.drop (gD 0 B 1))).d) hp3 hB3 ((ndG_ok hg).d _)
    refine ops_rule (C := []) [(r, .cells #[.slice a l.length c, .int .i64 ((p + (gD 0 B 1) + ((ndG g (B.drop (gD 0 B 1))).d) : Nat) : Int), .int .i64 (((ndG g (B.drop (gD 0 B 1))).e : Nat) : Int)] 102), ((φ1 0), .cells #[.pointer (some ⟨r, 0, none⟩)] 104), ((φ1 1), .cells #[.int .u64 0, .pointer none] 30)] [] 4 [.o 2, .o 2] 0 (fun φ29 => [(5, .int .i64 (((ndG g (B.drop (gD 0 B 1))).er : Nat) : Int)), (40, .int .i64 (((ndG g (B.drop (gD 0 B 1))).er : Nat) : Int)), (39, .agg #[.int .u64 ((bi28 : Nat) : Int), .pointer pi28])]) (fun φ29 => [(r, .cells #[.slice a l.length c, .int .i64 ((p + (gD 0 B 1) + ((ndG g (B.drop (gD 0 B 1))).d) : Nat) : Int), .int .i64 (((ndG g (B.drop (gD 0 B 1))).e : Nat) : Int)] 102), ((φ1 0), .cells #[.pointer (some ⟨r, 0, none⟩)] 104), ((φ1 1), .cells #[.int .u64 ((bi28 : Nat) : Int), .pointer pi28] 30)]) (fun φ29 => [(φ1 1), (φ1 1)]) s trivial (fun φ29 => by kernel_rfl) ?_
    intro φ29 w29 s
    refine ops_done (by kernel_rfl) ?_
    refine wp_ret ?_
    refine ret_rule (C := []) [(r, .cells #[.slice a l.length c, .int .i64 ((p + (gD 0 B 1) + ((ndG g (B.drop (gD 0 B 1))).d) : Nat) : Int), .int .i64 (((ndG g (B.drop (gD 0 B 1))).e : Nat) : Int)] 102), ((φ1 0), .cells #[.pointer (some ⟨r, 0, none⟩)] 104), ((φ1 1), .cells #[.int .u64 ((bi28 : Nat) : Int), .pointer pi28] 30)] [] (.tuple #[.agg #[.int .u64 ((bi28 : Nat) : Int), .pointer pi28], .int .i64 (((ndG g (B.drop (gD 0 B 1))).er : Nat) : Int)]) [.o 2, .o 2] [(φ1 1), (φ1 1)] s trivial (by kernel_rfl) ?_
    replace s := s.drop (List.Sublist.append (List.Sublist.cons₂ _ (List.Sublist.cons _ (List.Sublist.cons _ List.Sublist.slnil))) (List.Sublist.refl []))
    have e9 : evN g last B = ⟨(ndG g (B.drop (gD 0 B 1))).t, (ndG g (B.drop (gD 0 B 1))).er, (gD 0 B 1) + ((ndG g (B.drop (gD 0 B 1))).d), (ndG g (B.drop (gD 0 B 1))).e⟩ := by unfold evN; rw [if_neg (of_decide_eq_false hc9), if_neg (of_decide_eq_false hc12), if_neg (show ¬ last = true by rw [hlast, hc24]; decide)]
    exact ⟨_, _, _, rfl, s, (by rw [e9]; exact ⟨_, rfl, rfl, _, _, rfl, (by simp only [Nat.add_assoc, Nat.add_zero]), h28_0⟩)⟩

theorem evG_c : ∀ (f : Nat) {I : IM} {l : List UInt8} {a : Option Addr} {c : Nat} {r p e : Nat} {B : List Bool} (_ : BSl I l (.slice a l.length c)) (_ : l.length ≤ 1000000) (_ : p ≤ l.length * 8) (_ : (bitsL l).drop p = B) (_ : e = 0) {deep : Nat} (_ : deep + f = 16), FunM Try.prog 60 #[.agg #[.pointer (some ⟨r, 0, none⟩)], .int .i64 ((deep : Nat) : Int)] I [(r, .cells #[.slice a l.length c, .int .i64 ((p : Nat) : Int), .int .i64 ((e : Nat) : Int)] 102)] (fun v J H' => ∃ b' : OB, H' = [b'] ∧ b'.1 = r ∧ ∃ bi pi, v = .tuple #[.agg #[.int .u64 ((bi : Nat) : Int), .pointer pi], .int .i64 (((evG f B).er : Nat) : Int)] ∧ b' = (r, .cells #[.slice a l.length c, .int .i64 ((p + (evG f B).d : Nat) : Int), .int .i64 (((evG f B).e : Nat) : Int)] 102) ∧ Ev.ERep J (evG f B).t bi pi)
  | 0, _, _, _, _, _, _, _, _, hl, hn9, hp, hB, he, deep, hd => event_step hl hn9 hp hB he okZE (by omega) (decide_eq_true (by omega)).symm (fun q => absurd (show deep = 16 by omega) q)
  | f + 1, _, _, _, _, _, _, _, _, hl, hn9, hp, hB, he, deep, hd => event_step hl hn9 hp hB he (evG_ok f) (by omega) (decide_eq_false (by omega)).symm (fun _ {J} {p} {e} {B} a1 a2 a3 a4 => evG_c f a1 hn9 a2 a3 a4 (by omega))

end Go.Proofs.Ytgmigcmhnmmdkaa
/- What stands at the end of bits; stamps that are read. -/
set_option linter.all false
namespace Go.Proofs.Ytgmigcmhnmmdkaa

/-- nothing is left but noughts, up to a whole byte -/
def enB (X : List Bool) : Nat := if 8 ≤ X.length ∨ X.any id = true then 6 else 0
theorem bits_at {l : List UInt8} {p i : Nat} (h : p + i < l.length * 8) : ((bitsL l).drop p)[i]? = some (bitB l (p + i)) := by
  rw [List.getElem?_drop]
  unfold bitsL
  rw [List.getElem?_map, List.getElem?_range h]; rfl
theorem one_any {l : List UInt8} {p : Nat} : oneL l p = ((bitsL l).drop p).any id := by
  unfold oneL
  rw [Bool.eq_iff_iff, List.any_eq_true, List.any_eq_true]
  constructor
  · rintro ⟨i, hi, hb⟩
    have hi' := List.mem_range.1 hi
    exact ⟨_, List.mem_of_getElem? (bits_at (by omega)), hb⟩
  · rintro ⟨x, hx, hb⟩
    obtain ⟨i, hi, rfl⟩ := List.mem_iff_getElem.1 hx
    have hi' := hi
    rw [dropB_len] at hi'
    refine ⟨i, List.mem_range.2 hi', ?_⟩
    have := bits_at (l := l) (p := p) (i := i) (by omega)
    rw [List.getElem?_eq_getElem hi] at this
    rw [← Option.some.inj this]; exact hb
theorem eo_en {l : List UInt8} {p : Nat} : eoE l p 0 = enB ((bitsL l).drop p) := by
  unfold eoE enB; rw [one_any, dropB_len]; simp
theorem enB_zeros {z : Nat} (h : z < 8) : enB (List.replicate z false) = 0 := by
  unfold enB; rw [if_neg]; simp; omega
theorem pk_bits (bs : List Bool) : ∃ z, z < 8 ∧ bitsL (pk bs) = bs ++ List.replicate z false := by
  have hl := pk_len bs
  refine ⟨(pk bs).length * 8 - bs.length, by omega, ?_⟩
  apply List.ext_getElem?
  intro i
  by_cases h : i < (pk bs).length * 8
  · have h1 := bits_at (l := pk bs) (p := 0) (i := i) (by omega)
    rw [List.drop_zero, Nat.zero_add, pk_bit] at h1
    rw [h1]
    by_cases hb : i < bs.length
    · rw [List.getElem?_append_left hb, List.getD_eq_getElem?_getD, List.getElem?_eq_getElem hb]; rfl
    · rw [List.getElem?_append_right (by omega), List.getElem?_replicate, if_pos (by omega), List.getD_eq_getElem?_getD, List.getElem?_eq_none (by omega)]; rfl
  · rw [List.getElem?_eq_none (by rw [bitsL_len]; omega), List.getElem?_eq_none (by rw [List.length_append, List.length_replicate]; omega)]
theorem putBits_mod (x k : Nat) : putBits x k = putBits (x % 2 ^ k) k := by
  unfold putBits
  apply List.map_congr_left
  intro i hi
  have hi' : i < k := by simpa using hi
  unfold bitF
  congr 1
  have e : 2 ^ k = 2 ^ (k - 1 - i) * 2 ^ (i + 1) := by rw [← Nat.pow_add]; congr 1; omega
  rw [e, Nat.mod_mul_right_div_self, Nat.pow_succ, Nat.mul_comm (2 ^ i), Nat.mod_mul_right_mod]
theorem put_back (n k : Nat) (X : List Bool) : gV 0 (putBits n k ++ X) k = n % 2 ^ k ∧ gD 0 (putBits n k ++ X) k = k ∧ gE 0 (putBits n k ++ X) k = 0 := by
  have h : k ≤ (putBits n k ++ X).length := by rw [List.length_append, putBits_len]; omega
  refine ⟨?_, ?_, ?_⟩
  · unfold gV; rw [if_pos ⟨rfl, h⟩, putBits_mod, rdB_put (Nat.mod_lt _ (Nat.two_pow_pos k))]
  · unfold gD; rw [if_pos ⟨rfl, h⟩]
  · unfold gE; rw [if_neg (fun q => by omega)]
end Go.Proofs.Ytgmigcmhnmmdkaa
/- Stamps, ids and events are read of bytes. -/
set_option linter.all false
set_option maxRecDepth 100000
namespace Go.Proofs.Ytgmigcmhnmmdkaa
open Go.RowKit Go.Sep
attribute [local irreducible] Go.wpList Go.Code.wp

set_option maxHeartbeats 1000000 in
theorem getID_c {I : IM} {l : List UInt8} {a : Option Addr} {c : Nat} {r p e : Nat} {B : List Bool} (hl : BSl I l (.slice a l.length c)) (hn9 : l.length ≤ 1000000) (hp : p ≤ l.length * 8) (hB : (bitsL l).drop p = B) (he : e = 0) : FunM Try.prog 29 #[.pointer (some ⟨r, 0, none⟩)] I [(r, .cells #[.slice a l.length c, .int .i64 ((p : Nat) : Int), .int .i64 ((e : Nat) : Int)] 102)] (fun v J H' => ∃ b' : OB, H' = [b'] ∧ b'.1 = r ∧ ∃ bi pi, v = .tuple #[.agg #[.bool bi, .pointer pi], .int .i64 (((idG 16 B).er : Nat) : Int)] ∧ b' = (r, .cells #[.slice a l.length c, .int .i64 ((p + (idG 16 B).d : Nat) : Int), .int .i64 (((idG 16 B).e : Nat) : Int)] 102) ∧ Ev.TRep J (idG 16 B).t bi pi) := by
 refine enterM_rule 9 [(0, .pointer (some ⟨r, 0, none⟩))] Try.func29 rfl (by kernel_rfl) ?_
 intro w s
 refine wp_seq ?_
 refine region_rule ?_
 refine ops_rule (C := []) [(r, .cells #[.slice a l.length c, .int .i64 ((p : Nat) : Int), .int .i64 ((e : Nat) : Int)] 102)] [] 2 [] 1 (fun φ1 => [(3, .int .i64 0), (2, .pointer (some ⟨(φ1 0), 0, none⟩))]) (fun φ1 => [(r, .cells #[.slice a l.length c, .int .i64 ((p : Nat) : Int), .int .i64 ((e : Nat) : Int)] 102), ((φ1 0), .cells #[.bool false, .pointer none] 26)]) (fun φ1 => []) s trivial (fun φ1 => by kernel_rfl) ?_
 intro φ1 w1 s
 refine ops_done (by kernel_rfl) ?_
 refine wp_seq ?_
 refine region_rule ?_
 refine ops_rule (C := []) [(r, .cells #[.slice a l.length c, .int .i64 ((p : Nat) : Int), .int .i64 ((e : Nat) : Int)] 102), ((φ1 0), .cells #[.bool false, .pointer none] 26)] [] 2 [] 0 (fun φ2 => [(5, .agg #[.pointer (some ⟨r, 0, none⟩)]), (4, .pointer (some ⟨r, 0, none⟩))]) (fun φ2 => [(r, .cells #[.slice a l.length c, .int .i64 ((p : Nat) : Int), .int .i64 ((e : Nat) : Int)] 102), ((φ1 0), .cells #[.bool false, .pointer none] 26)]) (fun φ2 => []) s trivial (fun φ2 => by kernel_rfl) ?_
 intro φ2 w2 s
 refine callB_rule (b := (r, .cells #[.slice a l.length c, .int .i64 ((p : Nat) : Int), .int .i64 ((e : Nat) : Int)] 102)) (H := [(r, .cells #[.slice a l.length c, .int .i64 ((p : Nat) : Int), .int .i64 ((e : Nat) : Int)] 102), ((φ1 0), .cells #[.bool false, .pointer none] 26)]) (F := []) (Hr := [((φ1 0), .cells #[.bool false, .pointer none] 26)]) (some 6) 0 s (by kernel_rfl) (by kernel_rfl) (idG_c 16 (r := r) (p := p) (B := B) hl hn9 hp hB he (deep := 0) rfl) (by kernel_rfl) ?_
 rintro v4 I4 w4 b4 le4 - h4 s
 obtain ⟨bi4, pi4, rfl, rfl, h4_0⟩ := h4
 have hB3 := next_B (d := (idG 16 B).d) hB
 have hp3 := next_p (d := (idG 16 B).d) hp hB ((idG_ok 16).d _)
 refine ops_rule (C := []) [(r, .cells #[.slice a l.length c, .int .i64 ((p + ((idG 16 B).d) : Nat) : Int), .int .i64 (((idG 16 B).e : Nat) : Int)] 102), ((φ1 0), .cells #[.bool false, .pointer none] 26)] [] 4 [.o 1, .o 1] 0 (fun φ5 => [(3, .int .i64 (((idG 16 B).er : Nat) : Int)), (8, .int .i64 (((idG 16 B).er : Nat) : Int)), (7, .agg #[.bool bi4, .pointer pi4])]) (fun φ5 => [(r, .cells #[.slice a l.length c, .int .i64 ((p + ((idG 16 B).d) : Nat) : Int), .int .i64 (((idG 16 B).e : Nat) : Int)] 102), ((φ1 0), .cells #[.bool bi4, .pointer pi4] 26)]) (fun φ5 => [(φ1 0), (φ1 0)]) s trivial (fun φ5 => by kernel_rfl) ?_
 intro φ5 w5 s
 refine ops_done (by kernel_rfl) ?_
 refine wp_ret ?_
 refine ret_rule (C := []) [(r, .cells #[.slice a l.length c, .int .i64 ((p + ((idG 16 B).d) : Nat) : Int), .int .i64 (((idG 16 B).e : Nat) : Int)] 102), ((φ1 0), .cells #[.bool bi4, .pointer pi4] 26)] [] (.tuple #[.agg #[.bool bi4, .pointer pi4], .int .i64 (((idG 16 B).er : Nat) : Int)]) [.o 1, .o 1] [(φ1 0), (φ1 0)] s trivial (by kernel_rfl) ?_
 replace s := s.drop (List.Sublist.append (List.Sublist.cons₂ _ (List.Sublist.cons _ List.Sublist.slnil)) (List.Sublist.refl []))
 exact ⟨_, _, _, rfl, s, ⟨_, rfl, rfl, _, _, rfl, rfl, h4_0⟩⟩

set_option maxHeartbeats 1000000 in
theorem getEvent_c {I : IM} {l : List UInt8} {a : Option Addr} {c : Nat} {r p e : Nat} {B : List Bool} (hl : BSl I l (.slice a l.length c)) (hn9 : l.length ≤ 1000000) (hp : p ≤ l.length * 8) (hB : (bitsL l).drop p = B) (he : e = 0) : FunM Try.prog 28 #[.pointer (some ⟨r, 0, none⟩)] I [(r, .cells #[.slice a l.length c, .int .i64 ((p : Nat) : Int), .int .i64 ((e : Nat) : Int)] 102)] (fun v J H' => ∃ b' : OB, H' = [b'] ∧ b'.1 = r ∧ ∃ bi pi, v = .tuple #[.agg #[.int .u64 ((bi : Nat) : Int), .pointer pi], .int .i64 (((evG 16 B).er : Nat) : Int)] ∧ b' = (r, .cells #[.slice a l.length c, .int .i64 ((p + (evG 16 B).d : Nat) : Int), .int .i64 (((evG 16 B).e : Nat) : Int)] 102) ∧ Ev.ERep J (evG 16 B).t bi pi) := by
 refine enterM_rule 9 [(0, .pointer (some ⟨r, 0, none⟩))] Try.func28 rfl (by kernel_rfl) ?_
 intro w s
 refine wp_seq ?_
 refine region_rule ?_
 refine ops_rule (C := []) [(r, .cells #[.slice a l.length c, .int .i64 ((p : Nat) : Int), .int .i64 ((e : Nat) : Int)] 102)] [] 2 [] 1 (fun φ1 => [(3, .int .i64 0), (2, .pointer (some ⟨(φ1 0), 0, none⟩))]) (fun φ1 => [(r, .cells #[.slice a l.length c, .int .i64 ((p : Nat) : Int), .int .i64 ((e : Nat) : Int)] 102), ((φ1 0), .cells #[.int .u64 0, .pointer none] 30)]) (fun φ1 => []) s trivial (fun φ1 => by kernel_rfl) ?_
 intro φ1 w1 s
 refine ops_done (by kernel_rfl) ?_
 refine wp_seq ?_
 refine region_rule ?_
 refine ops_rule (C := []) [(r, .cells #[.slice a l.length c, .int .i64 ((p : Nat) : Int), .int .i64 ((e : Nat) : Int)] 102), ((φ1 0), .cells #[.int .u64 0, .pointer none] 30)] [] 2 [] 0 (fun φ2 => [(5, .agg #[.pointer (some ⟨r, 0, none⟩)]), (4, .pointer (some ⟨r, 0, none⟩))]) (fun φ2 => [(r, .cells #[.slice a l.length c, .int .i64 ((p : Nat) : Int), .int .i64 ((e : Nat) : Int)] 102), ((φ1 0), .cells #[.int .u64 0, .pointer none] 30)]) (fun φ2 => []) s trivial (fun φ2 => by kernel_rfl) ?_
 intro φ2 w2 s
 refine callB_rule (b := (r, .cells #[.slice a l.length c, .int .i64 ((p : Nat) : Int), .int .i64 ((e : Nat) : Int)] 102)) (H := [(r, .cells #[.slice a l.length c, .int .i64 ((p : Nat) : Int), .int .i64 ((e : Nat) : Int)] 102), ((φ1 0), .cells #[.int .u64 0, .pointer none] 30)]) (F := []) (Hr := [((φ1 0), .cells #[.int .u64 0, .pointer none] 30)]) (some 6) 0 s (by kernel_rfl) (by kernel_rfl) (evG_c 16 (r := r) (p := p) (B := B) hl hn9 hp hB he (deep := 0) rfl) (by kernel_rfl) ?_
 rintro v4 I4 w4 b4 le4 - h4 s
 obtain ⟨bi4, pi4, rfl, rfl, h4_0⟩ := h4
 have hB3 := next_B (d := (evG 16 B).d) hB
 have hp3 := next_p (d := (evG 16 B).d) hp hB ((evG_ok 16).d _)
 refine ops_rule (C := []) [(r, .cells #[.slice a l.length c, .int .i64 ((p + ((evG 16 B).d) : Nat) : Int), .int .i64 (((evG 16 B).e : Nat) : Int)] 102), ((φ1 0), .cells #[.int .u64 0, .pointer none] 30)] [] 4 [.o 1, .o 1] 0 (fun φ5 => [(3, .int .i64 (((evG 16 B).er : Nat) : Int)), (8, .int .i64 (((evG 16 B).er : Nat) : Int)), (7, .agg #[.int .u64 ((bi4 : Nat) : Int), .pointer pi4])]) (fun φ5 => [(r, .cells #[.slice a l.length c, .int .i64 ((p + ((evG 16 B).d) : Nat) : Int), .int .i64 (((evG 16 B).e : Nat) : Int)] 102), ((φ1 0), .cells #[.int .u64 ((bi4 : Nat) : Int), .pointer pi4] 30)]) (fun φ5 => [(φ1 0), (φ1 0)]) s trivial (fun φ5 => by kernel_rfl) ?_
 intro φ5 w5 s
 refine ops_done (by kernel_rfl) ?_
 refine wp_ret ?_
 refine ret_rule (C := []) [(r, .cells #[.slice a l.length c, .int .i64 ((p + ((evG 16 B).d) : Nat) : Int), .int .i64 (((evG 16 B).e : Nat) : Int)] 102), ((φ1 0), .cells #[.int .u64 ((bi4 : Nat) : Int), .pointer pi4] 30)] [] (.tuple #[.agg #[.int .u64 ((bi4 : Nat) : Int), .pointer pi4], .int .i64 (((evG 16 B).er : Nat) : Int)]) [.o 1, .o 1] [(φ1 0), (φ1 0)] s trivial (by kernel_rfl) ?_
 replace s := s.drop (List.Sublist.append (List.Sublist.cons₂ _ (List.Sublist.cons _ List.Sublist.slnil)) (List.Sublist.refl []))
 exact ⟨_, _, _, rfl, s, ⟨_, rfl, rfl, _, _, rfl, rfl, h4_0⟩⟩

theorem endK_c {I : IM} {l : List UInt8} {a : Option Addr} {c : Nat} {r p e : Nat} {B : List Bool} (hl : BSl I l (.slice a l.length c)) (hn9 : l.length ≤ 1000000) (hp : p ≤ l.length * 8) (hB : (bitsL l).drop p = B) (he : e = 0) : FunM Try.prog 31 #[.pointer (some ⟨r, 0, none⟩)] I [(r, .cells #[.slice a l.length c, .int .i64 ((p : Nat) : Int), .int .i64 ((e : Nat) : Int)] 102)] (fun v J H' => ∃ b' : OB, H' = [b'] ∧ b'.1 = r ∧ v = .int .i64 ((enB B : Nat) : Int) ∧ b' = (r, .cells #[.slice a l.length c, .int .i64 ((p : Nat) : Int), .int .i64 ((enB B : Nat) : Int)] 102)) := by
  subst he
  have h := endR_c (r := r) (p := p) (e := 0) hl hn9 hp
  rw [eo_en, hB] at h
  exact h

end Go.Proofs.Ytgmigcmhnmmdkaa
