/- The program reads. -/
import Derived.Test.YtcpmjogeafhpnaaDoorPrM13
set_option linter.all false
set_option maxRecDepth 100000
namespace Go.Proofs.YtcpmjogeafhpnaaDoor
open Go.RowKit Go.Sep
attribute [local irreducible] Go.wpList Go.Code.wp

set_option maxHeartbeats 2000000 in
theorem byteG_c {I : IM} {l : List UInt8} {a : Option Addr} {k c r e : Nat} (hl : BSl I l (.slice a k c)) (hn9 : l.length ≤ 1000000) : FunM Tryd.prog 55 #[.pointer (some ⟨r, 0, none⟩)] I [(r, .cells #[.slice a k c, .int .i64 ((e : Nat) : Int)] 126)] (fun v J H' => ∃ b' : OB, H' = [b'] ∧ b'.1 = r ∧ ∃ (a' : Option Addr) (k' c' : Nat), v = .int .u8 ((byV l e : Nat) : Int) ∧ b' = (r, .cells #[.slice a' k' c', .int .i64 ((byE l e : Nat) : Int)] 126) ∧ BSl J (l.drop (byD l e)) (.slice a' k' c')) := by
 obtain ⟨rfl, -⟩ := hl.cap
 refine enterM_rule 31 [(0, pB r)] Tryd.func55 rfl (by kernel_rfl) ?_
 intro w s
 refine seqR ?_
 refine oKD [(r, .cells #[.slice a l.length c, .int .i64 e] 126)] [] 1 [] 0 (fun φ1 => [(2, .int .u8 0)]) (fun φ1 => []) s (fun φ1 => by kernel_rfl) (by kernel_rfl) ?_
 intro φ1 w1 s
 refine wp_seq ?_
 refine seqR ?_
 refine oK _ [] 1 [] 0 (fun φ2 => [(4, pB r)]) (fun φ2 => []) s (fun φ2 => by kernel_rfl) ?_
 intro φ2 w2 s
 refine callB_rule (b := (r, .cells #[.slice a l.length c, .int .i64 e] 126)) (F := []) (Hr := []) (some 5) 0 s (by kernel_rfl) (by kernel_rfl) (errI_c (r := r) (v0 := .slice a l.length c) (e := e)) (by kernel_rfl) ?_
 rintro v3 I3 w3 b3 le3 - h3 s
 replace hl := BSl.mono le3 hl
 obtain ⟨rfl, rfl⟩ := h3
 refine oK _ [] 1 [] 0 (fun φ4 => [(6, .bool (((e : Nat) : Int) != ((0 : Nat) : Int)))]) (fun φ4 => []) s (fun φ4 => by kernel_rfl) ?_
 intro φ4 w4 s
 rw [nat_neq (a := e) (b := 0)]
 refine ops_done (by kernel_rfl) ?_
 rcases Bool.eq_false_or_eq_true (decide (e ≠ 0)) with hc5 | hc5
 ·
  rw [hc5]
  refine cond_true_rule (b := true) (by kernel_rfl) rfl ?_
  refine seqR ?_
  refine oKD _ [] 1 [] 0 (fun φ6 => [(2, .int .u8 0)]) (fun φ6 => []) s (fun φ6 => by kernel_rfl) (by kernel_rfl) ?_
  intro φ6 w6 s
  refine wp_ret ?_
  refine ret_rule (C := []) _ [] (.int .u8 0) [] [] s trivial (by kernel_rfl) ?_
  exact ⟨_, _, _, rfl, s, (by have hq0 := dT9 hc5;  exact ⟨_, rfl, rfl, _, _, _, (by unfold byV; first | (rw [if_pos (by omega)]; try rfl) | (rw [if_neg (by omega)]; try rfl)), (by unfold byE; first | (rw [if_pos (by omega)]; try rfl) | (rw [if_neg (by omega)]; try rfl)), bsl_eq hl (by unfold byD; first | (rw [if_pos (by omega)]; done) | (rw [if_neg (by omega)]; done) | (rw [if_pos (by omega)]; rfl) | (rw [if_neg (by omega)]; rfl))⟩)⟩
 ·
  rw [hc5]
  refine cond_false_rule (b := false) (by kernel_rfl) rfl ?_
  refine wp_skip ?_
  refine wp_seq ?_
  refine seqR ?_
  refine oK _ [] 6 [.o 0] 0 (fun φ7 => [(12, .bool (((l.length : Nat) : Int) == ((0 : Nat) : Int))), (11, .int .i64 l.length), (10, .slice a l.length c), (9, pB r), (8, pB r), (7, pB r)]) (fun φ7 => [r]) s (fun φ7 => by kernel_rfl) ?_
  intro φ7 w7 s
  rw [nat_eql (a := l.length) (b := 0)]
  refine ops_done (by kernel_rfl) ?_
  rcases Bool.eq_false_or_eq_true (decide (l.length = 0)) with hc8 | hc8
  ·
   rw [hc8]
   refine cond_true_rule (b := true) (by kernel_rfl) rfl ?_
   refine seqR ?_
   refine oAD _ [] 4 [.o 0] 0 (fun φ9 => [(15, .pointer (some ⟨r, 1, none⟩)), (14, pB r), (13, pB r)]) (fun φ9 => [(r, .cells #[.slice a l.length c, .int .i64 6] 126)]) (fun φ9 => [r]) s (fun φ9 => by kernel_rfl) (by kernel_rfl) ?_
   intro φ9 w9 s
   refine seqR ?_
   refine oKD _ [] 1 [] 0 (fun φ10 => [(2, .int .u8 0)]) (fun φ10 => []) s (fun φ10 => by kernel_rfl) (by kernel_rfl) ?_
   intro φ10 w10 s
   refine wp_ret ?_
   refine ret_rule (C := []) _ [] (.int .u8 0) [] [] s trivial (by kernel_rfl) ?_
   exact ⟨_, _, _, rfl, s, (by have hq0 := dF9 hc5; have hq1 := dT9 hc8;  exact ⟨_, rfl, rfl, _, _, _, (by unfold byV; first | (rw [if_pos (by omega)]; try rfl) | (rw [if_neg (by omega)]; try rfl)), (by unfold byE; first | (rw [if_pos (by omega)]; try rfl) | (rw [if_neg (by omega)]; try rfl)), bsl_eq hl (by unfold byD; first | (rw [if_pos (by omega)]; done) | (rw [if_neg (by omega)]; done) | (rw [if_pos (by omega)]; rfl) | (rw [if_neg (by omega)]; rfl))⟩)⟩
  ·
   rw [hc8]
   refine cond_false_rule (b := false) (by kernel_rfl) rfl ?_
   refine wp_skip ?_
   refine seqR ?_
   refine oK _ [] 4 [.o 0] 0 (fun φ11 => [(19, .slice a l.length c), (18, pB r), (17, pB r), (16, pB r)]) (fun φ11 => [r]) s (fun φ11 => by kernel_rfl) ?_
   intro φ11 w11 s
   refine sem_rule (Instr.indexAt 61 (.slice a l.length c) (.int .i64 ((0 : Nat) : Int))) (some 20) (.pointer (pAt a 0)) (by kernel_rfl) (bsl_idx hl (by  have hq0 := dF9 hc5; have hq1 := dF9 hc8; omega)) ?_
   refine sem_rule (Instr.loadAt 5 (.pointer (pAt a 0))) (some 21) (.int .u8 (((l.getD 0 0).toNat : Nat) : Int)) (by kernel_rfl) (bsl_ld s.sub hl (by  have hq0 := dF9 hc5; have hq1 := dF9 hc8; omega)) ?_
   refine oKD _ [] 1 [] 0 (fun φ12 => [(3, .int .u8 (((l.getD 0 0).toNat : Nat) : Int))]) (fun φ12 => []) s (fun φ12 => by kernel_rfl) (by kernel_rfl) ?_
   intro φ12 w12 s
   refine seqR ?_
   refine oK _ [] 5 [.o 0] 0 (fun φ13 => [(26, .slice a l.length c), (25, pB r), (24, pB r), (23, pB r), (22, pB r)]) (fun φ13 => [r]) s (fun φ13 => by kernel_rfl) ?_
   intro φ13 w13 s
   refine sem_rule (Instr.sliceAt 61 (.slice a l.length c) (some (.int .i64 ((1 : Nat) : Int))) none none) (some 27) (.slice (subA a 1 c) (l.length - 1) (c - 1)) (by kernel_rfl) (run_from (by have hcp := (BSl.cap hl).2; (try simp only [List.length_drop, List.length_take, List.length_append, List.length_cons, List.length_nil] at hcp ⊢);  have hq0 := dF9 hc5; have hq1 := dF9 hc8; omega)) ?_
   refine oAD _ [] 3 [.o 0] 0 (fun φ14 => [(29, pB r), (28, pB r)]) (fun φ14 => [(r, .cells #[.slice (subA a 1 c) (l.length - 1) (c - 1), .int .i64 e] 126)]) (fun φ14 => [r]) s (fun φ14 => by kernel_rfl) (by kernel_rfl) ?_
   intro φ14 w14 s
   refine seqR ?_
   refine oKD _ [] 2 [] 0 (fun φ15 => [(2, .int .u8 (((l.getD 0 0).toNat : Nat) : Int)), (30, .int .u8 (((l.getD 0 0).toNat : Nat) : Int))]) (fun φ15 => []) s (fun φ15 => by kernel_rfl) (by kernel_rfl) ?_
   intro φ15 w15 s
   refine wp_ret ?_
   refine ret_rule (C := []) _ [] (.int .u8 (((l.getD 0 0).toNat : Nat) : Int)) [] [] s trivial (by kernel_rfl) ?_
   exact ⟨_, _, _, rfl, s, (by have hq0 := dF9 hc5; have hq1 := dF9 hc8;  exact ⟨_, rfl, rfl, _, _, _, (by unfold byV; first | (rw [if_pos (by omega)]; try rfl) | (rw [if_neg (by omega)]; try rfl)), (by unfold byE; first | (rw [if_pos (by omega)]; try rfl) | (rw [if_neg (by omega)]; try rfl)), bsl_eq (bsl_from (lo := 1) hl (by have hcp := (BSl.cap hl).2; (try simp only [List.length_drop, List.length_take, List.length_append, List.length_cons, List.length_nil] at hcp ⊢);  have hq0 := dF9 hc5; have hq1 := dF9 hc8; omega)) (by unfold byD; first | (rw [if_pos (by omega)]; done) | (rw [if_neg (by omega)]; done) | (rw [if_pos (by omega)]; rfl) | (rw [if_neg (by omega)]; rfl))⟩)⟩

set_option maxHeartbeats 2000000 in
theorem numG_c {I : IM} {l : List UInt8} {a : Option Addr} {k c r e : Nat} (hl : BSl I l (.slice a k c)) (hn9 : l.length ≤ 1000000) : FunM Tryd.prog 114 #[.pointer (some ⟨r, 0, none⟩)] I [(r, .cells #[.slice a k c, .int .i64 ((e : Nat) : Int)] 126)] (fun v J H' => ∃ b' : OB, H' = [b'] ∧ b'.1 = r ∧ ∃ (a' : Option Addr) (k' c' : Nat), v = .int .u64 ((nuV l e : Nat) : Int) ∧ b' = (r, .cells #[.slice a' k' c', .int .i64 ((nuE l e : Nat) : Int)] 126) ∧ BSl J (l.drop (nuD l e)) (.slice a' k' c')) := by
 obtain ⟨rfl, -⟩ := hl.cap
 refine enterM_rule 31 [(0, pB r)] Tryd.func114 rfl (by kernel_rfl) ?_
 intro w s
 refine seqR ?_
 refine oKD [(r, .cells #[.slice a l.length c, .int .i64 e] 126)] [] 1 [] 0 (fun φ1 => [(2, .int .u64 0)]) (fun φ1 => []) s (fun φ1 => by kernel_rfl) (by kernel_rfl) ?_
 intro φ1 w1 s
 refine wp_seq ?_
 refine seqR ?_
 refine oK _ [] 1 [] 0 (fun φ2 => [(5, pB r)]) (fun φ2 => []) s (fun φ2 => by kernel_rfl) ?_
 intro φ2 w2 s
 refine callB_rule (b := (r, .cells #[.slice a l.length c, .int .i64 e] 126)) (F := []) (Hr := []) (some 6) 0 s (by kernel_rfl) (by kernel_rfl) (errI_c (r := r) (v0 := .slice a l.length c) (e := e)) (by kernel_rfl) ?_
 rintro v3 I3 w3 b3 le3 - h3 s
 replace hl := BSl.mono le3 hl
 obtain ⟨rfl, rfl⟩ := h3
 refine oK _ [] 1 [] 0 (fun φ4 => [(7, .bool (((e : Nat) : Int) != ((0 : Nat) : Int)))]) (fun φ4 => []) s (fun φ4 => by kernel_rfl) ?_
 intro φ4 w4 s
 rw [nat_neq (a := e) (b := 0)]
 refine ops_done (by kernel_rfl) ?_
 rcases Bool.eq_false_or_eq_true (decide (e ≠ 0)) with hc5 | hc5
 ·
  rw [hc5]
  refine cond_true_rule (b := true) (by kernel_rfl) rfl ?_
  refine seqR ?_
  refine oKD _ [] 1 [] 0 (fun φ6 => [(2, .int .u64 0)]) (fun φ6 => []) s (fun φ6 => by kernel_rfl) (by kernel_rfl) ?_
  intro φ6 w6 s
  refine wp_ret ?_
  refine ret_rule (C := []) _ [] (.int .u64 0) [] [] s trivial (by kernel_rfl) ?_
  exact ⟨_, _, _, rfl, s, (by have hq0 := dT9 hc5;  exact ⟨_, rfl, rfl, _, _, _, (by have hz9 := @numK_zero l; unfold nuV; first | (rw [if_pos (by omega)]; done) | (rw [if_neg (by omega)]; rfl) | (rw [if_pos (by omega), hz9 (by omega)]; rfl)), (by unfold nuE; first | (rw [if_pos (by omega)]; try rfl) | (rw [if_neg (by omega)]; try rfl)), bsl_eq hl (by unfold nuD; first | (rw [if_pos (by omega)]; done) | (rw [if_neg (by omega)]; rfl) | (rw [if_pos (by omega), show numK l = 0 by omega]; rfl))⟩)⟩
 ·
  rw [hc5]
  refine cond_false_rule (b := false) (by kernel_rfl) rfl ?_
  refine wp_skip ?_
  refine seqR ?_
  refine oK _ [] 4 [.o 0] 0 (fun φ7 => [(12, .slice a l.length c), (11, pB r), (10, pB r), (9, pB r)]) (fun φ7 => [r]) s (fun φ7 => by kernel_rfl) ?_
  intro φ7 w7 s
  refine call_rule (some 13) s (numberG_c hl (by omega)) (by kernel_rfl) ?_
  intro v8 I8 w8 le8 h8 s
  replace hl := BSl.mono le8 hl
  obtain rfl := h8
  refine oKD _ [] 5 [] 0 (fun φ9 => [(4, .int .i64 (numK l)), (3, .int .u64 (numN l)), (15, .int .i64 (numK l)), (14, .int .u64 (numN l)), (8, .tuple #[.int .u64 (numN l), .int .i64 (numK l)])]) (fun φ9 => []) s (fun φ9 => by kernel_rfl) (by kernel_rfl) ?_
  intro φ9 w9 s
  refine wp_seq ?_
  refine seqR ?_
  refine oK _ [] 2 [] 0 (fun φ10 => [(17, .bool (((numK l : Nat) : Int) == ((0 : Nat) : Int))), (16, .int .i64 (numK l))]) (fun φ10 => []) s (fun φ10 => by kernel_rfl) ?_
  intro φ10 w10 s
  rw [nat_eql (a := (numK l)) (b := 0)]
  refine ops_done (by kernel_rfl) ?_
  rcases Bool.eq_false_or_eq_true (decide ((numK l) = 0)) with hc11 | hc11
  ·
   rw [hc11]
   refine cond_true_rule (b := true) (by kernel_rfl) rfl ?_
   refine seqR ?_
   refine oAD _ [] 4 [.o 0] 0 (fun φ12 => [(20, .pointer (some ⟨r, 1, none⟩)), (19, pB r), (18, pB r)]) (fun φ12 => [(r, .cells #[.slice a l.length c, .int .i64 6] 126)]) (fun φ12 => [r]) s (fun φ12 => by kernel_rfl) (by kernel_rfl) ?_
   intro φ12 w12 s
   refine seqR ?_
   refine oKD _ [] 1 [] 0 (fun φ13 => [(2, .int .u64 0)]) (fun φ13 => []) s (fun φ13 => by kernel_rfl) (by kernel_rfl) ?_
   intro φ13 w13 s
   refine wp_ret ?_
   refine ret_rule (C := []) _ [] (.int .u64 0) [] [] s trivial (by kernel_rfl) ?_
   exact ⟨_, _, _, rfl, s, (by have hq0 := dF9 hc5; have hq1 := dT9 hc11;  exact ⟨_, rfl, rfl, _, _, _, (by have hz9 := @numK_zero l; unfold nuV; first | (rw [if_pos (by omega)]; done) | (rw [if_neg (by omega)]; rfl) | (rw [if_pos (by omega), hz9 (by omega)]; rfl)), (by unfold nuE; first | (rw [if_pos (by omega)]; try rfl) | (rw [if_neg (by omega)]; try rfl)), bsl_eq hl (by unfold nuD; first | (rw [if_pos (by omega)]; done) | (rw [if_neg (by omega)]; rfl) | (rw [if_pos (by omega), show numK l = 0 by omega]; rfl))⟩)⟩
  ·
   rw [hc11]
   refine cond_false_rule (b := false) (by kernel_rfl) rfl ?_
   refine wp_skip ?_
   refine seqR ?_
   refine oK _ [] 6 [.o 0] 0 (fun φ14 => [(26, .int .i64 (numK l)), (25, .slice a l.length c), (24, pB r), (23, pB r), (22, pB r), (21, pB r)]) (fun φ14 => [r]) s (fun φ14 => by kernel_rfl) ?_
   intro φ14 w14 s
   refine sem_rule (Instr.sliceAt 61 (.slice a l.length c) (some (.int .i64 (numK l))) none none) (some 27) (.slice (subA a (numK l) c) (l.length - (numK l)) (c - (numK l))) (by kernel_rfl) (run_from (by have hcp := (BSl.cap hl).2; (try simp only [List.length_drop, List.length_take, List.length_append, List.length_cons, List.length_nil] at hcp ⊢); have hk9 := numK_le l; have hn8 := numN_lt l; have hq0 := dF9 hc5; have hq1 := dF9 hc11; omega)) ?_
   refine oAD _ [] 3 [.o 0] 0 (fun φ15 => [(29, pB r), (28, pB r)]) (fun φ15 => [(r, .cells #[.slice (subA a (numK l) c) (l.length - (numK l)) (c - (numK l)), .int .i64 e] 126)]) (fun φ15 => [r]) s (fun φ15 => by kernel_rfl) (by kernel_rfl) ?_
   intro φ15 w15 s
   refine seqR ?_
   refine oKD _ [] 2 [] 0 (fun φ16 => [(2, .int .u64 (numN l)), (30, .int .u64 (numN l))]) (fun φ16 => []) s (fun φ16 => by kernel_rfl) (by kernel_rfl) ?_
   intro φ16 w16 s
   refine wp_ret ?_
   refine ret_rule (C := []) _ [] (.int .u64 (numN l)) [] [] s trivial (by kernel_rfl) ?_
   exact ⟨_, _, _, rfl, s, (by have hq0 := dF9 hc5; have hq1 := dF9 hc11;  exact ⟨_, rfl, rfl, _, _, _, (by have hz9 := @numK_zero l; unfold nuV; first | (rw [if_pos (by omega)]; done) | (rw [if_neg (by omega)]; rfl) | (rw [if_pos (by omega), hz9 (by omega)]; rfl)), (by unfold nuE; first | (rw [if_pos (by omega)]; try rfl) | (rw [if_neg (by omega)]; try rfl)), bsl_eq (bsl_from (lo := numK l) hl (by have hcp := (BSl.cap hl).2; (try simp only [List.length_drop, List.length_take, List.length_append, List.length_cons, List.length_nil] at hcp ⊢); have hk9 := numK_le l; have hn8 := numN_lt l; have hq0 := dF9 hc5; have hq1 := dF9 hc11; omega)) (by unfold nuD; first | (rw [if_pos (by omega)]; done) | (rw [if_neg (by omega)]; rfl) | (rw [if_pos (by omega), show numK l = 0 by omega]; rfl))⟩)⟩

set_option maxHeartbeats 2000000 in
theorem failG_c {I : IM} {l : List UInt8} {a : Option Addr} {k c r e q : Nat} (hl : BSl I l (.slice a k c)) (hn9 : l.length ≤ 1000000) : FunM Tryd.prog 96 #[.pointer (some ⟨r, 0, none⟩), .int .i64 ((q : Nat) : Int)] I [(r, .cells #[.slice a k c, .int .i64 ((e : Nat) : Int)] 126)] (fun v J H' => ∃ b' : OB, H' = [b'] ∧ b'.1 = r ∧ ∃ (a' : Option Addr) (k' c' : Nat), v = .tuple #[] ∧ b' = (r, .cells #[.slice a' k' c', .int .i64 ((faE q e : Nat) : Int)] 126) ∧ BSl J (l.drop (0)) (.slice a' k' c')) := by
 obtain ⟨rfl, -⟩ := hl.cap
 refine enterM_rule 11 [(0, pB r), (1, .int .i64 q)] Tryd.func96 rfl (by kernel_rfl) ?_
 intro w s
 refine seqR ?_
 refine oK [(r, .cells #[.slice a l.length c, .int .i64 e] 126)] [] 1 [] 0 (fun φ1 => [(4, pB r)]) (fun φ1 => []) s (fun φ1 => by kernel_rfl) ?_
 intro φ1 w1 s
 refine callB_rule (b := (r, .cells #[.slice a l.length c, .int .i64 e] 126)) (F := []) (Hr := []) (some 5) 0 s (by kernel_rfl) (by kernel_rfl) (errI_c (r := r) (v0 := .slice a l.length c) (e := e)) (by kernel_rfl) ?_
 rintro v2 I2 w2 b2 le2 - h2 s
 replace hl := BSl.mono le2 hl
 obtain ⟨rfl, rfl⟩ := h2
 refine oK _ [] 1 [] 0 (fun φ3 => [(6, .bool (((e : Nat) : Int) == ((0 : Nat) : Int)))]) (fun φ3 => []) s (fun φ3 => by kernel_rfl) ?_
 intro φ3 w3 s
 rw [nat_eql (a := e) (b := 0)]
 refine ops_done (by kernel_rfl) ?_
 rcases Bool.eq_false_or_eq_true (decide (e = 0)) with hc4 | hc4
 ·
  rw [hc4]
  refine cond_true_rule (b := true) (by kernel_rfl) rfl ?_
  refine region_rule ?_
  refine oAD _ [] 5 [.o 0] 0 (fun φ5 => [(10, .pointer (some ⟨r, 1, none⟩)), (9, pB r), (8, .int .i64 q), (7, pB r)]) (fun φ5 => [(r, .cells #[.slice a l.length c, .int .i64 q] 126)]) (fun φ5 => [r]) s (fun φ5 => by kernel_rfl) (by kernel_rfl) ?_
  intro φ5 w5 s
  refine end_rule (C := []) _ [] (.tuple #[]) [] [] s trivial (by kernel_rfl) ?_
  exact ⟨_, _, _, rfl, s, (by have hq0 := dT9 hc4;  exact ⟨_, rfl, rfl, _, _, _, (by rfl), (by unfold faE; first | (rw [if_pos (by omega)]; try rfl) | (rw [if_neg (by omega)]; try rfl)), bsl_eq hl (by rfl)⟩)⟩
 ·
  rw [hc4]
  refine cond_false_rule (b := false) (by kernel_rfl) rfl ?_
  refine wp_skip ?_
  refine end_rule (C := []) _ [] (.tuple #[]) [] [] s trivial (by kernel_rfl) ?_
  exact ⟨_, _, _, rfl, s, (by have hq0 := dF9 hc4;  exact ⟨_, rfl, rfl, _, _, _, (by rfl), (by unfold faE; first | (rw [if_pos (by omega)]; try rfl) | (rw [if_neg (by omega)]; try rfl)), bsl_eq hl (by rfl)⟩)⟩

set_option maxHeartbeats 2000000 in
theorem endG_c {I : IM} {l : List UInt8} {a : Option Addr} {k c r e : Nat} (hl : BSl I l (.slice a k c)) (hn9 : l.length ≤ 1000000) : FunM Tryd.prog 56 #[.pointer (some ⟨r, 0, none⟩)] I [(r, .cells #[.slice a k c, .int .i64 ((e : Nat) : Int)] 126)] (fun v J H' => ∃ b' : OB, H' = [b'] ∧ b'.1 = r ∧ ∃ (a' : Option Addr) (k' c' : Nat), v = .int .i64 ((enE l e : Nat) : Int) ∧ b' = (r, .cells #[.slice a' k' c', .int .i64 ((enE l e : Nat) : Int)] 126) ∧ BSl J (l.drop (0)) (.slice a' k' c')) := by
 obtain ⟨rfl, -⟩ := hl.cap
 refine enterM_rule 10 [(0, pB r)] Tryd.func56 rfl (by kernel_rfl) ?_
 intro w s
 refine seqR ?_
 refine oKD [(r, .cells #[.slice a l.length c, .int .i64 e] 126)] [] 1 [] 0 (fun φ1 => [(2, .int .i64 0)]) (fun φ1 => []) s (fun φ1 => by kernel_rfl) (by kernel_rfl) ?_
 intro φ1 w1 s
 refine wp_seq ?_
 refine seqR ?_
 refine oK _ [] 1 [] 0 (fun φ2 => [(3, pB r)]) (fun φ2 => []) s (fun φ2 => by kernel_rfl) ?_
 intro φ2 w2 s
 refine callB_rule (b := (r, .cells #[.slice a l.length c, .int .i64 e] 126)) (F := []) (Hr := []) (some 4) 0 s (by kernel_rfl) (by kernel_rfl) (leftI_c (r := r) (a := a) (k := l.length) (c := c) (e := e)) (by kernel_rfl) ?_
 rintro v3 I3 w3 b3 le3 - h3 s
 replace hl := BSl.mono le3 hl
 obtain ⟨rfl, rfl⟩ := h3
 refine oK _ [] 1 [] 0 (fun φ4 => [(5, .bool (decide (((l.length : Nat) : Int) > ((0 : Nat) : Int))))]) (fun φ4 => []) s (fun φ4 => by kernel_rfl) ?_
 intro φ4 w4 s
 rw [nat_gtr (a := l.length) (b := 0)]
 refine ops_done (by kernel_rfl) ?_
 rcases Bool.eq_false_or_eq_true (decide (0 < l.length)) with hc5 | hc5
 ·
  rw [hc5]
  refine cond_true_rule (b := true) (by kernel_rfl) rfl ?_
  refine region_rule ?_
  refine oK _ [] 1 [] 0 (fun φ6 => [(6, pB r)]) (fun φ6 => []) s (fun φ6 => by kernel_rfl) ?_
  intro φ6 w6 s
  refine callB_rule (b := (r, .cells #[.slice a l.length c, .int .i64 e] 126)) (F := []) (Hr := []) (some 7) 0 s (by kernel_rfl) (by kernel_rfl) (failG_c (r := r) (e := e) (q := 6) hl (by omega)) (by kernel_rfl) ?_
  rintro v7 I7 w7 b7 le7 - h7 s
  replace hl := BSl.mono le7 hl
  obtain ⟨a7, k7, c7, rfl, rfl, h7_0⟩ := h7
  refine ops_done (by kernel_rfl) ?_
  refine seqR ?_
  refine oK _ [] 1 [] 0 (fun φ8 => [(8, pB r)]) (fun φ8 => []) s (fun φ8 => by kernel_rfl) ?_
  intro φ8 w8 s
  refine callB_rule (b := (r, .cells #[.slice a7 k7 c7, .int .i64 (faE 6 e)] 126)) (F := []) (Hr := []) (some 9) 0 s (by kernel_rfl) (by kernel_rfl) (errI_c (r := r) (v0 := .slice a7 k7 c7) (e := faE 6 e)) (by kernel_rfl) ?_
  rintro v9 I9 w9 b9 le9 - h9 s
  replace hl := BSl.mono le9 hl
  replace h7_0 := BSl.mono le9 h7_0
  obtain ⟨rfl, rfl⟩ := h9
  refine oKD _ [] 1 [] 0 (fun φ10 => [(2, .int .i64 (faE 6 e))]) (fun φ10 => []) s (fun φ10 => by kernel_rfl) (by kernel_rfl) ?_
  intro φ10 w10 s
  refine wp_ret ?_
  refine ret_rule (C := []) _ [] (.int .i64 (faE 6 e)) [] [] s trivial (by kernel_rfl) ?_
  exact ⟨_, _, _, rfl, s, (by have hq0 := dT9 hc5;  exact ⟨_, rfl, rfl, _, _, _, (by first | rw [enE_pos (by omega)] | rw [enE_none (by omega)]), (by first | rw [enE_pos (by omega)] | rw [enE_none (by omega)]), bsl_eq h7_0 (by rfl)⟩)⟩
 ·
  rw [hc5]
  refine cond_false_rule (b := false) (by kernel_rfl) rfl ?_
  refine wp_skip ?_
  refine seqR ?_
  refine oK _ [] 1 [] 0 (fun φ11 => [(8, pB r)]) (fun φ11 => []) s (fun φ11 => by kernel_rfl) ?_
  intro φ11 w11 s
  refine callB_rule (b := (r, .cells #[.slice a l.length c, .int .i64 e] 126)) (F := []) (Hr := []) (some 9) 0 s (by kernel_rfl) (by kernel_rfl) (errI_c (r := r) (v0 := .slice a l.length c) (e := e)) (by kernel_rfl) ?_
  rintro v12 I12 w12 b12 le12 - h12 s
  replace hl := BSl.mono le12 hl
  obtain ⟨rfl, rfl⟩ := h12
  refine oKD _ [] 1 [] 0 (fun φ13 => [(2, .int .i64 e)]) (fun φ13 => []) s (fun φ13 => by kernel_rfl) (by kernel_rfl) ?_
  intro φ13 w13 s
  refine wp_ret ?_
  refine ret_rule (C := []) _ [] (.int .i64 e) [] [] s trivial (by kernel_rfl) ?_
  exact ⟨_, _, _, rfl, s, (by have hq0 := dF9 hc5;  exact ⟨_, rfl, rfl, _, _, _, (by first | rw [enE_pos (by omega)] | rw [enE_none (by omega)]), (by first | rw [enE_pos (by omega)] | rw [enE_none (by omega)]), bsl_eq hl (by rfl)⟩)⟩

set_option maxHeartbeats 2000000 in
theorem textG_c {I : IM} {l : List UInt8} {a : Option Addr} {k c r e z : Nat} (hl : BSl I l (.slice a k c)) (hn9 : l.length ≤ 1000000) (hz : z < 9223372036854775808) : FunM Tryd.prog 115 #[.pointer (some ⟨r, 0, none⟩), .int .i64 ((z : Nat) : Int)] I [(r, .cells #[.slice a k c, .int .i64 ((e : Nat) : Int)] 126)] (fun v J H' => ∃ b' : OB, H' = [b'] ∧ b'.1 = r ∧ ∃ (a' : Option Addr) (k' c' : Nat), v = .string ⟨(teV l e ((z : Nat) : Int)).toArray⟩ ∧ b' = (r, .cells #[.slice a' k' c', .int .i64 ((teE l e ((z : Nat) : Int) : Nat) : Int)] 126) ∧ BSl J (l.drop (teD l e ((z : Nat) : Int))) (.slice a' k' c')) := by
 obtain ⟨rfl, -⟩ := hl.cap
 refine enterM_rule 62 [(0, pB r), (1, .int .i64 z)] Tryd.func115 rfl (by kernel_rfl) ?_
 intro w s
 refine seqR ?_
 refine oKD [(r, .cells #[.slice a l.length c, .int .i64 e] 126)] [] 1 [] 0 (fun φ1 => [(4, .string ⟨#[]⟩)]) (fun φ1 => []) s (fun φ1 => by kernel_rfl) (by kernel_rfl) ?_
 intro φ1 w1 s
 refine wp_seq ?_
 refine seqR ?_
 refine oK _ [] 1 [] 0 (fun φ2 => [(8, pB r)]) (fun φ2 => []) s (fun φ2 => by kernel_rfl) ?_
 intro φ2 w2 s
 refine callB_rule (b := (r, .cells #[.slice a l.length c, .int .i64 e] 126)) (F := []) (Hr := []) (some 9) 0 s (by kernel_rfl) (by kernel_rfl) (errI_c (r := r) (v0 := .slice a l.length c) (e := e)) (by kernel_rfl) ?_
 rintro v3 I3 w3 b3 le3 - h3 s
 replace hl := BSl.mono le3 hl
 obtain ⟨rfl, rfl⟩ := h3
 refine oK _ [] 1 [] 0 (fun φ4 => [(10, .bool (((e : Nat) : Int) != ((0 : Nat) : Int)))]) (fun φ4 => []) s (fun φ4 => by kernel_rfl) ?_
 intro φ4 w4 s
 rw [nat_neq (a := e) (b := 0)]
 refine ops_done (by kernel_rfl) ?_
 rcases Bool.eq_false_or_eq_true (decide (e ≠ 0)) with hc5 | hc5
 ·
  rw [hc5]
  refine cond_true_rule (b := true) (by kernel_rfl) rfl ?_
  refine seqR ?_
  refine oKD _ [] 1 [] 0 (fun φ6 => [(4, .string ⟨#[]⟩)]) (fun φ6 => []) s (fun φ6 => by kernel_rfl) (by kernel_rfl) ?_
  intro φ6 w6 s
  refine wp_ret ?_
  refine ret_rule (C := []) _ [] (.string ⟨#[]⟩) [] [] s trivial (by kernel_rfl) ?_
  exact ⟨_, _, _, rfl, s, (by have hq0 := dT9 hc5;  exact ⟨_, rfl, rfl, _, _, _, (by unfold teV; first | (rw [if_pos (by unfold okT; omega)]; done) | (rw [if_neg (by unfold okT; omega)]; done) | (rw [if_pos (by unfold okT; omega)]; rfl) | (rw [if_neg (by unfold okT; omega)]; rfl)), (by unfold teE; first | (rw [if_neg (by omega)]; done) | (rw [if_pos (by omega), if_pos (by omega)]; rfl) | (rw [if_pos (by omega), if_neg (by omega), if_pos (by omega)]; rfl) | (rw [if_pos (by omega), if_neg (by omega), if_neg (by omega), if_pos (by omega)]; rfl) | (rw [if_pos (by omega), if_neg (by omega), if_neg (by omega), if_neg (by omega), show e = 0 by omega]; done) | (rw [if_pos (by omega), if_neg (by omega), if_neg (by omega), if_neg (by omega), show e = 0 by omega]; rfl)), bsl_eq hl (by unfold teD; first | (rw [if_neg (by unfold okT; omega)]; rfl) | (rw [if_pos (by unfold okT; omega), ← List.drop_drop]))⟩)⟩
 ·
  rw [hc5]
  refine cond_false_rule (b := false) (by kernel_rfl) rfl ?_
  refine wp_skip ?_
  refine seqR ?_
  refine oK _ [] 4 [.o 0] 0 (fun φ7 => [(15, .slice a l.length c), (14, pB r), (13, pB r), (12, pB r)]) (fun φ7 => [r]) s (fun φ7 => by kernel_rfl) ?_
  intro φ7 w7 s
  refine call_rule (some 16) s (numberG_c hl (by omega)) (by kernel_rfl) ?_
  intro v8 I8 w8 le8 h8 s
  replace hl := BSl.mono le8 hl
  obtain rfl := h8
  refine oKD _ [] 5 [] 0 (fun φ9 => [(6, .int .i64 (numK l)), (5, .int .u64 (numN l)), (18, .int .i64 (numK l)), (17, .int .u64 (numN l)), (11, .tuple #[.int .u64 (numN l), .int .i64 (numK l)])]) (fun φ9 => []) s (fun φ9 => by kernel_rfl) (by kernel_rfl) ?_
  intro φ9 w9 s
  refine seqR ?_
  refine oK _ [] 5 [.o 0] 0 (fun φ10 => [(23, .int .i64 (numK l)), (22, .slice a l.length c), (21, pB r), (20, pB r), (19, pB r)]) (fun φ10 => [r]) s (fun φ10 => by kernel_rfl) ?_
  intro φ10 w10 s
  refine sem_rule (Instr.sliceAt 61 (.slice a l.length c) (some (.int .i64 (numK l))) none none) (some 24) (.slice (subA a (numK l) c) (l.length - (numK l)) (c - (numK l))) (by kernel_rfl) (run_from (by have hcp := (BSl.cap hl).2; (try simp only [List.length_drop, List.length_take, List.length_append, List.length_cons, List.length_nil] at hcp ⊢); have hk9 := numK_le l; have hn8 := numN_lt l; have hq0 := dF9 hc5; omega)) ?_
  refine oKD _ [] 1 [] 0 (fun φ11 => [(7, .slice (subA a (numK l) c) (l.length - (numK l)) (c - (numK l)))]) (fun φ11 => []) s (fun φ11 => by kernel_rfl) (by kernel_rfl) ?_
  intro φ11 w11 s
  refine wp_seq ?_
  refine wp_block ?_
  refine seqR ?_
  refine oK _ [] 3 [] 0 (fun φ12 => [(35, .bool (((numK l : Nat) : Int) == ((0 : Nat) : Int))), (37, .bool (((numK l : Nat) : Int) == ((0 : Nat) : Int))), (36, .int .i64 (numK l))]) (fun φ12 => []) s (fun φ12 => by kernel_rfl) ?_
  intro φ12 w12 s
  rw [nat_eql (a := (numK l)) (b := 0)]
  refine ops_done (by kernel_rfl) ?_
  rcases Bool.eq_false_or_eq_true (decide ((numK l) = 0)) with hc13 | hc13
  ·
   rw [hc13]
   refine cond_true_rule (b := true) (by kernel_rfl) rfl ?_
   refine region_rule ?_
   refine oAD _ [] 4 [.o 0] 0 (fun φ14 => [(40, .pointer (some ⟨r, 1, none⟩)), (39, pB r), (38, pB r)]) (fun φ14 => [(r, .cells #[.slice a l.length c, .int .i64 6] 126)]) (fun φ14 => [r]) s (fun φ14 => by kernel_rfl) (by kernel_rfl) ?_
   intro φ14 w14 s
   refine seqR ?_
   refine oKD _ [] 1 [] 0 (fun φ15 => [(4, .string ⟨#[]⟩)]) (fun φ15 => []) s (fun φ15 => by kernel_rfl) (by kernel_rfl) ?_
   intro φ15 w15 s
   refine wp_ret ?_
   refine ret_rule (C := []) _ [] (.string ⟨#[]⟩) [] [] s trivial (by kernel_rfl) ?_
   exact ⟨_, _, _, rfl, s, (by have hq0 := dF9 hc5; have hq1 := dT9 hc13;  exact ⟨_, rfl, rfl, _, _, _, (by unfold teV; first | (rw [if_pos (by unfold okT; omega)]; done) | (rw [if_neg (by unfold okT; omega)]; done) | (rw [if_pos (by unfold okT; omega)]; rfl) | (rw [if_neg (by unfold okT; omega)]; rfl)), (by unfold teE; first | (rw [if_neg (by omega)]; done) | (rw [if_pos (by omega), if_pos (by omega)]; rfl) | (rw [if_pos (by omega), if_neg (by omega), if_pos (by omega)]; rfl) | (rw [if_pos (by omega), if_neg (by omega), if_neg (by omega), if_pos (by omega)]; rfl) | (rw [if_pos (by omega), if_neg (by omega), if_neg (by omega), if_neg (by omega), show e = 0 by omega]; done) | (rw [if_pos (by omega), if_neg (by omega), if_neg (by omega), if_neg (by omega), show e = 0 by omega]; rfl)), bsl_eq hl (by unfold teD; first | (rw [if_neg (by unfold okT; omega)]; rfl) | (rw [if_pos (by unfold okT; omega), ← List.drop_drop]))⟩)⟩
  ·
   rw [hc13]
   refine cond_false_rule (b := false) (by kernel_rfl) rfl ?_
   refine seqR ?_
   refine oK _ [] 3 [] 0 (fun φ16 => [(44, .bool (decide (((z : Nat) : Int) < ((0 : Nat) : Int)))), (43, .bool (decide (((z : Nat) : Int) < ((0 : Nat) : Int)))), (42, .int .i64 z)]) (fun φ16 => []) s (fun φ16 => by kernel_rfl) ?_
   intro φ16 w16 s
   rw [nat_lss (a := z) (b := 0)]
   rcases Bool.eq_false_or_eq_true (decide (z < 0)) with hc17 | hc17
   ·
    rw [hc17]
    refine oKD _ [] 6 [] 0 (fun φ18 => [(41, .bool true), (49, .bool true), (48, undef), (47, undef), (46, undef), (45, undef)]) (fun φ18 => []) s (fun φ18 => by kernel_rfl) (by kernel_rfl) ?_
    intro φ18 w18 s
    refine cond_true_rule (b := true) (by kernel_rfl) rfl ?_
    refine region_rule ?_
    refine oAD _ [] 4 [.o 0] 0 (fun φ19 => [(52, .pointer (some ⟨r, 1, none⟩)), (51, pB r), (50, pB r)]) (fun φ19 => [(r, .cells #[.slice a l.length c, .int .i64 9] 126)]) (fun φ19 => [r]) s (fun φ19 => by kernel_rfl) (by kernel_rfl) ?_
    intro φ19 w19 s
    refine seqR ?_
    refine oKD _ [] 1 [] 0 (fun φ20 => [(4, .string ⟨#[]⟩)]) (fun φ20 => []) s (fun φ20 => by kernel_rfl) (by kernel_rfl) ?_
    intro φ20 w20 s
    refine wp_ret ?_
    refine ret_rule (C := []) _ [] (.string ⟨#[]⟩) [] [] s trivial (by kernel_rfl) ?_
    exact ⟨_, _, _, rfl, s, (by have hq0 := dF9 hc5; have hq1 := dF9 hc13; have hq2 := dT9 hc17;  exact ⟨_, rfl, rfl, _, _, _, (by unfold teV; first | (rw [if_pos (by unfold okT; omega)]; done) | (rw [if_neg (by unfold okT; omega)]; done) | (rw [if_pos (by unfold okT; omega)]; rfl) | (rw [if_neg (by unfold okT; omega)]; rfl)), (by unfold teE; first | (rw [if_neg (by omega)]; done) | (rw [if_pos (by omega), if_pos (by omega)]; rfl) | (rw [if_pos (by omega), if_neg (by omega), if_pos (by omega)]; rfl) | (rw [if_pos (by omega), if_neg (by omega), if_neg (by omega), if_pos (by omega)]; rfl) | (rw [if_pos (by omega), if_neg (by omega), if_neg (by omega), if_neg (by omega), show e = 0 by omega]; done) | (rw [if_pos (by omega), if_neg (by omega), if_neg (by omega), if_neg (by omega), show e = 0 by omega]; rfl)), bsl_eq hl (by unfold teD; first | (rw [if_neg (by unfold okT; omega)]; rfl) | (rw [if_pos (by unfold okT; omega), ← List.drop_drop]))⟩)⟩
   ·
    rw [hc17]
    refine oK _ [] 6 [] 0 (fun φ21 => [(41, .bool (decide (((numN l : Nat) : Int) > (IntKind.wrap .u64 ((z : Nat) : Int))))), (49, .bool (decide (((numN l : Nat) : Int) > (IntKind.wrap .u64 ((z : Nat) : Int))))), (48, .bool (decide (((numN l : Nat) : Int) > (IntKind.wrap .u64 ((z : Nat) : Int))))), (47, .int .u64 (IntKind.wrap .u64 ((z : Nat) : Int))), (46, .int .i64 z), (45, .int .u64 (numN l))]) (fun φ21 => []) s (fun φ21 => by kernel_rfl) ?_
    intro φ21 w21 s
    rw [nat_wrapU (a := z) (by have hk9 := numK_le l; have hn8 := numN_lt l; have hq0 := dF9 hc5; have hq1 := dF9 hc13; have hq2 := dF9 hc17; omega)]
    rw [nat_gtr (a := (numN l)) (b := z)]
    refine ops_done (by kernel_rfl) ?_
    rcases Bool.eq_false_or_eq_true (decide (z < (numN l))) with hc22 | hc22
    ·
     rw [hc22]
     refine cond_true_rule (b := true) (by kernel_rfl) rfl ?_
     refine region_rule ?_
     refine oAD _ [] 4 [.o 0] 0 (fun φ23 => [(52, .pointer (some ⟨r, 1, none⟩)), (51, pB r), (50, pB r)]) (fun φ23 => [(r, .cells #[.slice a l.length c, .int .i64 9] 126)]) (fun φ23 => [r]) s (fun φ23 => by kernel_rfl) (by kernel_rfl) ?_
     intro φ23 w23 s
     refine seqR ?_
     refine oKD _ [] 1 [] 0 (fun φ24 => [(4, .string ⟨#[]⟩)]) (fun φ24 => []) s (fun φ24 => by kernel_rfl) (by kernel_rfl) ?_
     intro φ24 w24 s
     refine wp_ret ?_
     refine ret_rule (C := []) _ [] (.string ⟨#[]⟩) [] [] s trivial (by kernel_rfl) ?_
     exact ⟨_, _, _, rfl, s, (by have hq0 := dF9 hc5; have hq1 := dF9 hc13; have hq2 := dF9 hc17; have hq3 := dT9 hc22;  exact ⟨_, rfl, rfl, _, _, _, (by unfold teV; first | (rw [if_pos (by unfold okT; omega)]; done) | (rw [if_neg (by unfold okT; omega)]; done) | (rw [if_pos (by unfold okT; omega)]; rfl) | (rw [if_neg (by unfold okT; omega)]; rfl)), (by unfold teE; first | (rw [if_neg (by omega)]; done) | (rw [if_pos (by omega), if_pos (by omega)]; rfl) | (rw [if_pos (by omega), if_neg (by omega), if_pos (by omega)]; rfl) | (rw [if_pos (by omega), if_neg (by omega), if_neg (by omega), if_pos (by omega)]; rfl) | (rw [if_pos (by omega), if_neg (by omega), if_neg (by omega), if_neg (by omega), show e = 0 by omega]; done) | (rw [if_pos (by omega), if_neg (by omega), if_neg (by omega), if_neg (by omega), show e = 0 by omega]; rfl)), bsl_eq hl (by unfold teD; first | (rw [if_neg (by unfold okT; omega)]; rfl) | (rw [if_pos (by unfold okT; omega), ← List.drop_drop]))⟩)⟩
    ·
     rw [hc22]
     refine cond_false_rule (b := false) (by kernel_rfl) rfl ?_
     refine seqR ?_
     refine oK _ [] 6 [] 0 (fun φ25 => [(53, .bool (decide (((numN l : Nat) : Int) > (IntKind.wrap .u64 (((l.length - (numK l)) : Nat) : Int))))), (58, .bool (decide (((numN l : Nat) : Int) > (IntKind.wrap .u64 (((l.length - (numK l)) : Nat) : Int))))), (57, .int .u64 (IntKind.wrap .u64 (((l.length - (numK l)) : Nat) : Int))), (56, .int .i64 (((l.length - (numK l)) : Nat) : Int)), (55, .slice (subA a (numK l) c) (l.length - (numK l)) (c - (numK l))), (54, .int .u64 (numN l))]) (fun φ25 => []) s (fun φ25 => by kernel_rfl) ?_
     intro φ25 w25 s
     rw [nat_wrapU (a := (l.length - (numK l))) (by have hk9 := numK_le l; have hn8 := numN_lt l; have hq0 := dF9 hc5; have hq1 := dF9 hc13; have hq2 := dF9 hc17; have hq3 := dF9 hc22; (try simp only [List.length_drop, List.length_take, List.length_append, List.length_cons, List.length_nil]); omega)]
     rw [nat_gtr (a := (numN l)) (b := (l.length - (numK l)))]
     refine ops_done (by kernel_rfl) ?_
     rcases Bool.eq_false_or_eq_true (decide ((l.length - (numK l)) < (numN l))) with hc26 | hc26
     ·
      rw [hc26]
      refine cond_true_rule (b := true) (by kernel_rfl) rfl ?_
      refine region_rule ?_
      refine oAD _ [] 4 [.o 0] 0 (fun φ27 => [(61, .pointer (some ⟨r, 1, none⟩)), (60, pB r), (59, pB r)]) (fun φ27 => [(r, .cells #[.slice a l.length c, .int .i64 6] 126)]) (fun φ27 => [r]) s (fun φ27 => by kernel_rfl) (by kernel_rfl) ?_
      intro φ27 w27 s
      refine seqR ?_
      refine oKD _ [] 1 [] 0 (fun φ28 => [(4, .string ⟨#[]⟩)]) (fun φ28 => []) s (fun φ28 => by kernel_rfl) (by kernel_rfl) ?_
      intro φ28 w28 s
      refine wp_ret ?_
      refine ret_rule (C := []) _ [] (.string ⟨#[]⟩) [] [] s trivial (by kernel_rfl) ?_
      exact ⟨_, _, _, rfl, s, (by have hq0 := dF9 hc5; have hq1 := dF9 hc13; have hq2 := dF9 hc17; have hq3 := dF9 hc22; have hq4 := dT9 hc26;  exact ⟨_, rfl, rfl, _, _, _, (by unfold teV; first | (rw [if_pos (by unfold okT; omega)]; done) | (rw [if_neg (by unfold okT; omega)]; done) | (rw [if_pos (by unfold okT; omega)]; rfl) | (rw [if_neg (by unfold okT; omega)]; rfl)), (by unfold teE; first | (rw [if_neg (by omega)]; done) | (rw [if_pos (by omega), if_pos (by omega)]; rfl) | (rw [if_pos (by omega), if_neg (by omega), if_pos (by omega)]; rfl) | (rw [if_pos (by omega), if_neg (by omega), if_neg (by omega), if_pos (by omega)]; rfl) | (rw [if_pos (by omega), if_neg (by omega), if_neg (by omega), if_neg (by omega), show e = 0 by omega]; done) | (rw [if_pos (by omega), if_neg (by omega), if_neg (by omega), if_neg (by omega), show e = 0 by omega]; rfl)), bsl_eq hl (by unfold teD; first | (rw [if_neg (by unfold okT; omega)]; rfl) | (rw [if_pos (by unfold okT; omega), ← List.drop_drop]))⟩)⟩
     ·
      rw [hc26]
      refine cond_false_rule (b := false) (by kernel_rfl) rfl ?_
      refine seqR ?_
      refine oK _ [] 3 [] 0 (fun φ29 => [(27, .int .u64 (numN l)), (26, .slice (subA a (numK l) c) (l.length - (numK l)) (c - (numK l))), (25, pB r)]) (fun φ29 => []) s (fun φ29 => by kernel_rfl) ?_
      intro φ29 w29 s
      refine sem_rule (Instr.sliceAt 61 (.slice (subA a (numK l) c) (l.length - (numK l)) (c - (numK l))) (some (.int .u64 (numN l))) none none) (some 28) (.slice (subA (subA a (numK l) c) (numN l) (c - (numK l))) ((l.length - (numK l)) - (numN l)) ((c - (numK l)) - (numN l))) (by kernel_rfl) (run_from (by have hcp := (BSl.cap (bsl_from (lo := numK l) hl (by have hcp := (BSl.cap hl).2; (try simp only [List.length_drop, List.length_take, List.length_append, List.length_cons, List.length_nil] at hcp ⊢); have hk9 := numK_le l; have hn8 := numN_lt l; have hq0 := dF9 hc5; omega))).2; (try simp only [List.length_drop, List.length_take, List.length_append, List.length_cons, List.length_nil] at hcp ⊢); have hk9 := numK_le l; have hn8 := numN_lt l; have hq0 := dF9 hc5; have hq1 := dF9 hc13; have hq2 := dF9 hc17; have hq3 := dF9 hc22; have hq4 := dF9 hc26; omega)) ?_
      refine oAD _ [] 3 [.o 0] 0 (fun φ30 => [(30, pB r), (29, pB r)]) (fun φ30 => [(r, .cells #[.slice (subA (subA a (numK l) c) (numN l) (c - (numK l))) ((l.length - (numK l)) - (numN l)) ((c - (numK l)) - (numN l)), .int .i64 e] 126)]) (fun φ30 => [r]) s (fun φ30 => by kernel_rfl) (by kernel_rfl) ?_
      intro φ30 w30 s
      refine seqR ?_
      refine oK _ [] 2 [] 0 (fun φ31 => [(32, .int .u64 (numN l)), (31, .slice (subA a (numK l) c) (l.length - (numK l)) (c - (numK l)))]) (fun φ31 => []) s (fun φ31 => by kernel_rfl) ?_
      intro φ31 w31 s
      refine sem_rule (Instr.sliceAt 61 (.slice (subA a (numK l) c) (l.length - (numK l)) (c - (numK l))) none (some (.int .u64 (numN l))) none) (some 33) (.slice (subA a (numK l) c) (numN l) (c - (numK l))) (by kernel_rfl) (run_to (by have hcp := (BSl.cap (bsl_from (lo := numK l) hl (by have hcp := (BSl.cap hl).2; (try simp only [List.length_drop, List.length_take, List.length_append, List.length_cons, List.length_nil] at hcp ⊢); have hk9 := numK_le l; have hn8 := numN_lt l; have hq0 := dF9 hc5; omega))).2; (try simp only [List.length_drop, List.length_take, List.length_append, List.length_cons, List.length_nil] at hcp ⊢); have hk9 := numK_le l; have hn8 := numN_lt l; have hq0 := dF9 hc5; have hq1 := dF9 hc13; have hq2 := dF9 hc17; have hq3 := dF9 hc22; have hq4 := dF9 hc26; omega)) ?_
      refine sem_rule (convert 61 9 (.slice (subA a (numK l) c) (numN l) (c - (numK l)))) (some 34) (.string ⟨(((l.drop (numK l)).take (numN l))).toArray⟩) (by kernel_rfl) (run_b2s s.sub (bsl_to (hi := numN l) (bsl_from (lo := numK l) hl (by have hcp := (BSl.cap hl).2; (try simp only [List.length_drop, List.length_take, List.length_append, List.length_cons, List.length_nil] at hcp ⊢); have hk9 := numK_le l; have hn8 := numN_lt l; have hq0 := dF9 hc5; omega)) (by have hcp := (BSl.cap (bsl_from (lo := numK l) hl (by have hcp := (BSl.cap hl).2; (try simp only [List.length_drop, List.length_take, List.length_append, List.length_cons, List.length_nil] at hcp ⊢); have hk9 := numK_le l; have hn8 := numN_lt l; have hq0 := dF9 hc5; omega))).2; (try simp only [List.length_drop, List.length_take, List.length_append, List.length_cons, List.length_nil] at hcp ⊢); have hk9 := numK_le l; have hn8 := numN_lt l; have hq0 := dF9 hc5; have hq1 := dF9 hc13; have hq2 := dF9 hc17; have hq3 := dF9 hc22; have hq4 := dF9 hc26; omega))) ?_
      refine oKD _ [] 1 [] 0 (fun φ32 => [(4, .string ⟨(((l.drop (numK l)).take (numN l))).toArray⟩)]) (fun φ32 => []) s (fun φ32 => by kernel_rfl) (by kernel_rfl) ?_
      intro φ32 w32 s
      refine wp_ret ?_
      refine ret_rule (C := []) _ [] (.string ⟨(((l.drop (numK l)).take (numN l))).toArray⟩) [] [] s trivial (by kernel_rfl) ?_
      exact ⟨_, _, _, rfl, s, (by have hq0 := dF9 hc5; have hq1 := dF9 hc13; have hq2 := dF9 hc17; have hq3 := dF9 hc22; have hq4 := dF9 hc26;  exact ⟨_, rfl, rfl, _, _, _, (by unfold teV; first | (rw [if_pos (by unfold okT; omega)]; done) | (rw [if_neg (by unfold okT; omega)]; done) | (rw [if_pos (by unfold okT; omega)]; rfl) | (rw [if_neg (by unfold okT; omega)]; rfl)), (by unfold teE; first | (rw [if_neg (by omega)]; done) | (rw [if_pos (by omega), if_pos (by omega)]; rfl) | (rw [if_pos (by omega), if_neg (by omega), if_pos (by omega)]; rfl) | (rw [if_pos (by omega), if_neg (by omega), if_neg (by omega), if_pos (by omega)]; rfl) | (rw [if_pos (by omega), if_neg (by omega), if_neg (by omega), if_neg (by omega), show e = 0 by omega]; done) | (rw [if_pos (by omega), if_neg (by omega), if_neg (by omega), if_neg (by omega), show e = 0 by omega]; rfl)), bsl_eq (bsl_from (lo := numN l) (bsl_from (lo := numK l) hl (by have hcp := (BSl.cap hl).2; (try simp only [List.length_drop, List.length_take, List.length_append, List.length_cons, List.length_nil] at hcp ⊢); have hk9 := numK_le l; have hn8 := numN_lt l; have hq0 := dF9 hc5; omega)) (by have hcp := (BSl.cap (bsl_from (lo := numK l) hl (by have hcp := (BSl.cap hl).2; (try simp only [List.length_drop, List.length_take, List.length_append, List.length_cons, List.length_nil] at hcp ⊢); have hk9 := numK_le l; have hn8 := numN_lt l; have hq0 := dF9 hc5; omega))).2; (try simp only [List.length_drop, List.length_take, List.length_append, List.length_cons, List.length_nil] at hcp ⊢); have hk9 := numK_le l; have hn8 := numN_lt l; have hq0 := dF9 hc5; have hq1 := dF9 hc13; have hq2 := dF9 hc17; have hq3 := dF9 hc22; have hq4 := dF9 hc26; omega)) (by unfold teD; first | (rw [if_neg (by unfold okT; omega)]; rfl) | (rw [if_pos (by unfold okT; omega), ← List.drop_drop]))⟩)⟩

end Go.Proofs.YtcpmjogeafhpnaaDoor

/- The number at a place. -/
set_option linter.all false
set_option maxRecDepth 100000
namespace Go.Proofs.YtcpmjogeafhpnaaDoor
open Go.RowKit Go.Sep
attribute [local irreducible] Go.wpList Go.Code.wp

theorem idx_dec {I : IM} {w : World} {l : List UInt8} {a : Option Addr} {n c j : Nat} (h : BSl I l (.slice a n c)) (hj : 1 ≤ j) (hi : j - 1 < l.length) :
    (Instr.indexAt 61 (.slice a n c) (.int .i64 (decI j))).run Tryd.prog w = .ok (.pointer (pAt a (j - 1))) w := by
  rw [decI_nat hj]; exact bsl_idx h hi

set_option maxHeartbeats 2000000 in
theorem refnumAt_c {I : IM} {P : List UInt8} {a : Option Addr} {m c at0 : Nat} (hl : BSl I P (.slice a m c)) (hn9 : P.length ≤ 1000000) (hat : at0 ≤ P.length) : Fun Tryd.prog 113 #[.slice a m c, .int .i64 ((at0 : Nat) : Int)] I (fun v J => v = .tuple #[.int .u64 ((numN (P.drop at0) : Nat) : Int), .int .i64 ((numK (P.drop at0) : Nat) : Int)]) := by
 obtain ⟨rfl, -⟩ := hl.cap
 refine enter_rule 78 [(0, .slice a P.length c), (1, .int .i64 at0)] Tryd.func113 rfl (by kernel_rfl) ?_
 intro w s
 refine seqR ?_
 refine oKD [] [] 2 [] 0 (fun φ1 => [(5, .int .i64 0), (4, .int .u64 0)]) (fun φ1 => []) s (fun φ1 => by kernel_rfl) (by kernel_rfl) ?_
 intro φ1 w1 s
 refine seqR ?_
 refine oKD [] [] 2 [] 0 (fun φ2 => [(6, .int .i64 at0), (9, .int .i64 at0)]) (fun φ2 => []) s (fun φ2 => by kernel_rfl) (by kernel_rfl) ?_
 intro φ2 w2 s
 refine wp_seq ?_
 refine wp_block ?_
 have hle3 := IM.Le.refl I
 refine loop_rule (fun (x : Nat) => [(0, .slice a P.length c), (1, .int .i64 at0), (6, .int .i64 x)]) (fun (x : Nat) => []) (fun m (x : Nat) J => IM.Le I J ∧ x + m = at0 + 10 ∧ RefD P at0 x) (10) at0 s (by kernel_rfl) List.Sublist.slnil ⟨IM.Le.refl _, rfl, RefD.start hat⟩ ?_
 rintro m4 k4 I4 w4 ev4 s ⟨le4, hi4_0, hi4_1⟩
 try dsimp only at s hi4_0 hi4_1 ⊢
 replace hl := BSl.mono le4 hl
 replace hle3 := leMono le4 hle3
 refine wp_seq ?_
 refine seqR ?_
 refine oK [] [] 5 [] 0 (fun φ5 => [(14, .bool (decide (((k4 : Nat) : Int) < ((P.length : Nat) : Int)))), (13, .bool (decide (((k4 : Nat) : Int) < ((P.length : Nat) : Int)))), (12, .int .i64 P.length), (11, .slice a P.length c), (10, .int .i64 k4)]) (fun φ5 => []) s (fun φ5 => by kernel_rfl) ?_
 intro φ5 w5 s
 rw [nat_lss (a := k4) (b := P.length)]
 rcases Bool.eq_false_or_eq_true (decide (k4 < P.length)) with hc6 | hc6
 ·
  rw [hc6]
  refine oK [] [] 6 [] 0 (fun φ7 => [(20, .bool (decide (((k4 : Nat) : Int) < (IntKind.wrap .i64 (((at0 : Nat) : Int) + ((9 : Nat) : Int)))))), (19, .bool (decide (((k4 : Nat) : Int) < (IntKind.wrap .i64 (((at0 : Nat) : Int) + ((9 : Nat) : Int)))))), (18, .bool (decide (((k4 : Nat) : Int) < (IntKind.wrap .i64 (((at0 : Nat) : Int) + ((9 : Nat) : Int)))))), (17, .int .i64 (IntKind.wrap .i64 (((at0 : Nat) : Int) + ((9 : Nat) : Int)))), (16, .int .i64 at0), (15, .int .i64 k4)]) (fun φ7 => []) s (fun φ7 => by kernel_rfl) ?_
  intro φ7 w7 s
  rw [nat_addI (a := at0) (b := 9) (by have hr1 := hi4_1.lo; have hr2 := hi4_1.hi; have hr3 := hi4_1.le;  have hq0 := dT9 hc6; omega)]
  rw [nat_lss (a := k4) (b := (at0 + 9))]
  rcases Bool.eq_false_or_eq_true (decide (k4 < (at0 + 9))) with hc8 | hc8
  ·
   rw [hc8]
   refine oK [] [] 2 [] 0 (fun φ9 => [(22, .int .i64 k4), (21, .slice a P.length c)]) (fun φ9 => []) s (fun φ9 => by kernel_rfl) ?_
   intro φ9 w9 s
   refine sem_rule (Instr.indexAt 61 (.slice a P.length c) (.int .i64 k4)) (some 23) (.pointer (pAt a k4)) (by kernel_rfl) (bsl_idx hl (by have hr1 := hi4_1.lo; have hr2 := hi4_1.hi; have hr3 := hi4_1.le;  have hq0 := dT9 hc6; have hq1 := dT9 hc8; omega)) ?_
   refine sem_rule (Instr.loadAt 5 (.pointer (pAt a k4))) (some 24) (.int .u8 (((P.getD k4 0).toNat : Nat) : Int)) (by kernel_rfl) (bsl_ld s.sub hl (by have hr1 := hi4_1.lo; have hr2 := hi4_1.hi; have hr3 := hi4_1.le;  have hq0 := dT9 hc6; have hq1 := dT9 hc8; omega)) ?_
   refine oK [] [] 2 [] 0 (fun φ10 => [(26, .bool (decide ((((P.getD k4 0).toNat : Nat) : Int) > ((127 : Nat) : Int)))), (25, .bool (decide ((((P.getD k4 0).toNat : Nat) : Int) > ((127 : Nat) : Int))))]) (fun φ10 => []) s (fun φ10 => by kernel_rfl) ?_
   intro φ10 w10 s
   rw [nat_gtr (a := ((P.getD k4 0).toNat)) (b := 127)]
   refine ops_done (by kernel_rfl) ?_
   rcases Bool.eq_false_or_eq_true (decide (127 < ((P.getD k4 0).toNat))) with hc11 | hc11
   ·
    rw [hc11]
    refine cond_true_rule (b := true) (by kernel_rfl) rfl ?_
    refine wp_skip ?_
    refine wp_block ?_
    refine region_rule ?_
    refine oK [] [] 3 [] 0 (fun φ12 => [(6, .int .i64 (IntKind.wrap .i64 (((k4 : Nat) : Int) + ((1 : Nat) : Int)))), (28, .int .i64 (IntKind.wrap .i64 (((k4 : Nat) : Int) + ((1 : Nat) : Int)))), (27, .int .i64 k4)]) (fun φ12 => []) s (fun φ12 => by kernel_rfl) ?_
    intro φ12 w12 s
    rw [nat_addI (a := k4) (b := 1) (by have hr1 := hi4_1.lo; have hr2 := hi4_1.hi; have hr3 := hi4_1.le;  have hq0 := dT9 hc6; have hq1 := dT9 hc8; have hq2 := dT9 hc11; omega)]
    refine ops_done (by kernel_rfl) ?_
    have hs9 := RefD.step hi4_1 (dT9 hc6) (dT9 hc8) (dT9 hc11)
    exact ⟨⟨m4 - 1, k4 + 1, _, _, _, by have := hi4_0; have := hs9.le; omega, rfl, s, List.Sublist.slnil, by kernel_rfl, hle3, by have := hi4_0; have := hs9.le; show k4 + 1 + (m4 - 1) = at0 + 10; omega, hs9⟩⟩
   ·
    rw [hc11]
    refine cond_false_rule (b := false) (by kernel_rfl) rfl ?_
    refine wp_exit ?_
    refine wp_seq ?_
    refine seqR ?_
    refine oK [] [] 5 [] 0 (fun φ13 => [(33, .bool (decide (((k4 : Nat) : Int) ≥ ((P.length : Nat) : Int)))), (32, .bool (decide (((k4 : Nat) : Int) ≥ ((P.length : Nat) : Int)))), (31, .int .i64 P.length), (30, .slice a P.length c), (29, .int .i64 k4)]) (fun φ13 => []) s (fun φ13 => by kernel_rfl) ?_
    intro φ13 w13 s
    rw [nat_geq (a := k4) (b := P.length)]
    rcases Bool.eq_false_or_eq_true (decide (P.length ≤ k4)) with hc14 | hc14
    ·
     exact absurd (dT9 hc14) (by have q9 := dT9 hc6; omega)
    ·
     rw [hc14]
     refine oK [] [] 5 [] 0 (fun φ15 => [(38, .bool (((k4 : Nat) : Int) == (IntKind.wrap .i64 (((at0 : Nat) : Int) + ((9 : Nat) : Int))))), (37, .bool (((k4 : Nat) : Int) == (IntKind.wrap .i64 (((at0 : Nat) : Int) + ((9 : Nat) : Int))))), (36, .int .i64 (IntKind.wrap .i64 (((at0 : Nat) : Int) + ((9 : Nat) : Int)))), (35, .int .i64 at0), (34, .int .i64 k4)]) (fun φ15 => []) s (fun φ15 => by kernel_rfl) ?_
     intro φ15 w15 s
     rw [nat_addI (a := at0) (b := 9) (by have hr1 := hi4_1.lo; have hr2 := hi4_1.hi; have hr3 := hi4_1.le;  have hq0 := dT9 hc6; have hq1 := dT9 hc8; have hq2 := dF9 hc11; have hq3 := dF9 hc14; omega)]
     rw [nat_eql (a := k4) (b := (at0 + 9))]
     rcases Bool.eq_false_or_eq_true (decide (k4 = (at0 + 9))) with hc16 | hc16
     ·
      exact absurd (dT9 hc16) (by have q9 := dT9 hc8; omega)
     ·
      rw [hc16]
      refine oK [] [] 12 [] 0 (fun φ17 => [(50, .bool (decide (((k4 : Nat) : Int) > ((at0 : Nat) : Int)))), (49, .bool (decide (((k4 : Nat) : Int) > ((at0 : Nat) : Int)))), (48, .int .i64 at0), (47, .int .i64 k4), (46, .bool false), (45, .bool false), (44, .bool false), (43, undef), (42, undef), (41, undef), (40, undef), (39, undef)]) (fun φ17 => []) s (fun φ17 => by kernel_rfl) ?_
      intro φ17 w17 s
      rw [nat_gtr (a := k4) (b := at0)]
      rcases Bool.eq_false_or_eq_true (decide (at0 < k4)) with hc18 | hc18
      ·
       rw [hc18]
       refine oK [] [] 2 [] 0 (fun φ19 => [(52, .int .i64 k4), (51, .slice a P.length c)]) (fun φ19 => []) s (fun φ19 => by kernel_rfl) ?_
       intro φ19 w19 s
       refine sem_rule (Instr.indexAt 61 (.slice a P.length c) (.int .i64 k4)) (some 53) (.pointer (pAt a k4)) (by kernel_rfl) (bsl_idx hl (by have hr1 := hi4_1.lo; have hr2 := hi4_1.hi; have hr3 := hi4_1.le;  have hq0 := dT9 hc6; have hq1 := dT9 hc8; have hq2 := dF9 hc11; have hq3 := dF9 hc14; have hq4 := dF9 hc16; have hq5 := dT9 hc18; omega)) ?_
       refine sem_rule (Instr.loadAt 5 (.pointer (pAt a k4))) (some 54) (.int .u8 (((P.getD k4 0).toNat : Nat) : Int)) (by kernel_rfl) (bsl_ld s.sub hl (by have hr1 := hi4_1.lo; have hr2 := hi4_1.hi; have hr3 := hi4_1.le;  have hq0 := dT9 hc6; have hq1 := dT9 hc8; have hq2 := dF9 hc11; have hq3 := dF9 hc14; have hq4 := dF9 hc16; have hq5 := dT9 hc18; omega)) ?_
       refine oK [] [] 3 [] 0 (fun φ20 => [(57, .bool ((((P.getD k4 0).toNat : Nat) : Int) == ((0 : Nat) : Int))), (56, .bool ((((P.getD k4 0).toNat : Nat) : Int) == ((0 : Nat) : Int))), (55, .bool ((((P.getD k4 0).toNat : Nat) : Int) == ((0 : Nat) : Int)))]) (fun φ20 => []) s (fun φ20 => by kernel_rfl) ?_
       intro φ20 w20 s
       rw [nat_eql (a := ((P.getD k4 0).toNat)) (b := 0)]
       refine ops_done (by kernel_rfl) ?_
       rcases Bool.eq_false_or_eq_true (decide (((P.getD k4 0).toNat) = 0)) with hc21 | hc21
       ·
        rw [hc21]
        refine cond_true_rule (b := true) (by kernel_rfl) rfl ?_
        refine seqR ?_
        refine oKD [] [] 2 [] 0 (fun φ22 => [(5, .int .i64 0), (4, .int .u64 0)]) (fun φ22 => []) s (fun φ22 => by kernel_rfl) (by kernel_rfl) ?_
        intro φ22 w22 s
        refine wp_ret ?_
        refine ret_rule (C := []) [] [] (.tuple #[.int .u64 0, .int .i64 0]) [] [] s trivial (by kernel_rfl) ?_
        exact ⟨_, _, _, rfl, s, (by have h9 := RefD.bad hi4_1 (by have hq0 := dT9 hc6; have hq1 := dT9 hc8; have hq2 := dF9 hc11; have hq3 := dF9 hc14; have hq4 := dF9 hc16; have hq5 := dT9 hc18; have hq6 := dT9 hc21; omega) (by have hq0 := dT9 hc6; have hq1 := dT9 hc8; have hq2 := dF9 hc11; have hq3 := dF9 hc14; have hq4 := dF9 hc16; have hq5 := dT9 hc18; have hq6 := dT9 hc21; omega); rw [h9.1, h9.2]; rfl)⟩
       ·
        rw [hc21]
        refine cond_false_rule (b := false) (by kernel_rfl) rfl ?_
        refine wp_skip ?_
        refine seqR ?_
        refine oKD [] [] 1 [] 0 (fun φ23 => [(7, .int .u64 0)]) (fun φ23 => []) s (fun φ23 => by kernel_rfl) (by kernel_rfl) ?_
        intro φ23 w23 s
        refine wp_seq ?_
        refine seqR ?_
        refine oKD [] [] 2 [] 0 (fun φ24 => [(8, .int .i64 k4), (58, .int .i64 k4)]) (fun φ24 => []) s (fun φ24 => by kernel_rfl) (by kernel_rfl) ?_
        intro φ24 w24 s
        refine wp_block ?_
        have hg9 := RefD.good hi4_1 (by have hq0 := dT9 hc6; have hq1 := dT9 hc8; have hq2 := dF9 hc11; have hq3 := dF9 hc14; have hq4 := dF9 hc16; have hq5 := dT9 hc18; have hq6 := dF9 hc21; omega) (by have hq0 := dT9 hc6; have hq1 := dT9 hc8; have hq2 := dF9 hc11; have hq3 := dF9 hc14; have hq4 := dF9 hc16; have hq5 := dT9 hc18; have hq6 := dF9 hc21; omega)
        have hlo9 := hg9.lo
        have hhi9 := hg9.hi
        have hle9 := hg9.le
        have hlt9 := hg9.lt
        have hle25 := IM.Le.refl I4
        refine loop_rule (fun (x : Nat × Nat) => [(0, .slice a P.length c), (1, .int .i64 at0), (6, .int .i64 k4), (8, .int .i64 (decI x.1)), (7, .int .u64 x.2)]) (fun (x : Nat × Nat) => []) (fun m (x : Nat × Nat) J => IM.Le I4 J ∧ x.1 = at0 + m ∧ x.1 ≤ k4 + 1 ∧ x.2 = tail7 P at0 k4 x.1) (k4 + 1 - at0) (k4 + 1, 0) s (by kernel_rfl) List.Sublist.slnil ⟨IM.Le.refl _, (by show k4 + 1 = at0 + (k4 + 1 - at0); omega), (Nat.le_refl _), (tail7_end hlo9).symm⟩ ?_
        rintro m26 ⟨n26, acc26⟩ I26 w26 ev26 s ⟨le26, hi26_0, hi26_1, hi26_2⟩
        try dsimp only at s hi26_0 hi26_1 hi26_2 ⊢
        replace hl := BSl.mono le26 hl
        replace hle25 := leMono le26 hle25
        refine wp_seq ?_
        refine seqR ?_
        refine oKD [] [] 3 [] 0 (fun φ27 => [(61, .bool (decide ((decI n26) ≥ ((at0 : Nat) : Int)))), (60, .int .i64 at0), (59, .int .i64 (decI n26))]) (fun φ27 => []) s (fun φ27 => by kernel_rfl) (by kernel_rfl) ?_
        intro φ27 w27 s
        rcases Bool.eq_false_or_eq_true (decide ((decI n26) ≥ ((at0 : Nat) : Int))) with hc28 | hc28
        ·
         rw [hc28]
         refine cond_true_rule (b := true) (by kernel_rfl) rfl ?_
         refine wp_skip ?_
         refine wp_seq ?_
         refine wp_block ?_
         refine region_rule ?_
         refine oK [] [] 4 [] 0 (fun φ29 => [(67, .int .i64 (decI n26)), (66, .slice a P.length c), (65, .int .u64 (IntKind.wrap .u64 (((128 : Nat) : Int) * ((acc26 : Nat) : Int)))), (64, .int .u64 acc26)]) (fun φ29 => []) s (fun φ29 => by kernel_rfl) ?_
         intro φ29 w29 s
         rw [nat_mulU (a := 128) (b := acc26) (by have hr1 := hi4_1.lo; have hr2 := hi4_1.hi; have hr3 := hi4_1.le; have hd9 := decI_eq n26; have hz1 := hi26_0; have hz2 := hi26_1; have hp9 := dT9 hc28; have ht9 : tail7 P at0 k4 (n26 - 1) = 128 * acc26 + (P.getD (n26 - 1) 0).toNat % 128 := (by rw [tail7_step (by omega) (by omega) hg9.hi, show n26 - 1 + 1 = n26 by omega, ← hi26_2]); have ht8 := @tail7_le P at0 k4 (n26 - 1);  have hq0 := dT9 hc6; have hq1 := dT9 hc8; have hq2 := dF9 hc11; have hq3 := dF9 hc14; have hq4 := dF9 hc16; have hq5 := dT9 hc18; have hq6 := dF9 hc21; have hq7 := dT9 hc28; omega)]
         refine sem_rule (Instr.indexAt 61 (.slice a P.length c) (.int .i64 (decI n26))) (some 68) (.pointer (pAt a (n26 - 1))) (by kernel_rfl) (idx_dec hl (by have := decI_eq n26; have := dT9 hc28; have := hi26_1; have := hhi9; omega) (by have := decI_eq n26; have := dT9 hc28; have := hi26_1; have := hhi9; omega)) ?_
         refine sem_rule (Instr.loadAt 5 (.pointer (pAt a (n26 - 1)))) (some 69) (.int .u8 (((P.getD (n26 - 1) 0).toNat : Nat) : Int)) (by kernel_rfl) (bsl_ld s.sub hl (by have hr1 := hi4_1.lo; have hr2 := hi4_1.hi; have hr3 := hi4_1.le; have hd9 := decI_eq n26; have hz1 := hi26_0; have hz2 := hi26_1; have hp9 := dT9 hc28; have ht9 : tail7 P at0 k4 (n26 - 1) = 128 * acc26 + (P.getD (n26 - 1) 0).toNat % 128 := (by rw [tail7_step (by omega) (by omega) hg9.hi, show n26 - 1 + 1 = n26 by omega, ← hi26_2]); have ht8 := @tail7_le P at0 k4 (n26 - 1);  have hq0 := dT9 hc6; have hq1 := dT9 hc8; have hq2 := dF9 hc11; have hq3 := dF9 hc14; have hq4 := dF9 hc16; have hq5 := dT9 hc18; have hq6 := dF9 hc21; have hq7 := dT9 hc28; omega)) ?_
         refine oK [] [] 4 [] 0 (fun φ30 => [(7, .int .u64 (IntKind.wrap .u64 (((128 * acc26 : Nat) : Int) + (IntKind.wrap .u64 (Int.tmod (((P.getD (n26 - 1) 0).toNat : Nat) : Int) ((128 : Nat) : Int)))))), (72, .int .u64 (IntKind.wrap .u64 (((128 * acc26 : Nat) : Int) + (IntKind.wrap .u64 (Int.tmod (((P.getD (n26 - 1) 0).toNat : Nat) : Int) ((128 : Nat) : Int)))))), (71, .int .u64 (IntKind.wrap .u64 (Int.tmod (((P.getD (n26 - 1) 0).toNat : Nat) : Int) ((128 : Nat) : Int)))), (70, .int .u8 (Int.tmod (((P.getD (n26 - 1) 0).toNat : Nat) : Int) ((128 : Nat) : Int)))]) (fun φ30 => []) s (fun φ30 => by kernel_rfl) ?_
         intro φ30 w30 s
         rw [nat_rem (a := ((P.getD (n26 - 1) 0).toNat)) (b := 128)]
         rw [nat_wrapU (a := (((P.getD (n26 - 1) 0).toNat) % 128)) (by have hr1 := hi4_1.lo; have hr2 := hi4_1.hi; have hr3 := hi4_1.le; have hd9 := decI_eq n26; have hz1 := hi26_0; have hz2 := hi26_1; have hp9 := dT9 hc28; have ht9 : tail7 P at0 k4 (n26 - 1) = 128 * acc26 + (P.getD (n26 - 1) 0).toNat % 128 := (by rw [tail7_step (by omega) (by omega) hg9.hi, show n26 - 1 + 1 = n26 by omega, ← hi26_2]); have ht8 := @tail7_le P at0 k4 (n26 - 1);  have := byte_lt (P.getD (n26 - 1) 0); have hq0 := dT9 hc6; have hq1 := dT9 hc8; have hq2 := dF9 hc11; have hq3 := dF9 hc14; have hq4 := dF9 hc16; have hq5 := dT9 hc18; have hq6 := dF9 hc21; have hq7 := dT9 hc28; omega)]
         rw [nat_addU (a := (128 * acc26)) (b := (((P.getD (n26 - 1) 0).toNat) % 128)) (by have hr1 := hi4_1.lo; have hr2 := hi4_1.hi; have hr3 := hi4_1.le; have hd9 := decI_eq n26; have hz1 := hi26_0; have hz2 := hi26_1; have hp9 := dT9 hc28; have ht9 : tail7 P at0 k4 (n26 - 1) = 128 * acc26 + (P.getD (n26 - 1) 0).toNat % 128 := (by rw [tail7_step (by omega) (by omega) hg9.hi, show n26 - 1 + 1 = n26 by omega, ← hi26_2]); have ht8 := @tail7_le P at0 k4 (n26 - 1);  have := byte_lt (P.getD (n26 - 1) 0); have hq0 := dT9 hc6; have hq1 := dT9 hc8; have hq2 := dF9 hc11; have hq3 := dF9 hc14; have hq4 := dF9 hc16; have hq5 := dT9 hc18; have hq6 := dF9 hc21; have hq7 := dT9 hc28; omega)]
         refine ops_done (by kernel_rfl) ?_
         refine region_rule ?_
         refine oKD [] [] 3 [] 0 (fun φ31 => [(8, .int .i64 (IntKind.wrap .i64 ((decI n26) - ((1 : Nat) : Int)))), (63, .int .i64 (IntKind.wrap .i64 ((decI n26) - ((1 : Nat) : Int)))), (62, .int .i64 (decI n26))]) (fun φ31 => []) s (fun φ31 => by kernel_rfl) (by kernel_rfl) ?_
         intro φ31 w31 s
         have hd9 := decI_eq n26
         have hp9 := dT9 hc28
         rw [decI_step (n := n26) (by omega) (by have := hg9.le; have := hi26_1; omega)]
         have ht9 : tail7 P at0 k4 (n26 - 1) = 128 * acc26 + (P.getD (n26 - 1) 0).toNat % 128 := by rw [tail7_step (by omega) (by omega) hg9.hi, show n26 - 1 + 1 = n26 by omega, ← hi26_2]
         exact ⟨⟨m26 - 1, (n26 - 1, (128 * acc26) + (((P.getD (n26 - 1) 0).toNat) % 128)), _, _, _, by omega, rfl, s, List.Sublist.slnil, by kernel_rfl, hle25, by show n26 - 1 = at0 + (m26 - 1); omega, by show _ ≤ _; omega, ht9.symm⟩⟩
        ·
         rw [hc28]
         refine cond_false_rule (b := false) (by kernel_rfl) rfl ?_
         refine wp_exit ?_
         refine seqR ?_
         refine oK [] [] 7 [] 0 (fun φ32 => [(5, .int .i64 (IntKind.wrap .i64 ((IntKind.wrap .i64 (((k4 : Nat) : Int) - ((at0 : Nat) : Int))) + ((1 : Nat) : Int)))), (4, .int .u64 acc26), (77, .int .i64 (IntKind.wrap .i64 ((IntKind.wrap .i64 (((k4 : Nat) : Int) - ((at0 : Nat) : Int))) + ((1 : Nat) : Int)))), (76, .int .i64 (IntKind.wrap .i64 (((k4 : Nat) : Int) - ((at0 : Nat) : Int)))), (75, .int .i64 at0), (74, .int .i64 k4), (73, .int .u64 acc26)]) (fun φ32 => []) s (fun φ32 => by kernel_rfl) ?_
         intro φ32 w32 s
         rw [nat_subI (a := k4) (b := at0) (by have hr1 := hi4_1.lo; have hr2 := hi4_1.hi; have hr3 := hi4_1.le; have hd9 := decI_eq n26; have hz1 := hi26_0; have hz2 := hi26_1;  have hq0 := dT9 hc6; have hq1 := dT9 hc8; have hq2 := dF9 hc11; have hq3 := dF9 hc14; have hq4 := dF9 hc16; have hq5 := dT9 hc18; have hq6 := dF9 hc21; have hq7 := dF9 hc28; omega) (by have hr1 := hi4_1.lo; have hr2 := hi4_1.hi; have hr3 := hi4_1.le; have hd9 := decI_eq n26; have hz1 := hi26_0; have hz2 := hi26_1;  have hq0 := dT9 hc6; have hq1 := dT9 hc8; have hq2 := dF9 hc11; have hq3 := dF9 hc14; have hq4 := dF9 hc16; have hq5 := dT9 hc18; have hq6 := dF9 hc21; have hq7 := dF9 hc28; omega)]
         rw [nat_addI (a := (k4 - at0)) (b := 1) (by have hr1 := hi4_1.lo; have hr2 := hi4_1.hi; have hr3 := hi4_1.le; have hd9 := decI_eq n26; have hz1 := hi26_0; have hz2 := hi26_1;  have hq0 := dT9 hc6; have hq1 := dT9 hc8; have hq2 := dF9 hc11; have hq3 := dF9 hc14; have hq4 := dF9 hc16; have hq5 := dT9 hc18; have hq6 := dF9 hc21; have hq7 := dF9 hc28; omega)]
         refine ops_done (by kernel_rfl) ?_
         refine wp_ret ?_
         refine ret_rule (C := []) [] [] (.tuple #[.int .u64 acc26, .int .i64 (((k4 - at0) + 1 : Nat) : Int)]) [] [] s trivial (by kernel_rfl) ?_
         exact ⟨_, _, _, rfl, s, (by have hd9 := decI_eq n26; have hp9 := dF9 hc28; have hz1 := hi26_0; have e9 := hi26_2; rw [show n26 = at0 by omega] at e9; rw [hg9.num, hg9.siz, ← e9])⟩
      ·
       rw [hc18]
       refine oKD [] [] 7 [] 0 (fun φ33 => [(57, .bool false), (56, .bool false), (55, undef), (54, undef), (53, undef), (52, undef), (51, undef)]) (fun φ33 => []) s (fun φ33 => by kernel_rfl) (by kernel_rfl) ?_
       intro φ33 w33 s
       refine cond_false_rule (b := false) (by kernel_rfl) rfl ?_
       refine wp_skip ?_
       refine seqR ?_
       refine oKD [] [] 1 [] 0 (fun φ34 => [(7, .int .u64 0)]) (fun φ34 => []) s (fun φ34 => by kernel_rfl) (by kernel_rfl) ?_
       intro φ34 w34 s
       refine wp_seq ?_
       refine seqR ?_
       refine oKD [] [] 2 [] 0 (fun φ35 => [(8, .int .i64 k4), (58, .int .i64 k4)]) (fun φ35 => []) s (fun φ35 => by kernel_rfl) (by kernel_rfl) ?_
       intro φ35 w35 s
       refine wp_block ?_
       have hg9 := RefD.good hi4_1 (by have hq0 := dT9 hc6; have hq1 := dT9 hc8; have hq2 := dF9 hc11; have hq3 := dF9 hc14; have hq4 := dF9 hc16; have hq5 := dF9 hc18; omega) (by have hq0 := dT9 hc6; have hq1 := dT9 hc8; have hq2 := dF9 hc11; have hq3 := dF9 hc14; have hq4 := dF9 hc16; have hq5 := dF9 hc18; omega)
       have hlo9 := hg9.lo
       have hhi9 := hg9.hi
       have hle9 := hg9.le
       have hlt9 := hg9.lt
       have hle36 := IM.Le.refl I4
       refine loop_rule (fun (x : Nat × Nat) => [(0, .slice a P.length c), (1, .int .i64 at0), (6, .int .i64 k4), (8, .int .i64 (decI x.1)), (7, .int .u64 x.2)]) (fun (x : Nat × Nat) => []) (fun m (x : Nat × Nat) J => IM.Le I4 J ∧ x.1 = at0 + m ∧ x.1 ≤ k4 + 1 ∧ x.2 = tail7 P at0 k4 x.1) (k4 + 1 - at0) (k4 + 1, 0) s (by kernel_rfl) List.Sublist.slnil ⟨IM.Le.refl _, (by show k4 + 1 = at0 + (k4 + 1 - at0); omega), (Nat.le_refl _), (tail7_end hlo9).symm⟩ ?_
       rintro m37 ⟨n37, acc37⟩ I37 w37 ev37 s ⟨le37, hi37_0, hi37_1, hi37_2⟩
       try dsimp only at s hi37_0 hi37_1 hi37_2 ⊢
       replace hl := BSl.mono le37 hl
       replace hle36 := leMono le37 hle36
       refine wp_seq ?_
       refine seqR ?_
       refine oKD [] [] 3 [] 0 (fun φ38 => [(61, .bool (decide ((decI n37) ≥ ((at0 : Nat) : Int)))), (60, .int .i64 at0), (59, .int .i64 (decI n37))]) (fun φ38 => []) s (fun φ38 => by kernel_rfl) (by kernel_rfl) ?_
       intro φ38 w38 s
       rcases Bool.eq_false_or_eq_true (decide ((decI n37) ≥ ((at0 : Nat) : Int))) with hc39 | hc39
       ·
        rw [hc39]
        refine cond_true_rule (b := true) (by kernel_rfl) rfl ?_
        refine wp_skip ?_
        refine wp_seq ?_
        refine wp_block ?_
        refine region_rule ?_
        refine oK [] [] 4 [] 0 (fun φ40 => [(67, .int .i64 (decI n37)), (66, .slice a P.length c), (65, .int .u64 (IntKind.wrap .u64 (((128 : Nat) : Int) * ((acc37 : Nat) : Int)))), (64, .int .u64 acc37)]) (fun φ40 => []) s (fun φ40 => by kernel_rfl) ?_
        intro φ40 w40 s
        rw [nat_mulU (a := 128) (b := acc37) (by have hr1 := hi4_1.lo; have hr2 := hi4_1.hi; have hr3 := hi4_1.le; have hd9 := decI_eq n37; have hz1 := hi37_0; have hz2 := hi37_1; have hp9 := dT9 hc39; have ht9 : tail7 P at0 k4 (n37 - 1) = 128 * acc37 + (P.getD (n37 - 1) 0).toNat % 128 := (by rw [tail7_step (by omega) (by omega) hg9.hi, show n37 - 1 + 1 = n37 by omega, ← hi37_2]); have ht8 := @tail7_le P at0 k4 (n37 - 1);  have hq0 := dT9 hc6; have hq1 := dT9 hc8; have hq2 := dF9 hc11; have hq3 := dF9 hc14; have hq4 := dF9 hc16; have hq5 := dF9 hc18; have hq6 := dT9 hc39; omega)]
        refine sem_rule (Instr.indexAt 61 (.slice a P.length c) (.int .i64 (decI n37))) (some 68) (.pointer (pAt a (n37 - 1))) (by kernel_rfl) (idx_dec hl (by have := decI_eq n37; have := dT9 hc39; have := hi37_1; have := hhi9; omega) (by have := decI_eq n37; have := dT9 hc39; have := hi37_1; have := hhi9; omega)) ?_
        refine sem_rule (Instr.loadAt 5 (.pointer (pAt a (n37 - 1)))) (some 69) (.int .u8 (((P.getD (n37 - 1) 0).toNat : Nat) : Int)) (by kernel_rfl) (bsl_ld s.sub hl (by have hr1 := hi4_1.lo; have hr2 := hi4_1.hi; have hr3 := hi4_1.le; have hd9 := decI_eq n37; have hz1 := hi37_0; have hz2 := hi37_1; have hp9 := dT9 hc39; have ht9 : tail7 P at0 k4 (n37 - 1) = 128 * acc37 + (P.getD (n37 - 1) 0).toNat % 128 := (by rw [tail7_step (by omega) (by omega) hg9.hi, show n37 - 1 + 1 = n37 by omega, ← hi37_2]); have ht8 := @tail7_le P at0 k4 (n37 - 1);  have hq0 := dT9 hc6; have hq1 := dT9 hc8; have hq2 := dF9 hc11; have hq3 := dF9 hc14; have hq4 := dF9 hc16; have hq5 := dF9 hc18; have hq6 := dT9 hc39; omega)) ?_
        refine oK [] [] 4 [] 0 (fun φ41 => [(7, .int .u64 (IntKind.wrap .u64 (((128 * acc37 : Nat) : Int) + (IntKind.wrap .u64 (Int.tmod (((P.getD (n37 - 1) 0).toNat : Nat) : Int) ((128 : Nat) : Int)))))), (72, .int .u64 (IntKind.wrap .u64 (((128 * acc37 : Nat) : Int) + (IntKind.wrap .u64 (Int.tmod (((P.getD (n37 - 1) 0).toNat : Nat) : Int) ((128 : Nat) : Int)))))), (71, .int .u64 (IntKind.wrap .u64 (Int.tmod (((P.getD (n37 - 1) 0).toNat : Nat) : Int) ((128 : Nat) : Int)))), (70, .int .u8 (Int.tmod (((P.getD (n37 - 1) 0).toNat : Nat) : Int) ((128 : Nat) : Int)))]) (fun φ41 => []) s (fun φ41 => by kernel_rfl) ?_
        intro φ41 w41 s
        rw [nat_rem (a := ((P.getD (n37 - 1) 0).toNat)) (b := 128)]
        rw [nat_wrapU (a := (((P.getD (n37 - 1) 0).toNat) % 128)) (by have hr1 := hi4_1.lo; have hr2 := hi4_1.hi; have hr3 := hi4_1.le; have hd9 := decI_eq n37; have hz1 := hi37_0; have hz2 := hi37_1; have hp9 := dT9 hc39; have ht9 : tail7 P at0 k4 (n37 - 1) = 128 * acc37 + (P.getD (n37 - 1) 0).toNat % 128 := (by rw [tail7_step (by omega) (by omega) hg9.hi, show n37 - 1 + 1 = n37 by omega, ← hi37_2]); have ht8 := @tail7_le P at0 k4 (n37 - 1);  have := byte_lt (P.getD (n37 - 1) 0); have hq0 := dT9 hc6; have hq1 := dT9 hc8; have hq2 := dF9 hc11; have hq3 := dF9 hc14; have hq4 := dF9 hc16; have hq5 := dF9 hc18; have hq6 := dT9 hc39; omega)]
        rw [nat_addU (a := (128 * acc37)) (b := (((P.getD (n37 - 1) 0).toNat) % 128)) (by have hr1 := hi4_1.lo; have hr2 := hi4_1.hi; have hr3 := hi4_1.le; have hd9 := decI_eq n37; have hz1 := hi37_0; have hz2 := hi37_1; have hp9 := dT9 hc39; have ht9 : tail7 P at0 k4 (n37 - 1) = 128 * acc37 + (P.getD (n37 - 1) 0).toNat % 128 := (by rw [tail7_step (by omega) (by omega) hg9.hi, show n37 - 1 + 1 = n37 by omega, ← hi37_2]); have ht8 := @tail7_le P at0 k4 (n37 - 1);  have := byte_lt (P.getD (n37 - 1) 0); have hq0 := dT9 hc6; have hq1 := dT9 hc8; have hq2 := dF9 hc11; have hq3 := dF9 hc14; have hq4 := dF9 hc16; have hq5 := dF9 hc18; have hq6 := dT9 hc39; omega)]
        refine ops_done (by kernel_rfl) ?_
        refine region_rule ?_
        refine oKD [] [] 3 [] 0 (fun φ42 => [(8, .int .i64 (IntKind.wrap .i64 ((decI n37) - ((1 : Nat) : Int)))), (63, .int .i64 (IntKind.wrap .i64 ((decI n37) - ((1 : Nat) : Int)))), (62, .int .i64 (decI n37))]) (fun φ42 => []) s (fun φ42 => by kernel_rfl) (by kernel_rfl) ?_
        intro φ42 w42 s
        have hd9 := decI_eq n37
        have hp9 := dT9 hc39
        rw [decI_step (n := n37) (by omega) (by have := hg9.le; have := hi37_1; omega)]
        have ht9 : tail7 P at0 k4 (n37 - 1) = 128 * acc37 + (P.getD (n37 - 1) 0).toNat % 128 := by rw [tail7_step (by omega) (by omega) hg9.hi, show n37 - 1 + 1 = n37 by omega, ← hi37_2]
        exact ⟨⟨m37 - 1, (n37 - 1, (128 * acc37) + (((P.getD (n37 - 1) 0).toNat) % 128)), _, _, _, by omega, rfl, s, List.Sublist.slnil, by kernel_rfl, hle36, by show n37 - 1 = at0 + (m37 - 1); omega, by show _ ≤ _; omega, ht9.symm⟩⟩
       ·
        rw [hc39]
        refine cond_false_rule (b := false) (by kernel_rfl) rfl ?_
        refine wp_exit ?_
        refine seqR ?_
        refine oK [] [] 7 [] 0 (fun φ43 => [(5, .int .i64 (IntKind.wrap .i64 ((IntKind.wrap .i64 (((k4 : Nat) : Int) - ((at0 : Nat) : Int))) + ((1 : Nat) : Int)))), (4, .int .u64 acc37), (77, .int .i64 (IntKind.wrap .i64 ((IntKind.wrap .i64 (((k4 : Nat) : Int) - ((at0 : Nat) : Int))) + ((1 : Nat) : Int)))), (76, .int .i64 (IntKind.wrap .i64 (((k4 : Nat) : Int) - ((at0 : Nat) : Int)))), (75, .int .i64 at0), (74, .int .i64 k4), (73, .int .u64 acc37)]) (fun φ43 => []) s (fun φ43 => by kernel_rfl) ?_
        intro φ43 w43 s
        rw [nat_subI (a := k4) (b := at0) (by have hr1 := hi4_1.lo; have hr2 := hi4_1.hi; have hr3 := hi4_1.le; have hd9 := decI_eq n37; have hz1 := hi37_0; have hz2 := hi37_1;  have hq0 := dT9 hc6; have hq1 := dT9 hc8; have hq2 := dF9 hc11; have hq3 := dF9 hc14; have hq4 := dF9 hc16; have hq5 := dF9 hc18; have hq6 := dF9 hc39; omega) (by have hr1 := hi4_1.lo; have hr2 := hi4_1.hi; have hr3 := hi4_1.le; have hd9 := decI_eq n37; have hz1 := hi37_0; have hz2 := hi37_1;  have hq0 := dT9 hc6; have hq1 := dT9 hc8; have hq2 := dF9 hc11; have hq3 := dF9 hc14; have hq4 := dF9 hc16; have hq5 := dF9 hc18; have hq6 := dF9 hc39; omega)]
        rw [nat_addI (a := (k4 - at0)) (b := 1) (by have hr1 := hi4_1.lo; have hr2 := hi4_1.hi; have hr3 := hi4_1.le; have hd9 := decI_eq n37; have hz1 := hi37_0; have hz2 := hi37_1;  have hq0 := dT9 hc6; have hq1 := dT9 hc8; have hq2 := dF9 hc11; have hq3 := dF9 hc14; have hq4 := dF9 hc16; have hq5 := dF9 hc18; have hq6 := dF9 hc39; omega)]
        refine ops_done (by kernel_rfl) ?_
        refine wp_ret ?_
        refine ret_rule (C := []) [] [] (.tuple #[.int .u64 acc37, .int .i64 (((k4 - at0) + 1 : Nat) : Int)]) [] [] s trivial (by kernel_rfl) ?_
        exact ⟨_, _, _, rfl, s, (by have hd9 := decI_eq n37; have hp9 := dF9 hc39; have hz1 := hi37_0; have e9 := hi37_2; rw [show n37 = at0 by omega] at e9; rw [hg9.num, hg9.siz, ← e9])⟩
  ·
   rw [hc8]
   refine oKD [] [] 6 [] 0 (fun φ44 => [(26, .bool false), (25, undef), (24, undef), (23, undef), (22, undef), (21, undef)]) (fun φ44 => []) s (fun φ44 => by kernel_rfl) (by kernel_rfl) ?_
   intro φ44 w44 s
   refine cond_false_rule (b := false) (by kernel_rfl) rfl ?_
   refine wp_exit ?_
   refine wp_seq ?_
   refine seqR ?_
   refine oK [] [] 5 [] 0 (fun φ45 => [(33, .bool (decide (((k4 : Nat) : Int) ≥ ((P.length : Nat) : Int)))), (32, .bool (decide (((k4 : Nat) : Int) ≥ ((P.length : Nat) : Int)))), (31, .int .i64 P.length), (30, .slice a P.length c), (29, .int .i64 k4)]) (fun φ45 => []) s (fun φ45 => by kernel_rfl) ?_
   intro φ45 w45 s
   rw [nat_geq (a := k4) (b := P.length)]
   rcases Bool.eq_false_or_eq_true (decide (P.length ≤ k4)) with hc46 | hc46
   ·
    exact absurd (dT9 hc46) (by have q9 := dT9 hc6; omega)
   ·
    rw [hc46]
    refine oK [] [] 5 [] 0 (fun φ47 => [(38, .bool (((k4 : Nat) : Int) == (IntKind.wrap .i64 (((at0 : Nat) : Int) + ((9 : Nat) : Int))))), (37, .bool (((k4 : Nat) : Int) == (IntKind.wrap .i64 (((at0 : Nat) : Int) + ((9 : Nat) : Int))))), (36, .int .i64 (IntKind.wrap .i64 (((at0 : Nat) : Int) + ((9 : Nat) : Int)))), (35, .int .i64 at0), (34, .int .i64 k4)]) (fun φ47 => []) s (fun φ47 => by kernel_rfl) ?_
    intro φ47 w47 s
    rw [nat_addI (a := at0) (b := 9) (by have hr1 := hi4_1.lo; have hr2 := hi4_1.hi; have hr3 := hi4_1.le;  have hq0 := dT9 hc6; have hq1 := dF9 hc8; have hq2 := dF9 hc46; omega)]
    rw [nat_eql (a := k4) (b := (at0 + 9))]
    rcases Bool.eq_false_or_eq_true (decide (k4 = (at0 + 9))) with hc48 | hc48
    ·
     rw [hc48]
     refine oK [] [] 2 [] 0 (fun φ49 => [(40, .int .i64 k4), (39, .slice a P.length c)]) (fun φ49 => []) s (fun φ49 => by kernel_rfl) ?_
     intro φ49 w49 s
     refine sem_rule (Instr.indexAt 61 (.slice a P.length c) (.int .i64 k4)) (some 41) (.pointer (pAt a k4)) (by kernel_rfl) (bsl_idx hl (by have hr1 := hi4_1.lo; have hr2 := hi4_1.hi; have hr3 := hi4_1.le;  have hq0 := dT9 hc6; have hq1 := dF9 hc8; have hq2 := dF9 hc46; have hq3 := dT9 hc48; omega)) ?_
     refine sem_rule (Instr.loadAt 5 (.pointer (pAt a k4))) (some 42) (.int .u8 (((P.getD k4 0).toNat : Nat) : Int)) (by kernel_rfl) (bsl_ld s.sub hl (by have hr1 := hi4_1.lo; have hr2 := hi4_1.hi; have hr3 := hi4_1.le;  have hq0 := dT9 hc6; have hq1 := dF9 hc8; have hq2 := dF9 hc46; have hq3 := dT9 hc48; omega)) ?_
     refine oK [] [] 4 [] 0 (fun φ50 => [(46, .bool (decide ((((P.getD k4 0).toNat : Nat) : Int) > ((1 : Nat) : Int)))), (45, .bool (decide ((((P.getD k4 0).toNat : Nat) : Int) > ((1 : Nat) : Int)))), (44, .bool (decide ((((P.getD k4 0).toNat : Nat) : Int) > ((1 : Nat) : Int)))), (43, .bool (decide ((((P.getD k4 0).toNat : Nat) : Int) > ((1 : Nat) : Int))))]) (fun φ50 => []) s (fun φ50 => by kernel_rfl) ?_
     intro φ50 w50 s
     rw [nat_gtr (a := ((P.getD k4 0).toNat)) (b := 1)]
     rcases Bool.eq_false_or_eq_true (decide (1 < ((P.getD k4 0).toNat))) with hc51 | hc51
     ·
      rw [hc51]
      refine oKD [] [] 11 [] 0 (fun φ52 => [(57, .bool true), (56, undef), (55, undef), (54, undef), (53, undef), (52, undef), (51, undef), (50, undef), (49, undef), (48, undef), (47, undef)]) (fun φ52 => []) s (fun φ52 => by kernel_rfl) (by kernel_rfl) ?_
      intro φ52 w52 s
      refine cond_true_rule (b := true) (by kernel_rfl) rfl ?_
      refine seqR ?_
      refine oKD [] [] 2 [] 0 (fun φ53 => [(5, .int .i64 0), (4, .int .u64 0)]) (fun φ53 => []) s (fun φ53 => by kernel_rfl) (by kernel_rfl) ?_
      intro φ53 w53 s
      refine wp_ret ?_
      refine ret_rule (C := []) [] [] (.tuple #[.int .u64 0, .int .i64 0]) [] [] s trivial (by kernel_rfl) ?_
      exact ⟨_, _, _, rfl, s, (by have h9 := RefD.bad hi4_1 (by have hq0 := dT9 hc6; have hq1 := dF9 hc8; have hq2 := dF9 hc46; have hq3 := dT9 hc48; have hq4 := dT9 hc51; omega) (by have hq0 := dT9 hc6; have hq1 := dF9 hc8; have hq2 := dF9 hc46; have hq3 := dT9 hc48; have hq4 := dT9 hc51; omega); rw [h9.1, h9.2]; rfl)⟩
     ·
      rw [hc51]
      refine oK [] [] 4 [] 0 (fun φ54 => [(50, .bool (decide (((k4 : Nat) : Int) > ((at0 : Nat) : Int)))), (49, .bool (decide (((k4 : Nat) : Int) > ((at0 : Nat) : Int)))), (48, .int .i64 at0), (47, .int .i64 k4)]) (fun φ54 => []) s (fun φ54 => by kernel_rfl) ?_
      intro φ54 w54 s
      rw [nat_gtr (a := k4) (b := at0)]
      rcases Bool.eq_false_or_eq_true (decide (at0 < k4)) with hc55 | hc55
      ·
       rw [hc55]
       refine oK [] [] 2 [] 0 (fun φ56 => [(52, .int .i64 k4), (51, .slice a P.length c)]) (fun φ56 => []) s (fun φ56 => by kernel_rfl) ?_
       intro φ56 w56 s
       refine sem_rule (Instr.indexAt 61 (.slice a P.length c) (.int .i64 k4)) (some 53) (.pointer (pAt a k4)) (by kernel_rfl) (bsl_idx hl (by have hr1 := hi4_1.lo; have hr2 := hi4_1.hi; have hr3 := hi4_1.le;  have hq0 := dT9 hc6; have hq1 := dF9 hc8; have hq2 := dF9 hc46; have hq3 := dT9 hc48; have hq4 := dF9 hc51; have hq5 := dT9 hc55; omega)) ?_
       refine sem_rule (Instr.loadAt 5 (.pointer (pAt a k4))) (some 54) (.int .u8 (((P.getD k4 0).toNat : Nat) : Int)) (by kernel_rfl) (bsl_ld s.sub hl (by have hr1 := hi4_1.lo; have hr2 := hi4_1.hi; have hr3 := hi4_1.le;  have hq0 := dT9 hc6; have hq1 := dF9 hc8; have hq2 := dF9 hc46; have hq3 := dT9 hc48; have hq4 := dF9 hc51; have hq5 := dT9 hc55; omega)) ?_
       refine oK [] [] 3 [] 0 (fun φ57 => [(57, .bool ((((P.getD k4 0).toNat : Nat) : Int) == ((0 : Nat) : Int))), (56, .bool ((((P.getD k4 0).toNat : Nat) : Int) == ((0 : Nat) : Int))), (55, .bool ((((P.getD k4 0).toNat : Nat) : Int) == ((0 : Nat) : Int)))]) (fun φ57 => []) s (fun φ57 => by kernel_rfl) ?_
       intro φ57 w57 s
       rw [nat_eql (a := ((P.getD k4 0).toNat)) (b := 0)]
       refine ops_done (by kernel_rfl) ?_
       rcases Bool.eq_false_or_eq_true (decide (((P.getD k4 0).toNat) = 0)) with hc58 | hc58
       ·
        rw [hc58]
        refine cond_true_rule (b := true) (by kernel_rfl) rfl ?_
        refine seqR ?_
        refine oKD [] [] 2 [] 0 (fun φ59 => [(5, .int .i64 0), (4, .int .u64 0)]) (fun φ59 => []) s (fun φ59 => by kernel_rfl) (by kernel_rfl) ?_
        intro φ59 w59 s
        refine wp_ret ?_
        refine ret_rule (C := []) [] [] (.tuple #[.int .u64 0, .int .i64 0]) [] [] s trivial (by kernel_rfl) ?_
        exact ⟨_, _, _, rfl, s, (by have h9 := RefD.bad hi4_1 (by have hq0 := dT9 hc6; have hq1 := dF9 hc8; have hq2 := dF9 hc46; have hq3 := dT9 hc48; have hq4 := dF9 hc51; have hq5 := dT9 hc55; have hq6 := dT9 hc58; omega) (by have hq0 := dT9 hc6; have hq1 := dF9 hc8; have hq2 := dF9 hc46; have hq3 := dT9 hc48; have hq4 := dF9 hc51; have hq5 := dT9 hc55; have hq6 := dT9 hc58; omega); rw [h9.1, h9.2]; rfl)⟩
       ·
        rw [hc58]
        refine cond_false_rule (b := false) (by kernel_rfl) rfl ?_
        refine wp_skip ?_
        refine seqR ?_
        refine oKD [] [] 1 [] 0 (fun φ60 => [(7, .int .u64 0)]) (fun φ60 => []) s (fun φ60 => by kernel_rfl) (by kernel_rfl) ?_
        intro φ60 w60 s
        refine wp_seq ?_
        refine seqR ?_
        refine oKD [] [] 2 [] 0 (fun φ61 => [(8, .int .i64 k4), (58, .int .i64 k4)]) (fun φ61 => []) s (fun φ61 => by kernel_rfl) (by kernel_rfl) ?_
        intro φ61 w61 s
        refine wp_block ?_
        have hg9 := RefD.good hi4_1 (by have hq0 := dT9 hc6; have hq1 := dF9 hc8; have hq2 := dF9 hc46; have hq3 := dT9 hc48; have hq4 := dF9 hc51; have hq5 := dT9 hc55; have hq6 := dF9 hc58; omega) (by have hq0 := dT9 hc6; have hq1 := dF9 hc8; have hq2 := dF9 hc46; have hq3 := dT9 hc48; have hq4 := dF9 hc51; have hq5 := dT9 hc55; have hq6 := dF9 hc58; omega)
        have hlo9 := hg9.lo
        have hhi9 := hg9.hi
        have hle9 := hg9.le
        have hlt9 := hg9.lt
        have hle62 := IM.Le.refl I4
        refine loop_rule (fun (x : Nat × Nat) => [(0, .slice a P.length c), (1, .int .i64 at0), (6, .int .i64 k4), (8, .int .i64 (decI x.1)), (7, .int .u64 x.2)]) (fun (x : Nat × Nat) => []) (fun m (x : Nat × Nat) J => IM.Le I4 J ∧ x.1 = at0 + m ∧ x.1 ≤ k4 + 1 ∧ x.2 = tail7 P at0 k4 x.1) (k4 + 1 - at0) (k4 + 1, 0) s (by kernel_rfl) List.Sublist.slnil ⟨IM.Le.refl _, (by show k4 + 1 = at0 + (k4 + 1 - at0); omega), (Nat.le_refl _), (tail7_end hlo9).symm⟩ ?_
        rintro m63 ⟨n63, acc63⟩ I63 w63 ev63 s ⟨le63, hi63_0, hi63_1, hi63_2⟩
        try dsimp only at s hi63_0 hi63_1 hi63_2 ⊢
        replace hl := BSl.mono le63 hl
        replace hle62 := leMono le63 hle62
        refine wp_seq ?_
        refine seqR ?_
        refine oKD [] [] 3 [] 0 (fun φ64 => [(61, .bool (decide ((decI n63) ≥ ((at0 : Nat) : Int)))), (60, .int .i64 at0), (59, .int .i64 (decI n63))]) (fun φ64 => []) s (fun φ64 => by kernel_rfl) (by kernel_rfl) ?_
        intro φ64 w64 s
        rcases Bool.eq_false_or_eq_true (decide ((decI n63) ≥ ((at0 : Nat) : Int))) with hc65 | hc65
        ·
         rw [hc65]
         refine cond_true_rule (b := true) (by kernel_rfl) rfl ?_
         refine wp_skip ?_
         refine wp_seq ?_
         refine wp_block ?_
         refine region_rule ?_
         refine oK [] [] 4 [] 0 (fun φ66 => [(67, .int .i64 (decI n63)), (66, .slice a P.length c), (65, .int .u64 (IntKind.wrap .u64 (((128 : Nat) : Int) * ((acc63 : Nat) : Int)))), (64, .int .u64 acc63)]) (fun φ66 => []) s (fun φ66 => by kernel_rfl) ?_
         intro φ66 w66 s
         rw [nat_mulU (a := 128) (b := acc63) (by have hr1 := hi4_1.lo; have hr2 := hi4_1.hi; have hr3 := hi4_1.le; have hd9 := decI_eq n63; have hz1 := hi63_0; have hz2 := hi63_1; have hp9 := dT9 hc65; have ht9 : tail7 P at0 k4 (n63 - 1) = 128 * acc63 + (P.getD (n63 - 1) 0).toNat % 128 := (by rw [tail7_step (by omega) (by omega) hg9.hi, show n63 - 1 + 1 = n63 by omega, ← hi63_2]); have ht8 := @tail7_le P at0 k4 (n63 - 1);  have hq0 := dT9 hc6; have hq1 := dF9 hc8; have hq2 := dF9 hc46; have hq3 := dT9 hc48; have hq4 := dF9 hc51; have hq5 := dT9 hc55; have hq6 := dF9 hc58; have hq7 := dT9 hc65; omega)]
         refine sem_rule (Instr.indexAt 61 (.slice a P.length c) (.int .i64 (decI n63))) (some 68) (.pointer (pAt a (n63 - 1))) (by kernel_rfl) (idx_dec hl (by have := decI_eq n63; have := dT9 hc65; have := hi63_1; have := hhi9; omega) (by have := decI_eq n63; have := dT9 hc65; have := hi63_1; have := hhi9; omega)) ?_
         refine sem_rule (Instr.loadAt 5 (.pointer (pAt a (n63 - 1)))) (some 69) (.int .u8 (((P.getD (n63 - 1) 0).toNat : Nat) : Int)) (by kernel_rfl) (bsl_ld s.sub hl (by have hr1 := hi4_1.lo; have hr2 := hi4_1.hi; have hr3 := hi4_1.le; have hd9 := decI_eq n63; have hz1 := hi63_0; have hz2 := hi63_1; have hp9 := dT9 hc65; have ht9 : tail7 P at0 k4 (n63 - 1) = 128 * acc63 + (P.getD (n63 - 1) 0).toNat % 128 := (by rw [tail7_step (by omega) (by omega) hg9.hi, show n63 - 1 + 1 = n63 by omega, ← hi63_2]); have ht8 := @tail7_le P at0 k4 (n63 - 1);  have hq0 := dT9 hc6; have hq1 := dF9 hc8; have hq2 := dF9 hc46; have hq3 := dT9 hc48; have hq4 := dF9 hc51; have hq5 := dT9 hc55; have hq6 := dF9 hc58; have hq7 := dT9 hc65; omega)) ?_
         refine oK [] [] 4 [] 0 (fun φ67 => [(7, .int .u64 (IntKind.wrap .u64 (((128 * acc63 : Nat) : Int) + (IntKind.wrap .u64 (Int.tmod (((P.getD (n63 - 1) 0).toNat : Nat) : Int) ((128 : Nat) : Int)))))), (72, .int .u64 (IntKind.wrap .u64 (((128 * acc63 : Nat) : Int) + (IntKind.wrap .u64 (Int.tmod (((P.getD (n63 - 1) 0).toNat : Nat) : Int) ((128 : Nat) : Int)))))), (71, .int .u64 (IntKind.wrap .u64 (Int.tmod (((P.getD (n63 - 1) 0).toNat : Nat) : Int) ((128 : Nat) : Int)))), (70, .int .u8 (Int.tmod (((P.getD (n63 - 1) 0).toNat : Nat) : Int) ((128 : Nat) : Int)))]) (fun φ67 => []) s (fun φ67 => by kernel_rfl) ?_
         intro φ67 w67 s
         rw [nat_rem (a := ((P.getD (n63 - 1) 0).toNat)) (b := 128)]
         rw [nat_wrapU (a := (((P.getD (n63 - 1) 0).toNat) % 128)) (by have hr1 := hi4_1.lo; have hr2 := hi4_1.hi; have hr3 := hi4_1.le; have hd9 := decI_eq n63; have hz1 := hi63_0; have hz2 := hi63_1; have hp9 := dT9 hc65; have ht9 : tail7 P at0 k4 (n63 - 1) = 128 * acc63 + (P.getD (n63 - 1) 0).toNat % 128 := (by rw [tail7_step (by omega) (by omega) hg9.hi, show n63 - 1 + 1 = n63 by omega, ← hi63_2]); have ht8 := @tail7_le P at0 k4 (n63 - 1);  have := byte_lt (P.getD (n63 - 1) 0); have hq0 := dT9 hc6; have hq1 := dF9 hc8; have hq2 := dF9 hc46; have hq3 := dT9 hc48; have hq4 := dF9 hc51; have hq5 := dT9 hc55; have hq6 := dF9 hc58; have hq7 := dT9 hc65; omega)]
         rw [nat_addU (a := (128 * acc63)) (b := (((P.getD (n63 - 1) 0).toNat) % 128)) (by have hr1 := hi4_1.lo; have hr2 := hi4_1.hi; have hr3 := hi4_1.le; have hd9 := decI_eq n63; have hz1 := hi63_0; have hz2 := hi63_1; have hp9 := dT9 hc65; have ht9 : tail7 P at0 k4 (n63 - 1) = 128 * acc63 + (P.getD (n63 - 1) 0).toNat % 128 := (by rw [tail7_step (by omega) (by omega) hg9.hi, show n63 - 1 + 1 = n63 by omega, ← hi63_2]); have ht8 := @tail7_le P at0 k4 (n63 - 1);  have := byte_lt (P.getD (n63 - 1) 0); have hq0 := dT9 hc6; have hq1 := dF9 hc8; have hq2 := dF9 hc46; have hq3 := dT9 hc48; have hq4 := dF9 hc51; have hq5 := dT9 hc55; have hq6 := dF9 hc58; have hq7 := dT9 hc65; omega)]
         refine ops_done (by kernel_rfl) ?_
         refine region_rule ?_
         refine oKD [] [] 3 [] 0 (fun φ68 => [(8, .int .i64 (IntKind.wrap .i64 ((decI n63) - ((1 : Nat) : Int)))), (63, .int .i64 (IntKind.wrap .i64 ((decI n63) - ((1 : Nat) : Int)))), (62, .int .i64 (decI n63))]) (fun φ68 => []) s (fun φ68 => by kernel_rfl) (by kernel_rfl) ?_
         intro φ68 w68 s
         have hd9 := decI_eq n63
         have hp9 := dT9 hc65
         rw [decI_step (n := n63) (by omega) (by have := hg9.le; have := hi63_1; omega)]
         have ht9 : tail7 P at0 k4 (n63 - 1) = 128 * acc63 + (P.getD (n63 - 1) 0).toNat % 128 := by rw [tail7_step (by omega) (by omega) hg9.hi, show n63 - 1 + 1 = n63 by omega, ← hi63_2]
         exact ⟨⟨m63 - 1, (n63 - 1, (128 * acc63) + (((P.getD (n63 - 1) 0).toNat) % 128)), _, _, _, by omega, rfl, s, List.Sublist.slnil, by kernel_rfl, hle62, by show n63 - 1 = at0 + (m63 - 1); omega, by show _ ≤ _; omega, ht9.symm⟩⟩
        ·
         rw [hc65]
         refine cond_false_rule (b := false) (by kernel_rfl) rfl ?_
         refine wp_exit ?_
         refine seqR ?_
         refine oK [] [] 7 [] 0 (fun φ69 => [(5, .int .i64 (IntKind.wrap .i64 ((IntKind.wrap .i64 (((k4 : Nat) : Int) - ((at0 : Nat) : Int))) + ((1 : Nat) : Int)))), (4, .int .u64 acc63), (77, .int .i64 (IntKind.wrap .i64 ((IntKind.wrap .i64 (((k4 : Nat) : Int) - ((at0 : Nat) : Int))) + ((1 : Nat) : Int)))), (76, .int .i64 (IntKind.wrap .i64 (((k4 : Nat) : Int) - ((at0 : Nat) : Int)))), (75, .int .i64 at0), (74, .int .i64 k4), (73, .int .u64 acc63)]) (fun φ69 => []) s (fun φ69 => by kernel_rfl) ?_
         intro φ69 w69 s
         rw [nat_subI (a := k4) (b := at0) (by have hr1 := hi4_1.lo; have hr2 := hi4_1.hi; have hr3 := hi4_1.le; have hd9 := decI_eq n63; have hz1 := hi63_0; have hz2 := hi63_1;  have hq0 := dT9 hc6; have hq1 := dF9 hc8; have hq2 := dF9 hc46; have hq3 := dT9 hc48; have hq4 := dF9 hc51; have hq5 := dT9 hc55; have hq6 := dF9 hc58; have hq7 := dF9 hc65; omega) (by have hr1 := hi4_1.lo; have hr2 := hi4_1.hi; have hr3 := hi4_1.le; have hd9 := decI_eq n63; have hz1 := hi63_0; have hz2 := hi63_1;  have hq0 := dT9 hc6; have hq1 := dF9 hc8; have hq2 := dF9 hc46; have hq3 := dT9 hc48; have hq4 := dF9 hc51; have hq5 := dT9 hc55; have hq6 := dF9 hc58; have hq7 := dF9 hc65; omega)]
         rw [nat_addI (a := (k4 - at0)) (b := 1) (by have hr1 := hi4_1.lo; have hr2 := hi4_1.hi; have hr3 := hi4_1.le; have hd9 := decI_eq n63; have hz1 := hi63_0; have hz2 := hi63_1;  have hq0 := dT9 hc6; have hq1 := dF9 hc8; have hq2 := dF9 hc46; have hq3 := dT9 hc48; have hq4 := dF9 hc51; have hq5 := dT9 hc55; have hq6 := dF9 hc58; have hq7 := dF9 hc65; omega)]
         refine ops_done (by kernel_rfl) ?_
         refine wp_ret ?_
         refine ret_rule (C := []) [] [] (.tuple #[.int .u64 acc63, .int .i64 (((k4 - at0) + 1 : Nat) : Int)]) [] [] s trivial (by kernel_rfl) ?_
         exact ⟨_, _, _, rfl, s, (by have hd9 := decI_eq n63; have hp9 := dF9 hc65; have hz1 := hi63_0; have e9 := hi63_2; rw [show n63 = at0 by omega] at e9; rw [hg9.num, hg9.siz, ← e9])⟩
      ·
       rw [hc55]
       refine oKD [] [] 7 [] 0 (fun φ70 => [(57, .bool false), (56, .bool false), (55, undef), (54, undef), (53, undef), (52, undef), (51, undef)]) (fun φ70 => []) s (fun φ70 => by kernel_rfl) (by kernel_rfl) ?_
       intro φ70 w70 s
       refine cond_false_rule (b := false) (by kernel_rfl) rfl ?_
       refine wp_skip ?_
       refine seqR ?_
       refine oKD [] [] 1 [] 0 (fun φ71 => [(7, .int .u64 0)]) (fun φ71 => []) s (fun φ71 => by kernel_rfl) (by kernel_rfl) ?_
       intro φ71 w71 s
       refine wp_seq ?_
       refine seqR ?_
       refine oKD [] [] 2 [] 0 (fun φ72 => [(8, .int .i64 k4), (58, .int .i64 k4)]) (fun φ72 => []) s (fun φ72 => by kernel_rfl) (by kernel_rfl) ?_
       intro φ72 w72 s
       refine wp_block ?_
       have hg9 := RefD.good hi4_1 (by have hq0 := dT9 hc6; have hq1 := dF9 hc8; have hq2 := dF9 hc46; have hq3 := dT9 hc48; have hq4 := dF9 hc51; have hq5 := dF9 hc55; omega) (by have hq0 := dT9 hc6; have hq1 := dF9 hc8; have hq2 := dF9 hc46; have hq3 := dT9 hc48; have hq4 := dF9 hc51; have hq5 := dF9 hc55; omega)
       have hlo9 := hg9.lo
       have hhi9 := hg9.hi
       have hle9 := hg9.le
       have hlt9 := hg9.lt
       have hle73 := IM.Le.refl I4
       refine loop_rule (fun (x : Nat × Nat) => [(0, .slice a P.length c), (1, .int .i64 at0), (6, .int .i64 k4), (8, .int .i64 (decI x.1)), (7, .int .u64 x.2)]) (fun (x : Nat × Nat) => []) (fun m (x : Nat × Nat) J => IM.Le I4 J ∧ x.1 = at0 + m ∧ x.1 ≤ k4 + 1 ∧ x.2 = tail7 P at0 k4 x.1) (k4 + 1 - at0) (k4 + 1, 0) s (by kernel_rfl) List.Sublist.slnil ⟨IM.Le.refl _, (by show k4 + 1 = at0 + (k4 + 1 - at0); omega), (Nat.le_refl _), (tail7_end hlo9).symm⟩ ?_
       rintro m74 ⟨n74, acc74⟩ I74 w74 ev74 s ⟨le74, hi74_0, hi74_1, hi74_2⟩
       try dsimp only at s hi74_0 hi74_1 hi74_2 ⊢
       replace hl := BSl.mono le74 hl
       replace hle73 := leMono le74 hle73
       refine wp_seq ?_
       refine seqR ?_
       refine oKD [] [] 3 [] 0 (fun φ75 => [(61, .bool (decide ((decI n74) ≥ ((at0 : Nat) : Int)))), (60, .int .i64 at0), (59, .int .i64 (decI n74))]) (fun φ75 => []) s (fun φ75 => by kernel_rfl) (by kernel_rfl) ?_
       intro φ75 w75 s
       rcases Bool.eq_false_or_eq_true (decide ((decI n74) ≥ ((at0 : Nat) : Int))) with hc76 | hc76
       ·
        rw [hc76]
        refine cond_true_rule (b := true) (by kernel_rfl) rfl ?_
        refine wp_skip ?_
        refine wp_seq ?_
        refine wp_block ?_
        refine region_rule ?_
        refine oK [] [] 4 [] 0 (fun φ77 => [(67, .int .i64 (decI n74)), (66, .slice a P.length c), (65, .int .u64 (IntKind.wrap .u64 (((128 : Nat) : Int) * ((acc74 : Nat) : Int)))), (64, .int .u64 acc74)]) (fun φ77 => []) s (fun φ77 => by kernel_rfl) ?_
        intro φ77 w77 s
        rw [nat_mulU (a := 128) (b := acc74) (by have hr1 := hi4_1.lo; have hr2 := hi4_1.hi; have hr3 := hi4_1.le; have hd9 := decI_eq n74; have hz1 := hi74_0; have hz2 := hi74_1; have hp9 := dT9 hc76; have ht9 : tail7 P at0 k4 (n74 - 1) = 128 * acc74 + (P.getD (n74 - 1) 0).toNat % 128 := (by rw [tail7_step (by omega) (by omega) hg9.hi, show n74 - 1 + 1 = n74 by omega, ← hi74_2]); have ht8 := @tail7_le P at0 k4 (n74 - 1);  have hq0 := dT9 hc6; have hq1 := dF9 hc8; have hq2 := dF9 hc46; have hq3 := dT9 hc48; have hq4 := dF9 hc51; have hq5 := dF9 hc55; have hq6 := dT9 hc76; omega)]
        refine sem_rule (Instr.indexAt 61 (.slice a P.length c) (.int .i64 (decI n74))) (some 68) (.pointer (pAt a (n74 - 1))) (by kernel_rfl) (idx_dec hl (by have := decI_eq n74; have := dT9 hc76; have := hi74_1; have := hhi9; omega) (by have := decI_eq n74; have := dT9 hc76; have := hi74_1; have := hhi9; omega)) ?_
        refine sem_rule (Instr.loadAt 5 (.pointer (pAt a (n74 - 1)))) (some 69) (.int .u8 (((P.getD (n74 - 1) 0).toNat : Nat) : Int)) (by kernel_rfl) (bsl_ld s.sub hl (by have hr1 := hi4_1.lo; have hr2 := hi4_1.hi; have hr3 := hi4_1.le; have hd9 := decI_eq n74; have hz1 := hi74_0; have hz2 := hi74_1; have hp9 := dT9 hc76; have ht9 : tail7 P at0 k4 (n74 - 1) = 128 * acc74 + (P.getD (n74 - 1) 0).toNat % 128 := (by rw [tail7_step (by omega) (by omega) hg9.hi, show n74 - 1 + 1 = n74 by omega, ← hi74_2]); have ht8 := @tail7_le P at0 k4 (n74 - 1);  have hq0 := dT9 hc6; have hq1 := dF9 hc8; have hq2 := dF9 hc46; have hq3 := dT9 hc48; have hq4 := dF9 hc51; have hq5 := dF9 hc55; have hq6 := dT9 hc76; omega)) ?_
        refine oK [] [] 4 [] 0 (fun φ78 => [(7, .int .u64 (IntKind.wrap .u64 (((128 * acc74 : Nat) : Int) + (IntKind.wrap .u64 (Int.tmod (((P.getD (n74 - 1) 0).toNat : Nat) : Int) ((128 : Nat) : Int)))))), (72, .int .u64 (IntKind.wrap .u64 (((128 * acc74 : Nat) : Int) + (IntKind.wrap .u64 (Int.tmod (((P.getD (n74 - 1) 0).toNat : Nat) : Int) ((128 : Nat) : Int)))))), (71, .int .u64 (IntKind.wrap .u64 (Int.tmod (((P.getD (n74 - 1) 0).toNat : Nat) : Int) ((128 : Nat) : Int)))), (70, .int .u8 (Int.tmod (((P.getD (n74 - 1) 0).toNat : Nat) : Int) ((128 : Nat) : Int)))]) (fun φ78 => []) s (fun φ78 => by kernel_rfl) ?_
        intro φ78 w78 s
        rw [nat_rem (a := ((P.getD (n74 - 1) 0).toNat)) (b := 128)]
        rw [nat_wrapU (a := (((P.getD (n74 - 1) 0).toNat) % 128)) (by have hr1 := hi4_1.lo; have hr2 := hi4_1.hi; have hr3 := hi4_1.le; have hd9 := decI_eq n74; have hz1 := hi74_0; have hz2 := hi74_1; have hp9 := dT9 hc76; have ht9 : tail7 P at0 k4 (n74 - 1) = 128 * acc74 + (P.getD (n74 - 1) 0).toNat % 128 := (by rw [tail7_step (by omega) (by omega) hg9.hi, show n74 - 1 + 1 = n74 by omega, ← hi74_2]); have ht8 := @tail7_le P at0 k4 (n74 - 1);  have := byte_lt (P.getD (n74 - 1) 0); have hq0 := dT9 hc6; have hq1 := dF9 hc8; have hq2 := dF9 hc46; have hq3 := dT9 hc48; have hq4 := dF9 hc51; have hq5 := dF9 hc55; have hq6 := dT9 hc76; omega)]
        rw [nat_addU (a := (128 * acc74)) (b := (((P.getD (n74 - 1) 0).toNat) % 128)) (by have hr1 := hi4_1.lo; have hr2 := hi4_1.hi; have hr3 := hi4_1.le; have hd9 := decI_eq n74; have hz1 := hi74_0; have hz2 := hi74_1; have hp9 := dT9 hc76; have ht9 : tail7 P at0 k4 (n74 - 1) = 128 * acc74 + (P.getD (n74 - 1) 0).toNat % 128 := (by rw [tail7_step (by omega) (by omega) hg9.hi, show n74 - 1 + 1 = n74 by omega, ← hi74_2]); have ht8 := @tail7_le P at0 k4 (n74 - 1);  have := byte_lt (P.getD (n74 - 1) 0); have hq0 := dT9 hc6; have hq1 := dF9 hc8; have hq2 := dF9 hc46; have hq3 := dT9 hc48; have hq4 := dF9 hc51; have hq5 := dF9 hc55; have hq6 := dT9 hc76; omega)]
        refine ops_done (by kernel_rfl) ?_
        refine region_rule ?_
        refine oKD [] [] 3 [] 0 (fun φ79 => [(8, .int .i64 (IntKind.wrap .i64 ((decI n74) - ((1 : Nat) : Int)))), (63, .int .i64 (IntKind.wrap .i64 ((decI n74) - ((1 : Nat) : Int)))), (62, .int .i64 (decI n74))]) (fun φ79 => []) s (fun φ79 => by kernel_rfl) (by kernel_rfl) ?_
        intro φ79 w79 s
        have hd9 := decI_eq n74
        have hp9 := dT9 hc76
        rw [decI_step (n := n74) (by omega) (by have := hg9.le; have := hi74_1; omega)]
        have ht9 : tail7 P at0 k4 (n74 - 1) = 128 * acc74 + (P.getD (n74 - 1) 0).toNat % 128 := by rw [tail7_step (by omega) (by omega) hg9.hi, show n74 - 1 + 1 = n74 by omega, ← hi74_2]
        exact ⟨⟨m74 - 1, (n74 - 1, (128 * acc74) + (((P.getD (n74 - 1) 0).toNat) % 128)), _, _, _, by omega, rfl, s, List.Sublist.slnil, by kernel_rfl, hle73, by show n74 - 1 = at0 + (m74 - 1); omega, by show _ ≤ _; omega, ht9.symm⟩⟩
       ·
        rw [hc76]
        refine cond_false_rule (b := false) (by kernel_rfl) rfl ?_
        refine wp_exit ?_
        refine seqR ?_
        refine oK [] [] 7 [] 0 (fun φ80 => [(5, .int .i64 (IntKind.wrap .i64 ((IntKind.wrap .i64 (((k4 : Nat) : Int) - ((at0 : Nat) : Int))) + ((1 : Nat) : Int)))), (4, .int .u64 acc74), (77, .int .i64 (IntKind.wrap .i64 ((IntKind.wrap .i64 (((k4 : Nat) : Int) - ((at0 : Nat) : Int))) + ((1 : Nat) : Int)))), (76, .int .i64 (IntKind.wrap .i64 (((k4 : Nat) : Int) - ((at0 : Nat) : Int)))), (75, .int .i64 at0), (74, .int .i64 k4), (73, .int .u64 acc74)]) (fun φ80 => []) s (fun φ80 => by kernel_rfl) ?_
        intro φ80 w80 s
        rw [nat_subI (a := k4) (b := at0) (by have hr1 := hi4_1.lo; have hr2 := hi4_1.hi; have hr3 := hi4_1.le; have hd9 := decI_eq n74; have hz1 := hi74_0; have hz2 := hi74_1;  have hq0 := dT9 hc6; have hq1 := dF9 hc8; have hq2 := dF9 hc46; have hq3 := dT9 hc48; have hq4 := dF9 hc51; have hq5 := dF9 hc55; have hq6 := dF9 hc76; omega) (by have hr1 := hi4_1.lo; have hr2 := hi4_1.hi; have hr3 := hi4_1.le; have hd9 := decI_eq n74; have hz1 := hi74_0; have hz2 := hi74_1;  have hq0 := dT9 hc6; have hq1 := dF9 hc8; have hq2 := dF9 hc46; have hq3 := dT9 hc48; have hq4 := dF9 hc51; have hq5 := dF9 hc55; have hq6 := dF9 hc76; omega)]
        rw [nat_addI (a := (k4 - at0)) (b := 1) (by have hr1 := hi4_1.lo; have hr2 := hi4_1.hi; have hr3 := hi4_1.le; have hd9 := decI_eq n74; have hz1 := hi74_0; have hz2 := hi74_1;  have hq0 := dT9 hc6; have hq1 := dF9 hc8; have hq2 := dF9 hc46; have hq3 := dT9 hc48; have hq4 := dF9 hc51; have hq5 := dF9 hc55; have hq6 := dF9 hc76; omega)]
        refine ops_done (by kernel_rfl) ?_
        refine wp_ret ?_
        refine ret_rule (C := []) [] [] (.tuple #[.int .u64 acc74, .int .i64 (((k4 - at0) + 1 : Nat) : Int)]) [] [] s trivial (by kernel_rfl) ?_
        exact ⟨_, _, _, rfl, s, (by have hd9 := decI_eq n74; have hp9 := dF9 hc76; have hz1 := hi74_0; have e9 := hi74_2; rw [show n74 = at0 by omega] at e9; rw [hg9.num, hg9.siz, ← e9])⟩
    ·
     rw [hc48]
     refine oK [] [] 12 [] 0 (fun φ81 => [(50, .bool (decide (((k4 : Nat) : Int) > ((at0 : Nat) : Int)))), (49, .bool (decide (((k4 : Nat) : Int) > ((at0 : Nat) : Int)))), (48, .int .i64 at0), (47, .int .i64 k4), (46, .bool false), (45, .bool false), (44, .bool false), (43, undef), (42, undef), (41, undef), (40, undef), (39, undef)]) (fun φ81 => []) s (fun φ81 => by kernel_rfl) ?_
     intro φ81 w81 s
     rw [nat_gtr (a := k4) (b := at0)]
     rcases Bool.eq_false_or_eq_true (decide (at0 < k4)) with hc82 | hc82
     ·
      rw [hc82]
      refine oK [] [] 2 [] 0 (fun φ83 => [(52, .int .i64 k4), (51, .slice a P.length c)]) (fun φ83 => []) s (fun φ83 => by kernel_rfl) ?_
      intro φ83 w83 s
      refine sem_rule (Instr.indexAt 61 (.slice a P.length c) (.int .i64 k4)) (some 53) (.pointer (pAt a k4)) (by kernel_rfl) (bsl_idx hl (by have hr1 := hi4_1.lo; have hr2 := hi4_1.hi; have hr3 := hi4_1.le;  have hq0 := dT9 hc6; have hq1 := dF9 hc8; have hq2 := dF9 hc46; have hq3 := dF9 hc48; have hq4 := dT9 hc82; omega)) ?_
      refine sem_rule (Instr.loadAt 5 (.pointer (pAt a k4))) (some 54) (.int .u8 (((P.getD k4 0).toNat : Nat) : Int)) (by kernel_rfl) (bsl_ld s.sub hl (by have hr1 := hi4_1.lo; have hr2 := hi4_1.hi; have hr3 := hi4_1.le;  have hq0 := dT9 hc6; have hq1 := dF9 hc8; have hq2 := dF9 hc46; have hq3 := dF9 hc48; have hq4 := dT9 hc82; omega)) ?_
      refine oK [] [] 3 [] 0 (fun φ84 => [(57, .bool ((((P.getD k4 0).toNat : Nat) : Int) == ((0 : Nat) : Int))), (56, .bool ((((P.getD k4 0).toNat : Nat) : Int) == ((0 : Nat) : Int))), (55, .bool ((((P.getD k4 0).toNat : Nat) : Int) == ((0 : Nat) : Int)))]) (fun φ84 => []) s (fun φ84 => by kernel_rfl) ?_
      intro φ84 w84 s
      rw [nat_eql (a := ((P.getD k4 0).toNat)) (b := 0)]
      refine ops_done (by kernel_rfl) ?_
      rcases Bool.eq_false_or_eq_true (decide (((P.getD k4 0).toNat) = 0)) with hc85 | hc85
      ·
       rw [hc85]
       refine cond_true_rule (b := true) (by kernel_rfl) rfl ?_
       refine seqR ?_
       refine oKD [] [] 2 [] 0 (fun φ86 => [(5, .int .i64 0), (4, .int .u64 0)]) (fun φ86 => []) s (fun φ86 => by kernel_rfl) (by kernel_rfl) ?_
       intro φ86 w86 s
       refine wp_ret ?_
       refine ret_rule (C := []) [] [] (.tuple #[.int .u64 0, .int .i64 0]) [] [] s trivial (by kernel_rfl) ?_
       exact ⟨_, _, _, rfl, s, (by have h9 := RefD.bad hi4_1 (by have hq0 := dT9 hc6; have hq1 := dF9 hc8; have hq2 := dF9 hc46; have hq3 := dF9 hc48; have hq4 := dT9 hc82; have hq5 := dT9 hc85; omega) (by have hq0 := dT9 hc6; have hq1 := dF9 hc8; have hq2 := dF9 hc46; have hq3 := dF9 hc48; have hq4 := dT9 hc82; have hq5 := dT9 hc85; omega); rw [h9.1, h9.2]; rfl)⟩
      ·
       rw [hc85]
       refine cond_false_rule (b := false) (by kernel_rfl) rfl ?_
       refine wp_skip ?_
       refine seqR ?_
       refine oKD [] [] 1 [] 0 (fun φ87 => [(7, .int .u64 0)]) (fun φ87 => []) s (fun φ87 => by kernel_rfl) (by kernel_rfl) ?_
       intro φ87 w87 s
       refine wp_seq ?_
       refine seqR ?_
       refine oKD [] [] 2 [] 0 (fun φ88 => [(8, .int .i64 k4), (58, .int .i64 k4)]) (fun φ88 => []) s (fun φ88 => by kernel_rfl) (by kernel_rfl) ?_
       intro φ88 w88 s
       refine wp_block ?_
       have hg9 := RefD.good hi4_1 (by have hq0 := dT9 hc6; have hq1 := dF9 hc8; have hq2 := dF9 hc46; have hq3 := dF9 hc48; have hq4 := dT9 hc82; have hq5 := dF9 hc85; omega) (by have hq0 := dT9 hc6; have hq1 := dF9 hc8; have hq2 := dF9 hc46; have hq3 := dF9 hc48; have hq4 := dT9 hc82; have hq5 := dF9 hc85; omega)
       have hlo9 := hg9.lo
       have hhi9 := hg9.hi
       have hle9 := hg9.le
       have hlt9 := hg9.lt
       have hle89 := IM.Le.refl I4
       refine loop_rule (fun (x : Nat × Nat) => [(0, .slice a P.length c), (1, .int .i64 at0), (6, .int .i64 k4), (8, .int .i64 (decI x.1)), (7, .int .u64 x.2)]) (fun (x : Nat × Nat) => []) (fun m (x : Nat × Nat) J => IM.Le I4 J ∧ x.1 = at0 + m ∧ x.1 ≤ k4 + 1 ∧ x.2 = tail7 P at0 k4 x.1) (k4 + 1 - at0) (k4 + 1, 0) s (by kernel_rfl) List.Sublist.slnil ⟨IM.Le.refl _, (by show k4 + 1 = at0 + (k4 + 1 - at0); omega), (Nat.le_refl _), (tail7_end hlo9).symm⟩ ?_
       rintro m90 ⟨n90, acc90⟩ I90 w90 ev90 s ⟨le90, hi90_0, hi90_1, hi90_2⟩
       try dsimp only at s hi90_0 hi90_1 hi90_2 ⊢
       replace hl := BSl.mono le90 hl
       replace hle89 := leMono le90 hle89
       refine wp_seq ?_
       refine seqR ?_
       refine oKD [] [] 3 [] 0 (fun φ91 => [(61, .bool (decide ((decI n90) ≥ ((at0 : Nat) : Int)))), (60, .int .i64 at0), (59, .int .i64 (decI n90))]) (fun φ91 => []) s (fun φ91 => by kernel_rfl) (by kernel_rfl) ?_
       intro φ91 w91 s
       rcases Bool.eq_false_or_eq_true (decide ((decI n90) ≥ ((at0 : Nat) : Int))) with hc92 | hc92
       ·
        rw [hc92]
        refine cond_true_rule (b := true) (by kernel_rfl) rfl ?_
        refine wp_skip ?_
        refine wp_seq ?_
        refine wp_block ?_
        refine region_rule ?_
        refine oK [] [] 4 [] 0 (fun φ93 => [(67, .int .i64 (decI n90)), (66, .slice a P.length c), (65, .int .u64 (IntKind.wrap .u64 (((128 : Nat) : Int) * ((acc90 : Nat) : Int)))), (64, .int .u64 acc90)]) (fun φ93 => []) s (fun φ93 => by kernel_rfl) ?_
        intro φ93 w93 s
        rw [nat_mulU (a := 128) (b := acc90) (by have hr1 := hi4_1.lo; have hr2 := hi4_1.hi; have hr3 := hi4_1.le; have hd9 := decI_eq n90; have hz1 := hi90_0; have hz2 := hi90_1; have hp9 := dT9 hc92; have ht9 : tail7 P at0 k4 (n90 - 1) = 128 * acc90 + (P.getD (n90 - 1) 0).toNat % 128 := (by rw [tail7_step (by omega) (by omega) hg9.hi, show n90 - 1 + 1 = n90 by omega, ← hi90_2]); have ht8 := @tail7_le P at0 k4 (n90 - 1);  have hq0 := dT9 hc6; have hq1 := dF9 hc8; have hq2 := dF9 hc46; have hq3 := dF9 hc48; have hq4 := dT9 hc82; have hq5 := dF9 hc85; have hq6 := dT9 hc92; omega)]
        refine sem_rule (Instr.indexAt 61 (.slice a P.length c) (.int .i64 (decI n90))) (some 68) (.pointer (pAt a (n90 - 1))) (by kernel_rfl) (idx_dec hl (by have := decI_eq n90; have := dT9 hc92; have := hi90_1; have := hhi9; omega) (by have := decI_eq n90; have := dT9 hc92; have := hi90_1; have := hhi9; omega)) ?_
        refine sem_rule (Instr.loadAt 5 (.pointer (pAt a (n90 - 1)))) (some 69) (.int .u8 (((P.getD (n90 - 1) 0).toNat : Nat) : Int)) (by kernel_rfl) (bsl_ld s.sub hl (by have hr1 := hi4_1.lo; have hr2 := hi4_1.hi; have hr3 := hi4_1.le; have hd9 := decI_eq n90; have hz1 := hi90_0; have hz2 := hi90_1; have hp9 := dT9 hc92; have ht9 : tail7 P at0 k4 (n90 - 1) = 128 * acc90 + (P.getD (n90 - 1) 0).toNat % 128 := (by rw [tail7_step (by omega) (by omega) hg9.hi, show n90 - 1 + 1 = n90 by omega, ← hi90_2]); have ht8 := @tail7_le P at0 k4 (n90 - 1);  have hq0 := dT9 hc6; have hq1 := dF9 hc8; have hq2 := dF9 hc46; have hq3 := dF9 hc48; have hq4 := dT9 hc82; have hq5 := dF9 hc85; have hq6 := dT9 hc92; omega)) ?_
        refine oK [] [] 4 [] 0 (fun φ94 => [(7, .int .u64 (IntKind.wrap .u64 (((128 * acc90 : Nat) : Int) + (IntKind.wrap .u64 (Int.tmod (((P.getD (n90 - 1) 0).toNat : Nat) : Int) ((128 : Nat) : Int)))))), (72, .int .u64 (IntKind.wrap .u64 (((128 * acc90 : Nat) : Int) + (IntKind.wrap .u64 (Int.tmod (((P.getD (n90 - 1) 0).toNat : Nat) : Int) ((128 : Nat) : Int)))))), (71, .int .u64 (IntKind.wrap .u64 (Int.tmod (((P.getD (n90 - 1) 0).toNat : Nat) : Int) ((128 : Nat) : Int)))), (70, .int .u8 (Int.tmod (((P.getD (n90 - 1) 0).toNat : Nat) : Int) ((128 : Nat) : Int)))]) (fun φ94 => []) s (fun φ94 => by kernel_rfl) ?_
        intro φ94 w94 s
        rw [nat_rem (a := ((P.getD (n90 - 1) 0).toNat)) (b := 128)]
        rw [nat_wrapU (a := (((P.getD (n90 - 1) 0).toNat) % 128)) (by have hr1 := hi4_1.lo; have hr2 := hi4_1.hi; have hr3 := hi4_1.le; have hd9 := decI_eq n90; have hz1 := hi90_0; have hz2 := hi90_1; have hp9 := dT9 hc92; have ht9 : tail7 P at0 k4 (n90 - 1) = 128 * acc90 + (P.getD (n90 - 1) 0).toNat % 128 := (by rw [tail7_step (by omega) (by omega) hg9.hi, show n90 - 1 + 1 = n90 by omega, ← hi90_2]); have ht8 := @tail7_le P at0 k4 (n90 - 1);  have := byte_lt (P.getD (n90 - 1) 0); have hq0 := dT9 hc6; have hq1 := dF9 hc8; have hq2 := dF9 hc46; have hq3 := dF9 hc48; have hq4 := dT9 hc82; have hq5 := dF9 hc85; have hq6 := dT9 hc92; omega)]
        rw [nat_addU (a := (128 * acc90)) (b := (((P.getD (n90 - 1) 0).toNat) % 128)) (by have hr1 := hi4_1.lo; have hr2 := hi4_1.hi; have hr3 := hi4_1.le; have hd9 := decI_eq n90; have hz1 := hi90_0; have hz2 := hi90_1; have hp9 := dT9 hc92; have ht9 : tail7 P at0 k4 (n90 - 1) = 128 * acc90 + (P.getD (n90 - 1) 0).toNat % 128 := (by rw [tail7_step (by omega) (by omega) hg9.hi, show n90 - 1 + 1 = n90 by omega, ← hi90_2]); have ht8 := @tail7_le P at0 k4 (n90 - 1);  have := byte_lt (P.getD (n90 - 1) 0); have hq0 := dT9 hc6; have hq1 := dF9 hc8; have hq2 := dF9 hc46; have hq3 := dF9 hc48; have hq4 := dT9 hc82; have hq5 := dF9 hc85; have hq6 := dT9 hc92; omega)]
        refine ops_done (by kernel_rfl) ?_
        refine region_rule ?_
        refine oKD [] [] 3 [] 0 (fun φ95 => [(8, .int .i64 (IntKind.wrap .i64 ((decI n90) - ((1 : Nat) : Int)))), (63, .int .i64 (IntKind.wrap .i64 ((decI n90) - ((1 : Nat) : Int)))), (62, .int .i64 (decI n90))]) (fun φ95 => []) s (fun φ95 => by kernel_rfl) (by kernel_rfl) ?_
        intro φ95 w95 s
        have hd9 := decI_eq n90
        have hp9 := dT9 hc92
        rw [decI_step (n := n90) (by omega) (by have := hg9.le; have := hi90_1; omega)]
        have ht9 : tail7 P at0 k4 (n90 - 1) = 128 * acc90 + (P.getD (n90 - 1) 0).toNat % 128 := by rw [tail7_step (by omega) (by omega) hg9.hi, show n90 - 1 + 1 = n90 by omega, ← hi90_2]
        exact ⟨⟨m90 - 1, (n90 - 1, (128 * acc90) + (((P.getD (n90 - 1) 0).toNat) % 128)), _, _, _, by omega, rfl, s, List.Sublist.slnil, by kernel_rfl, hle89, by show n90 - 1 = at0 + (m90 - 1); omega, by show _ ≤ _; omega, ht9.symm⟩⟩
       ·
        rw [hc92]
        refine cond_false_rule (b := false) (by kernel_rfl) rfl ?_
        refine wp_exit ?_
        refine seqR ?_
        refine oK [] [] 7 [] 0 (fun φ96 => [(5, .int .i64 (IntKind.wrap .i64 ((IntKind.wrap .i64 (((k4 : Nat) : Int) - ((at0 : Nat) : Int))) + ((1 : Nat) : Int)))), (4, .int .u64 acc90), (77, .int .i64 (IntKind.wrap .i64 ((IntKind.wrap .i64 (((k4 : Nat) : Int) - ((at0 : Nat) : Int))) + ((1 : Nat) : Int)))), (76, .int .i64 (IntKind.wrap .i64 (((k4 : Nat) : Int) - ((at0 : Nat) : Int)))), (75, .int .i64 at0), (74, .int .i64 k4), (73, .int .u64 acc90)]) (fun φ96 => []) s (fun φ96 => by kernel_rfl) ?_
        intro φ96 w96 s
        rw [nat_subI (a := k4) (b := at0) (by have hr1 := hi4_1.lo; have hr2 := hi4_1.hi; have hr3 := hi4_1.le; have hd9 := decI_eq n90; have hz1 := hi90_0; have hz2 := hi90_1;  have hq0 := dT9 hc6; have hq1 := dF9 hc8; have hq2 := dF9 hc46; have hq3 := dF9 hc48; have hq4 := dT9 hc82; have hq5 := dF9 hc85; have hq6 := dF9 hc92; omega) (by have hr1 := hi4_1.lo; have hr2 := hi4_1.hi; have hr3 := hi4_1.le; have hd9 := decI_eq n90; have hz1 := hi90_0; have hz2 := hi90_1;  have hq0 := dT9 hc6; have hq1 := dF9 hc8; have hq2 := dF9 hc46; have hq3 := dF9 hc48; have hq4 := dT9 hc82; have hq5 := dF9 hc85; have hq6 := dF9 hc92; omega)]
        rw [nat_addI (a := (k4 - at0)) (b := 1) (by have hr1 := hi4_1.lo; have hr2 := hi4_1.hi; have hr3 := hi4_1.le; have hd9 := decI_eq n90; have hz1 := hi90_0; have hz2 := hi90_1;  have hq0 := dT9 hc6; have hq1 := dF9 hc8; have hq2 := dF9 hc46; have hq3 := dF9 hc48; have hq4 := dT9 hc82; have hq5 := dF9 hc85; have hq6 := dF9 hc92; omega)]
        refine ops_done (by kernel_rfl) ?_
        refine wp_ret ?_
        refine ret_rule (C := []) [] [] (.tuple #[.int .u64 acc90, .int .i64 (((k4 - at0) + 1 : Nat) : Int)]) [] [] s trivial (by kernel_rfl) ?_
        exact ⟨_, _, _, rfl, s, (by have hd9 := decI_eq n90; have hp9 := dF9 hc92; have hz1 := hi90_0; have e9 := hi90_2; rw [show n90 = at0 by omega] at e9; rw [hg9.num, hg9.siz, ← e9])⟩
     ·
      rw [hc82]
      refine oKD [] [] 7 [] 0 (fun φ97 => [(57, .bool false), (56, .bool false), (55, undef), (54, undef), (53, undef), (52, undef), (51, undef)]) (fun φ97 => []) s (fun φ97 => by kernel_rfl) (by kernel_rfl) ?_
      intro φ97 w97 s
      refine cond_false_rule (b := false) (by kernel_rfl) rfl ?_
      refine wp_skip ?_
      refine seqR ?_
      refine oKD [] [] 1 [] 0 (fun φ98 => [(7, .int .u64 0)]) (fun φ98 => []) s (fun φ98 => by kernel_rfl) (by kernel_rfl) ?_
      intro φ98 w98 s
      refine wp_seq ?_
      refine seqR ?_
      refine oKD [] [] 2 [] 0 (fun φ99 => [(8, .int .i64 k4), (58, .int .i64 k4)]) (fun φ99 => []) s (fun φ99 => by kernel_rfl) (by kernel_rfl) ?_
      intro φ99 w99 s
      refine wp_block ?_
      have hg9 := RefD.good hi4_1 (by have hq0 := dT9 hc6; have hq1 := dF9 hc8; have hq2 := dF9 hc46; have hq3 := dF9 hc48; have hq4 := dF9 hc82; omega) (by have hq0 := dT9 hc6; have hq1 := dF9 hc8; have hq2 := dF9 hc46; have hq3 := dF9 hc48; have hq4 := dF9 hc82; omega)
      have hlo9 := hg9.lo
      have hhi9 := hg9.hi
      have hle9 := hg9.le
      have hlt9 := hg9.lt
      have hle100 := IM.Le.refl I4
      refine loop_rule (fun (x : Nat × Nat) => [(0, .slice a P.length c), (1, .int .i64 at0), (6, .int .i64 k4), (8, .int .i64 (decI x.1)), (7, .int .u64 x.2)]) (fun (x : Nat × Nat) => []) (fun m (x : Nat × Nat) J => IM.Le I4 J ∧ x.1 = at0 + m ∧ x.1 ≤ k4 + 1 ∧ x.2 = tail7 P at0 k4 x.1) (k4 + 1 - at0) (k4 + 1, 0) s (by kernel_rfl) List.Sublist.slnil ⟨IM.Le.refl _, (by show k4 + 1 = at0 + (k4 + 1 - at0); omega), (Nat.le_refl _), (tail7_end hlo9).symm⟩ ?_
      rintro m101 ⟨n101, acc101⟩ I101 w101 ev101 s ⟨le101, hi101_0, hi101_1, hi101_2⟩
      try dsimp only at s hi101_0 hi101_1 hi101_2 ⊢
      replace hl := BSl.mono le101 hl
      replace hle100 := leMono le101 hle100
      refine wp_seq ?_
      refine seqR ?_
      refine oKD [] [] 3 [] 0 (fun φ102 => [(61, .bool (decide ((decI n101) ≥ ((at0 : Nat) : Int)))), (60, .int .i64 at0), (59, .int .i64 (decI n101))]) (fun φ102 => []) s (fun φ102 => by kernel_rfl) (by kernel_rfl) ?_
      intro φ102 w102 s
      rcases Bool.eq_false_or_eq_true (decide ((decI n101) ≥ ((at0 : Nat) : Int))) with hc103 | hc103
      ·
       rw [hc103]
       refine cond_true_rule (b := true) (by kernel_rfl) rfl ?_
       refine wp_skip ?_
       refine wp_seq ?_
       refine wp_block ?_
       refine region_rule ?_
       refine oK [] [] 4 [] 0 (fun φ104 => [(67, .int .i64 (decI n101)), (66, .slice a P.length c), (65, .int .u64 (IntKind.wrap .u64 (((128 : Nat) : Int) * ((acc101 : Nat) : Int)))), (64, .int .u64 acc101)]) (fun φ104 => []) s (fun φ104 => by kernel_rfl) ?_
       intro φ104 w104 s
       rw [nat_mulU (a := 128) (b := acc101) (by have hr1 := hi4_1.lo; have hr2 := hi4_1.hi; have hr3 := hi4_1.le; have hd9 := decI_eq n101; have hz1 := hi101_0; have hz2 := hi101_1; have hp9 := dT9 hc103; have ht9 : tail7 P at0 k4 (n101 - 1) = 128 * acc101 + (P.getD (n101 - 1) 0).toNat % 128 := (by rw [tail7_step (by omega) (by omega) hg9.hi, show n101 - 1 + 1 = n101 by omega, ← hi101_2]); have ht8 := @tail7_le P at0 k4 (n101 - 1);  have hq0 := dT9 hc6; have hq1 := dF9 hc8; have hq2 := dF9 hc46; have hq3 := dF9 hc48; have hq4 := dF9 hc82; have hq5 := dT9 hc103; omega)]
       refine sem_rule (Instr.indexAt 61 (.slice a P.length c) (.int .i64 (decI n101))) (some 68) (.pointer (pAt a (n101 - 1))) (by kernel_rfl) (idx_dec hl (by have := decI_eq n101; have := dT9 hc103; have := hi101_1; have := hhi9; omega) (by have := decI_eq n101; have := dT9 hc103; have := hi101_1; have := hhi9; omega)) ?_
       refine sem_rule (Instr.loadAt 5 (.pointer (pAt a (n101 - 1)))) (some 69) (.int .u8 (((P.getD (n101 - 1) 0).toNat : Nat) : Int)) (by kernel_rfl) (bsl_ld s.sub hl (by have hr1 := hi4_1.lo; have hr2 := hi4_1.hi; have hr3 := hi4_1.le; have hd9 := decI_eq n101; have hz1 := hi101_0; have hz2 := hi101_1; have hp9 := dT9 hc103; have ht9 : tail7 P at0 k4 (n101 - 1) = 128 * acc101 + (P.getD (n101 - 1) 0).toNat % 128 := (by rw [tail7_step (by omega) (by omega) hg9.hi, show n101 - 1 + 1 = n101 by omega, ← hi101_2]); have ht8 := @tail7_le P at0 k4 (n101 - 1);  have hq0 := dT9 hc6; have hq1 := dF9 hc8; have hq2 := dF9 hc46; have hq3 := dF9 hc48; have hq4 := dF9 hc82; have hq5 := dT9 hc103; omega)) ?_
       refine oK [] [] 4 [] 0 (fun φ105 => [(7, .int .u64 (IntKind.wrap .u64 (((128 * acc101 : Nat) : Int) + (IntKind.wrap .u64 (Int.tmod (((P.getD (n101 - 1) 0).toNat : Nat) : Int) ((128 : Nat) : Int)))))), (72, .int .u64 (IntKind.wrap .u64 (((128 * acc101 : Nat) : Int) + (IntKind.wrap .u64 (Int.tmod (((P.getD (n101 - 1) 0).toNat : Nat) : Int) ((128 : Nat) : Int)))))), (71, .int .u64 (IntKind.wrap .u64 (Int.tmod (((P.getD (n101 - 1) 0).toNat : Nat) : Int) ((128 : Nat) : Int)))), (70, .int .u8 (Int.tmod (((P.getD (n101 - 1) 0).toNat : Nat) : Int) ((128 : Nat) : Int)))]) (fun φ105 => []) s (fun φ105 => by kernel_rfl) ?_
       intro φ105 w105 s
       rw [nat_rem (a := ((P.getD (n101 - 1) 0).toNat)) (b := 128)]
       rw [nat_wrapU (a := (((P.getD (n101 - 1) 0).toNat) % 128)) (by have hr1 := hi4_1.lo; have hr2 := hi4_1.hi; have hr3 := hi4_1.le; have hd9 := decI_eq n101; have hz1 := hi101_0; have hz2 := hi101_1; have hp9 := dT9 hc103; have ht9 : tail7 P at0 k4 (n101 - 1) = 128 * acc101 + (P.getD (n101 - 1) 0).toNat % 128 := (by rw [tail7_step (by omega) (by omega) hg9.hi, show n101 - 1 + 1 = n101 by omega, ← hi101_2]); have ht8 := @tail7_le P at0 k4 (n101 - 1);  have := byte_lt (P.getD (n101 - 1) 0); have hq0 := dT9 hc6; have hq1 := dF9 hc8; have hq2 := dF9 hc46; have hq3 := dF9 hc48; have hq4 := dF9 hc82; have hq5 := dT9 hc103; omega)]
       rw [nat_addU (a := (128 * acc101)) (b := (((P.getD (n101 - 1) 0).toNat) % 128)) (by have hr1 := hi4_1.lo; have hr2 := hi4_1.hi; have hr3 := hi4_1.le; have hd9 := decI_eq n101; have hz1 := hi101_0; have hz2 := hi101_1; have hp9 := dT9 hc103; have ht9 : tail7 P at0 k4 (n101 - 1) = 128 * acc101 + (P.getD (n101 - 1) 0).toNat % 128 := (by rw [tail7_step (by omega) (by omega) hg9.hi, show n101 - 1 + 1 = n101 by omega, ← hi101_2]); have ht8 := @tail7_le P at0 k4 (n101 - 1);  have := byte_lt (P.getD (n101 - 1) 0); have hq0 := dT9 hc6; have hq1 := dF9 hc8; have hq2 := dF9 hc46; have hq3 := dF9 hc48; have hq4 := dF9 hc82; have hq5 := dT9 hc103; omega)]
       refine ops_done (by kernel_rfl) ?_
       refine region_rule ?_
       refine oKD [] [] 3 [] 0 (fun φ106 => [(8, .int .i64 (IntKind.wrap .i64 ((decI n101) - ((1 : Nat) : Int)))), (63, .int .i64 (IntKind.wrap .i64 ((decI n101) - ((1 : Nat) : Int)))), (62, .int .i64 (decI n101))]) (fun φ106 => []) s (fun φ106 => by kernel_rfl) (by kernel_rfl) ?_
       intro φ106 w106 s
       have hd9 := decI_eq n101
       have hp9 := dT9 hc103
       rw [decI_step (n := n101) (by omega) (by have := hg9.le; have := hi101_1; omega)]
       have ht9 : tail7 P at0 k4 (n101 - 1) = 128 * acc101 + (P.getD (n101 - 1) 0).toNat % 128 := by rw [tail7_step (by omega) (by omega) hg9.hi, show n101 - 1 + 1 = n101 by omega, ← hi101_2]
       exact ⟨⟨m101 - 1, (n101 - 1, (128 * acc101) + (((P.getD (n101 - 1) 0).toNat) % 128)), _, _, _, by omega, rfl, s, List.Sublist.slnil, by kernel_rfl, hle100, by show n101 - 1 = at0 + (m101 - 1); omega, by show _ ≤ _; omega, ht9.symm⟩⟩
      ·
       rw [hc103]
       refine cond_false_rule (b := false) (by kernel_rfl) rfl ?_
       refine wp_exit ?_
       refine seqR ?_
       refine oK [] [] 7 [] 0 (fun φ107 => [(5, .int .i64 (IntKind.wrap .i64 ((IntKind.wrap .i64 (((k4 : Nat) : Int) - ((at0 : Nat) : Int))) + ((1 : Nat) : Int)))), (4, .int .u64 acc101), (77, .int .i64 (IntKind.wrap .i64 ((IntKind.wrap .i64 (((k4 : Nat) : Int) - ((at0 : Nat) : Int))) + ((1 : Nat) : Int)))), (76, .int .i64 (IntKind.wrap .i64 (((k4 : Nat) : Int) - ((at0 : Nat) : Int)))), (75, .int .i64 at0), (74, .int .i64 k4), (73, .int .u64 acc101)]) (fun φ107 => []) s (fun φ107 => by kernel_rfl) ?_
       intro φ107 w107 s
       rw [nat_subI (a := k4) (b := at0) (by have hr1 := hi4_1.lo; have hr2 := hi4_1.hi; have hr3 := hi4_1.le; have hd9 := decI_eq n101; have hz1 := hi101_0; have hz2 := hi101_1;  have hq0 := dT9 hc6; have hq1 := dF9 hc8; have hq2 := dF9 hc46; have hq3 := dF9 hc48; have hq4 := dF9 hc82; have hq5 := dF9 hc103; omega) (by have hr1 := hi4_1.lo; have hr2 := hi4_1.hi; have hr3 := hi4_1.le; have hd9 := decI_eq n101; have hz1 := hi101_0; have hz2 := hi101_1;  have hq0 := dT9 hc6; have hq1 := dF9 hc8; have hq2 := dF9 hc46; have hq3 := dF9 hc48; have hq4 := dF9 hc82; have hq5 := dF9 hc103; omega)]
       rw [nat_addI (a := (k4 - at0)) (b := 1) (by have hr1 := hi4_1.lo; have hr2 := hi4_1.hi; have hr3 := hi4_1.le; have hd9 := decI_eq n101; have hz1 := hi101_0; have hz2 := hi101_1;  have hq0 := dT9 hc6; have hq1 := dF9 hc8; have hq2 := dF9 hc46; have hq3 := dF9 hc48; have hq4 := dF9 hc82; have hq5 := dF9 hc103; omega)]
       refine ops_done (by kernel_rfl) ?_
       refine wp_ret ?_
       refine ret_rule (C := []) [] [] (.tuple #[.int .u64 acc101, .int .i64 (((k4 - at0) + 1 : Nat) : Int)]) [] [] s trivial (by kernel_rfl) ?_
       exact ⟨_, _, _, rfl, s, (by have hd9 := decI_eq n101; have hp9 := dF9 hc103; have hz1 := hi101_0; have e9 := hi101_2; rw [show n101 = at0 by omega] at e9; rw [hg9.num, hg9.siz, ← e9])⟩
 ·
  rw [hc6]
  refine oKD [] [] 12 [] 0 (fun φ108 => [(26, .bool false), (25, undef), (24, undef), (23, undef), (22, undef), (21, undef), (20, .bool false), (19, .bool false), (18, undef), (17, undef), (16, undef), (15, undef)]) (fun φ108 => []) s (fun φ108 => by kernel_rfl) (by kernel_rfl) ?_
  intro φ108 w108 s
  refine cond_false_rule (b := false) (by kernel_rfl) rfl ?_
  refine wp_exit ?_
  refine wp_seq ?_
  refine seqR ?_
  refine oK [] [] 5 [] 0 (fun φ109 => [(33, .bool (decide (((k4 : Nat) : Int) ≥ ((P.length : Nat) : Int)))), (32, .bool (decide (((k4 : Nat) : Int) ≥ ((P.length : Nat) : Int)))), (31, .int .i64 P.length), (30, .slice a P.length c), (29, .int .i64 k4)]) (fun φ109 => []) s (fun φ109 => by kernel_rfl) ?_
  intro φ109 w109 s
  rw [nat_geq (a := k4) (b := P.length)]
  rcases Bool.eq_false_or_eq_true (decide (P.length ≤ k4)) with hc110 | hc110
  ·
   rw [hc110]
   refine oKD [] [] 24 [] 0 (fun φ111 => [(57, .bool true), (56, undef), (55, undef), (54, undef), (53, undef), (52, undef), (51, undef), (50, undef), (49, undef), (48, undef), (47, undef), (46, .bool true), (45, .bool true), (44, undef), (43, undef), (42, undef), (41, undef), (40, undef), (39, undef), (38, undef), (37, undef), (36, undef), (35, undef), (34, undef)]) (fun φ111 => []) s (fun φ111 => by kernel_rfl) (by kernel_rfl) ?_
   intro φ111 w111 s
   refine cond_true_rule (b := true) (by kernel_rfl) rfl ?_
   refine seqR ?_
   refine oKD [] [] 2 [] 0 (fun φ112 => [(5, .int .i64 0), (4, .int .u64 0)]) (fun φ112 => []) s (fun φ112 => by kernel_rfl) (by kernel_rfl) ?_
   intro φ112 w112 s
   refine wp_ret ?_
   refine ret_rule (C := []) [] [] (.tuple #[.int .u64 0, .int .i64 0]) [] [] s trivial (by kernel_rfl) ?_
   exact ⟨_, _, _, rfl, s, (by have h9 := RefD.bad hi4_1 (by have hq0 := dF9 hc6; have hq1 := dT9 hc110; omega) (by have hq0 := dF9 hc6; have hq1 := dT9 hc110; omega); rw [h9.1, h9.2]; rfl)⟩
  ·
   exact absurd (dF9 hc110) (by have q9 := dF9 hc6; omega)

end Go.Proofs.YtcpmjogeafhpnaaDoor

