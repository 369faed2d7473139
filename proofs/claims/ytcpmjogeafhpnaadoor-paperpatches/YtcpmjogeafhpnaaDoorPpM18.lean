/- The program reads. -/
import Derived.Test.YtcpmjogeafhpnaaDoorPpM17
import Derived.Test.YtcpmjogeafhpnaaDoorProg
import Derived.Test.YtcpmjogeafhpnaaDoorPpS10
import Derived.LoopN
import Derived.Test.YtcpmjogeafhpnaaDoorPpS11
import Derived.Laws.MakeOwn
import Derived.Lib.TrimUEq
import Derived.Laws.IdiomStrings
import Derived.Lib.MapLaws
import Derived.Lib.ValidU
import Derived.Shelf.Unicode.ValidAny
import Derived.Lib.FieldsP
import Derived.Lib.Join
import Derived.Shelf.Strings.OnBuilder
import Derived.Shelf.Strings.FieldsFuncAny
import Derived.Shelf.Strings.Builder1
import Derived.WalkKit
import Derived.Lib.Bytealg
set_option linter.all false
set_option maxRecDepth 100000
namespace Go.Proofs.YtcpmjogeafhpnaaDoor
open Go.RowKit Go.Sep
attribute [local irreducible] Go.wpList Go.Code.wp

set_option maxHeartbeats 2000000 in
theorem byteG_c {I : IM} {l : List UInt8} {a : Option Addr} {k c r e : Nat} (hl : BSl I l (.slice a k c)) (hn9 : l.length ≤ 1000000) : FunM Tryd.prog 55 #[.pointer (some ⟨r, 0, none⟩)] I [(r, .cells #[.slice a k c, .int .i64 ((e : Nat) : Int)] 126)] (fun v J H' => ∃ b' : OB, H' = [b'] ∧ b'.1 = r ∧ ∃ (a' : Option Addr) (k' c' : Nat), v = .int .u8 ((byV l e : Nat) : Int) ∧ b' = (r, .cells #[.slice a' k' c', .int .i64 ((byE l e : Nat) : Int)] 126) ∧ BSl J (l.drop (byD l e)) (.slice a' k' c')) := by
  obtain ⟨rfl, -⟩ := hl.cap
  refine enterM_rule 31 [(0, .pointer (some ⟨r, 0, none⟩))] Tryd.func55 rfl (by kernel_rfl) ?_
  intro w s
  refine wp_seq ?_
  refine region_rule ?_
  refine ops_rule (C := []) [(r, .cells #[.slice a l.length c, .int .i64 ((e : Nat) : Int)] 126)] [] 1 [] 0 (fun φ1 => [(2, .int .u8 0)]) (fun φ1 => [(r, .cells #[.slice a l.length c, .int .i64 ((e : Nat) : Int)] 126)]) (fun φ1 => []) s trivial (fun φ1 => by kernel_rfl) ?_
  intro φ1 w1 s
  refine ops_done (by kernel_rfl) ?_
  refine wp_seq ?_
  refine wp_seq ?_
  refine region_rule ?_
  refine ops_rule (C := []) [(r, .cells #[.slice a l.length c, .int .i64 ((e : Nat) : Int)] 126)] [] 1 [] 0 (fun φ2 => [(4, .pointer (some ⟨r, 0, none⟩))]) (fun φ2 => [(r, .cells #[.slice a l.length c, .int .i64 ((e : Nat) : Int)] 126)]) (fun φ2 => []) s trivial (fun φ2 => by kernel_rfl) ?_
  intro φ2 w2 s
  refine callB_rule (b := (r, .cells #[.slice a l.length c, .int .i64 ((e : Nat) : Int)] 126)) (H := [(r, .cells #[.slice a l.length c, .int .i64 ((e : Nat) : Int)] 126)]) (F := []) (Hr := []) (some 5) 0 s (by kernel_rfl) (by kernel_rfl) (errI_c (r := r) (v0 := .slice a l.length c) (e := e)) (by kernel_rfl) ?_
  rintro v3 I3 w3 b3 le3 - h3 s
  replace hl := BSl.mono le3 hl
  obtain ⟨rfl, rfl⟩ := h3
  refine ops_rule (C := []) [(r, .cells #[.slice a l.length c, .int .i64 ((e : Nat) : Int)] 126)] [] 1 [] 0 (fun φ4 => [(6, .bool (((e : Nat) : Int) != ((0 : Nat) : Int)))]) (fun φ4 => [(r, .cells #[.slice a l.length c, .int .i64 ((e : Nat) : Int)] 126)]) (fun φ4 => []) s trivial (fun φ4 => by kernel_rfl) ?_
  intro φ4 w4 s
  rw [nat_neq (a := e) (b := 0)]
  refine ops_done (by kernel_rfl) ?_
  rcases Bool.eq_false_or_eq_true (decide (e ≠ 0)) with hc5 | hc5
  ·
    rw [hc5]
    refine cond_true_rule (b := true) (by kernel_rfl) rfl ?_
    refine wp_seq ?_
    refine region_rule ?_
    refine ops_rule (C := []) [(r, .cells #[.slice a l.length c, .int .i64 ((e : Nat) : Int)] 126)] [] 1 [] 0 (fun φ6 => [(2, .int .u8 0)]) (fun φ6 => [(r, .cells #[.slice a l.length c, .int .i64 ((e : Nat) : Int)] 126)]) (fun φ6 => []) s trivial (fun φ6 => by kernel_rfl) ?_
    intro φ6 w6 s
    refine ops_done (by kernel_rfl) ?_
    refine wp_ret ?_
    refine ret_rule (C := []) [(r, .cells #[.slice a l.length c, .int .i64 ((e : Nat) : Int)] 126)] [] (.int .u8 0) [] [] s trivial (by kernel_rfl) ?_
    exact ⟨_, _, _, rfl, s, (by have hq0 := of_decide_eq_true hc5;  exact ⟨_, rfl, rfl, _, _, _, (by unfold byV; first | (rw [if_pos (by omega)]; try rfl) | (rw [if_neg (by omega)]; try rfl)), (by unfold byE; first | (rw [if_pos (by omega)]; try rfl) | (rw [if_neg (by omega)]; try rfl)), bsl_eq hl (by unfold byD; first | (rw [if_pos (by omega)]; done) | (rw [if_neg (by omega)]; done) | (rw [if_pos (by omega)]; rfl) | (rw [if_neg (by omega)]; rfl))⟩)⟩
  ·
    rw [hc5]
    refine cond_false_rule (b := false) (by kernel_rfl) rfl ?_
    refine wp_skip ?_
    refine wp_seq ?_
    refine wp_seq ?_
    refine region_rule ?_
    refine ops_rule (C := []) [(r, .cells #[.slice a l.length c, .int .i64 ((e : Nat) : Int)] 126)] [] 6 [.o 0] 0 (fun φ7 => [(12, .bool (((l.length : Nat) : Int) == ((0 : Nat) : Int))), (11, .int .i64 ((l.length : Nat) : Int)), (10, .slice a l.length c), (9, .pointer (some ⟨r, 0, none⟩)), (8, .pointer (some ⟨r, 0, none⟩)), (7, .pointer (some ⟨r, 0, none⟩))]) (fun φ7 => [(r, .cells #[.slice a l.length c, .int .i64 ((e : Nat) : Int)] 126)]) (fun φ7 => [r]) s trivial (fun φ7 => by kernel_rfl) ?_
    intro φ7 w7 s
    rw [nat_eql (a := l.length) (b := 0)]
    refine ops_done (by kernel_rfl) ?_
    rcases Bool.eq_false_or_eq_true (decide (l.length = 0)) with hc8 | hc8
    ·
      rw [hc8]
      refine cond_true_rule (b := true) (by kernel_rfl) rfl ?_
      refine wp_seq ?_
      refine region_rule ?_
      refine ops_rule (C := []) [(r, .cells #[.slice a l.length c, .int .i64 ((e : Nat) : Int)] 126)] [] 4 [.o 0] 0 (fun φ9 => [(15, .pointer (some ⟨r, 1, none⟩)), (14, .pointer (some ⟨r, 0, none⟩)), (13, .pointer (some ⟨r, 0, none⟩))]) (fun φ9 => [(r, .cells #[.slice a l.length c, .int .i64 6] 126)]) (fun φ9 => [r]) s trivial (fun φ9 => by kernel_rfl) ?_
      intro φ9 w9 s
      refine ops_done (by kernel_rfl) ?_
      refine wp_seq ?_
      refine region_rule ?_
      refine ops_rule (C := []) [(r, .cells #[.slice a l.length c, .int .i64 6] 126)] [] 1 [] 0 (fun φ10 => [(2, .int .u8 0)]) (fun φ10 => [(r, .cells #[.slice a l.length c, .int .i64 6] 126)]) (fun φ10 => []) s trivial (fun φ10 => by kernel_rfl) ?_
      intro φ10 w10 s
      refine ops_done (by kernel_rfl) ?_
      refine wp_ret ?_
      refine ret_rule (C := []) [(r, .cells #[.slice a l.length c, .int .i64 6] 126)] [] (.int .u8 0) [] [] s trivial (by kernel_rfl) ?_
      exact ⟨_, _, _, rfl, s, (by have hq0 := of_decide_eq_false hc5; have hq1 := of_decide_eq_true hc8;  exact ⟨_, rfl, rfl, _, _, _, (by unfold byV; first | (rw [if_pos (by omega)]; try rfl) | (rw [if_neg (by omega)]; try rfl)), (by unfold byE; first | (rw [if_pos (by omega)]; try rfl) | (rw [if_neg (by omega)]; try rfl)), bsl_eq hl (by unfold byD; first | (rw [if_pos (by omega)]; done) | (rw [if_neg (by omega)]; done) | (rw [if_pos (by omega)]; rfl) | (rw [if_neg (by omega)]; rfl))⟩)⟩
    ·
      rw [hc8]
      refine cond_false_rule (b := false) (by kernel_rfl) rfl ?_
      refine wp_skip ?_
      refine wp_seq ?_
      refine region_rule ?_
      refine ops_rule (C := []) [(r, .cells #[.slice a l.length c, .int .i64 ((e : Nat) : Int)] 126)] [] 4 [.o 0] 0 (fun φ11 => [(19, .slice a l.length c), (18, .pointer (some ⟨r, 0, none⟩)), (17, .pointer (some ⟨r, 0, none⟩)), (16, .pointer (some ⟨r, 0, none⟩))]) (fun φ11 => [(r, .cells #[.slice a l.length c, .int .i64 ((e : Nat) : Int)] 126)]) (fun φ11 => [r]) s trivial (fun φ11 => by kernel_rfl) ?_
      intro φ11 w11 s
      refine sem_rule (Instr.indexAt 61 (.slice a l.length c) (.int .i64 ((0 : Nat) : Int))) (some 20) (.pointer (pAt a 0)) (by kernel_rfl) (bsl_idx hl (by  have hq0 := of_decide_eq_false hc5; have hq1 := of_decide_eq_false hc8; omega)) ?_
      refine sem_rule (Instr.loadAt 5 (.pointer (pAt a 0))) (some 21) (.int .u8 (((l.getD 0 0).toNat : Nat) : Int)) (by kernel_rfl) (bsl_ld s.sub hl (by  have hq0 := of_decide_eq_false hc5; have hq1 := of_decide_eq_false hc8; omega)) ?_
      refine ops_rule (C := []) [(r, .cells #[.slice a l.length c, .int .i64 ((e : Nat) : Int)] 126)] [] 1 [] 0 (fun φ12 => [(3, .int .u8 (((l.getD 0 0).toNat : Nat) : Int))]) (fun φ12 => [(r, .cells #[.slice a l.length c, .int .i64 ((e : Nat) : Int)] 126)]) (fun φ12 => []) s trivial (fun φ12 => by kernel_rfl) ?_
      intro φ12 w12 s
      refine ops_done (by kernel_rfl) ?_
      refine wp_seq ?_
      refine region_rule ?_
      refine ops_rule (C := []) [(r, .cells #[.slice a l.length c, .int .i64 ((e : Nat) : Int)] 126)] [] 5 [.o 0] 0 (fun φ13 => [(26, .slice a l.length c), (25, .pointer (some ⟨r, 0, none⟩)), (24, .pointer (some ⟨r, 0, none⟩)), (23, .pointer (some ⟨r, 0, none⟩)), (22, .pointer (some ⟨r, 0, none⟩))]) (fun φ13 => [(r, .cells #[.slice a l.length c, .int .i64 ((e : Nat) : Int)] 126)]) (fun φ13 => [r]) s trivial (fun φ13 => by kernel_rfl) ?_
      intro φ13 w13 s
      refine sem_rule (Instr.sliceAt 61 (.slice a l.length c) (some (.int .i64 ((1 : Nat) : Int))) none none) (some 27) (.slice (subA a 1 c) (l.length - 1) (c - 1)) (by kernel_rfl) (run_from (by have hcp := (BSl.cap hl).2; (try simp only [List.length_drop, List.length_take, List.length_append, List.length_cons, List.length_nil] at hcp ⊢);  have hq0 := of_decide_eq_false hc5; have hq1 := of_decide_eq_false hc8; omega)) ?_
      refine ops_rule (C := []) [(r, .cells #[.slice a l.length c, .int .i64 ((e : Nat) : Int)] 126)] [] 3 [.o 0] 0 (fun φ14 => [(29, .pointer (some ⟨r, 0, none⟩)), (28, .pointer (some ⟨r, 0, none⟩))]) (fun φ14 => [(r, .cells #[.slice (subA a 1 c) (l.length - 1) (c - 1), .int .i64 ((e : Nat) : Int)] 126)]) (fun φ14 => [r]) s trivial (fun φ14 => by kernel_rfl) ?_
      intro φ14 w14 s
      refine ops_done (by kernel_rfl) ?_
      refine wp_seq ?_
      refine region_rule ?_
      refine ops_rule (C := []) [(r, .cells #[.slice (subA a 1 c) (l.length - 1) (c - 1), .int .i64 ((e : Nat) : Int)] 126)] [] 2 [] 0 (fun φ15 => [(2, .int .u8 (((l.getD 0 0).toNat : Nat) : Int)), (30, .int .u8 (((l.getD 0 0).toNat : Nat) : Int))]) (fun φ15 => [(r, .cells #[.slice (subA a 1 c) (l.length - 1) (c - 1), .int .i64 ((e : Nat) : Int)] 126)]) (fun φ15 => []) s trivial (fun φ15 => by kernel_rfl) ?_
      intro φ15 w15 s
      refine ops_done (by kernel_rfl) ?_
      refine wp_ret ?_
      refine ret_rule (C := []) [(r, .cells #[.slice (subA a 1 c) (l.length - 1) (c - 1), .int .i64 ((e : Nat) : Int)] 126)] [] (.int .u8 (((l.getD 0 0).toNat : Nat) : Int)) [] [] s trivial (by kernel_rfl) ?_
      exact ⟨_, _, _, rfl, s, (by have hq0 := of_decide_eq_false hc5; have hq1 := of_decide_eq_false hc8;  exact ⟨_, rfl, rfl, _, _, _, (by unfold byV; first | (rw [if_pos (by omega)]; try rfl) | (rw [if_neg (by omega)]; try rfl)), (by unfold byE; first | (rw [if_pos (by omega)]; try rfl) | (rw [if_neg (by omega)]; try rfl)), bsl_eq (bsl_from (lo := 1) hl (by have hcp := (BSl.cap hl).2; (try simp only [List.length_drop, List.length_take, List.length_append, List.length_cons, List.length_nil] at hcp ⊢);  have hq0 := of_decide_eq_false hc5; have hq1 := of_decide_eq_false hc8; omega)) (by unfold byD; first | (rw [if_pos (by omega)]; done) | (rw [if_neg (by omega)]; done) | (rw [if_pos (by omega)]; rfl) | (rw [if_neg (by omega)]; rfl))⟩)⟩

set_option maxHeartbeats 2000000 in
theorem numG_c {I : IM} {l : List UInt8} {a : Option Addr} {k c r e : Nat} (hl : BSl I l (.slice a k c)) (hn9 : l.length ≤ 1000000) : FunM Tryd.prog 114 #[.pointer (some ⟨r, 0, none⟩)] I [(r, .cells #[.slice a k c, .int .i64 ((e : Nat) : Int)] 126)] (fun v J H' => ∃ b' : OB, H' = [b'] ∧ b'.1 = r ∧ ∃ (a' : Option Addr) (k' c' : Nat), v = .int .u64 ((nuV l e : Nat) : Int) ∧ b' = (r, .cells #[.slice a' k' c', .int .i64 ((nuE l e : Nat) : Int)] 126) ∧ BSl J (l.drop (nuD l e)) (.slice a' k' c')) := by
  obtain ⟨rfl, -⟩ := hl.cap
  refine enterM_rule 31 [(0, .pointer (some ⟨r, 0, none⟩))] Tryd.func114 rfl (by kernel_rfl) ?_
  intro w s
  refine wp_seq ?_
  refine region_rule ?_
  refine ops_rule (C := []) [(r, .cells #[.slice a l.length c, .int .i64 ((e : Nat) : Int)] 126)] [] 1 [] 0 (fun φ1 => [(2, .int .u64 0)]) (fun φ1 => [(r, .cells #[.slice a l.length c, .int .i64 ((e : Nat) : Int)] 126)]) (fun φ1 => []) s trivial (fun φ1 => by kernel_rfl) ?_
  intro φ1 w1 s
  refine ops_done (by kernel_rfl) ?_
  refine wp_seq ?_
  refine wp_seq ?_
  refine region_rule ?_
  refine ops_rule (C := []) [(r, .cells #[.slice a l.length c, .int .i64 ((e : Nat) : Int)] 126)] [] 1 [] 0 (fun φ2 => [(5, .pointer (some ⟨r, 0, none⟩))]) (fun φ2 => [(r, .cells #[.slice a l.length c, .int .i64 ((e : Nat) : Int)] 126)]) (fun φ2 => []) s trivial (fun φ2 => by kernel_rfl) ?_
  intro φ2 w2 s
  refine callB_rule (b := (r, .cells #[.slice a l.length c, .int .i64 ((e : Nat) : Int)] 126)) (H := [(r, .cells #[.slice a l.length c, .int .i64 ((e : Nat) : Int)] 126)]) (F := []) (Hr := []) (some 6) 0 s (by kernel_rfl) (by kernel_rfl) (errI_c (r := r) (v0 := .slice a l.length c) (e := e)) (by kernel_rfl) ?_
  rintro v3 I3 w3 b3 le3 - h3 s
  replace hl := BSl.mono le3 hl
  obtain ⟨rfl, rfl⟩ := h3
  refine ops_rule (C := []) [(r, .cells #[.slice a l.length c, .int .i64 ((e : Nat) : Int)] 126)] [] 1 [] 0 (fun φ4 => [(7, .bool (((e : Nat) : Int) != ((0 : Nat) : Int)))]) (fun φ4 => [(r, .cells #[.slice a l.length c, .int .i64 ((e : Nat) : Int)] 126)]) (fun φ4 => []) s trivial (fun φ4 => by kernel_rfl) ?_
  intro φ4 w4 s
  rw [nat_neq (a := e) (b := 0)]
  refine ops_done (by kernel_rfl) ?_
  rcases Bool.eq_false_or_eq_true (decide (e ≠ 0)) with hc5 | hc5
  ·
    rw [hc5]
    refine cond_true_rule (b := true) (by kernel_rfl) rfl ?_
    refine wp_seq ?_
    refine region_rule ?_
    refine ops_rule (C := []) [(r, .cells #[.slice a l.length c, .int .i64 ((e : Nat) : Int)] 126)] [] 1 [] 0 (fun φ6 => [(2, .int .u64 0)]) (fun φ6 => [(r, .cells #[.slice a l.length c, .int .i64 ((e : Nat) : Int)] 126)]) (fun φ6 => []) s trivial (fun φ6 => by kernel_rfl) ?_
    intro φ6 w6 s
    refine ops_done (by kernel_rfl) ?_
    refine wp_ret ?_
    refine ret_rule (C := []) [(r, .cells #[.slice a l.length c, .int .i64 ((e : Nat) : Int)] 126)] [] (.int .u64 0) [] [] s trivial (by kernel_rfl) ?_
    exact ⟨_, _, _, rfl, s, (by have hq0 := of_decide_eq_true hc5;  exact ⟨_, rfl, rfl, _, _, _, (by have hz9 := @numK_zero l; unfold nuV; first | (rw [if_pos (by omega)]; done) | (rw [if_neg (by omega)]; rfl) | (rw [if_pos (by omega), hz9 (by omega)]; rfl)), (by unfold nuE; first | (rw [if_pos (by omega)]; try rfl) | (rw [if_neg (by omega)]; try rfl)), bsl_eq hl (by unfold nuD; first | (rw [if_pos (by omega)]; done) | (rw [if_neg (by omega)]; rfl) | (rw [if_pos (by omega), show numK l = 0 by omega]; rfl))⟩)⟩
  ·
    rw [hc5]
    refine cond_false_rule (b := false) (by kernel_rfl) rfl ?_
    refine wp_skip ?_
    refine wp_seq ?_
    refine region_rule ?_
    refine ops_rule (C := []) [(r, .cells #[.slice a l.length c, .int .i64 ((e : Nat) : Int)] 126)] [] 4 [.o 0] 0 (fun φ7 => [(12, .slice a l.length c), (11, .pointer (some ⟨r, 0, none⟩)), (10, .pointer (some ⟨r, 0, none⟩)), (9, .pointer (some ⟨r, 0, none⟩))]) (fun φ7 => [(r, .cells #[.slice a l.length c, .int .i64 ((e : Nat) : Int)] 126)]) (fun φ7 => [r]) s trivial (fun φ7 => by kernel_rfl) ?_
    intro φ7 w7 s
    refine call_rule (some 13) s (numberG_c hl (by omega)) (by kernel_rfl) ?_
    intro v8 I8 w8 le8 h8 s
    replace hl := BSl.mono le8 hl
    obtain rfl := h8
    refine ops_rule (C := []) [(r, .cells #[.slice a l.length c, .int .i64 ((e : Nat) : Int)] 126)] [] 5 [] 0 (fun φ9 => [(4, .int .i64 ((numK l : Nat) : Int)), (3, .int .u64 ((numN l : Nat) : Int)), (15, .int .i64 ((numK l : Nat) : Int)), (14, .int .u64 ((numN l : Nat) : Int)), (8, .tuple #[.int .u64 ((numN l : Nat) : Int), .int .i64 ((numK l : Nat) : Int)])]) (fun φ9 => [(r, .cells #[.slice a l.length c, .int .i64 ((e : Nat) : Int)] 126)]) (fun φ9 => []) s trivial (fun φ9 => by kernel_rfl) ?_
    intro φ9 w9 s
    refine ops_done (by kernel_rfl) ?_
    refine wp_seq ?_
    refine wp_seq ?_
    refine region_rule ?_
    refine ops_rule (C := []) [(r, .cells #[.slice a l.length c, .int .i64 ((e : Nat) : Int)] 126)] [] 2 [] 0 (fun φ10 => [(17, .bool (((numK l : Nat) : Int) == ((0 : Nat) : Int))), (16, .int .i64 ((numK l : Nat) : Int))]) (fun φ10 => [(r, .cells #[.slice a l.length c, .int .i64 ((e : Nat) : Int)] 126)]) (fun φ10 => []) s trivial (fun φ10 => by kernel_rfl) ?_
    intro φ10 w10 s
    rw [nat_eql (a := (numK l)) (b := 0)]
    refine ops_done (by kernel_rfl) ?_
    rcases Bool.eq_false_or_eq_true (decide ((numK l) = 0)) with hc11 | hc11
    ·
      rw [hc11]
      refine cond_true_rule (b := true) (by kernel_rfl) rfl ?_
      refine wp_seq ?_
      refine region_rule ?_
      refine ops_rule (C := []) [(r, .cells #[.slice a l.length c, .int .i64 ((e : Nat) : Int)] 126)] [] 4 [.o 0] 0 (fun φ12 => [(20, .pointer (some ⟨r, 1, none⟩)), (19, .pointer (some ⟨r, 0, none⟩)), (18, .pointer (some ⟨r, 0, none⟩))]) (fun φ12 => [(r, .cells #[.slice a l.length c, .int .i64 6] 126)]) (fun φ12 => [r]) s trivial (fun φ12 => by kernel_rfl) ?_
      intro φ12 w12 s
      refine ops_done (by kernel_rfl) ?_
      refine wp_seq ?_
      refine region_rule ?_
      refine ops_rule (C := []) [(r, .cells #[.slice a l.length c, .int .i64 6] 126)] [] 1 [] 0 (fun φ13 => [(2, .int .u64 0)]) (fun φ13 => [(r, .cells #[.slice a l.length c, .int .i64 6] 126)]) (fun φ13 => []) s trivial (fun φ13 => by kernel_rfl) ?_
      intro φ13 w13 s
      refine ops_done (by kernel_rfl) ?_
      refine wp_ret ?_
      refine ret_rule (C := []) [(r, .cells #[.slice a l.length c, .int .i64 6] 126)] [] (.int .u64 0) [] [] s trivial (by kernel_rfl) ?_
      exact ⟨_, _, _, rfl, s, (by have hq0 := of_decide_eq_false hc5; have hq1 := of_decide_eq_true hc11;  exact ⟨_, rfl, rfl, _, _, _, (by have hz9 := @numK_zero l; unfold nuV; first | (rw [if_pos (by omega)]; done) | (rw [if_neg (by omega)]; rfl) | (rw [if_pos (by omega), hz9 (by omega)]; rfl)), (by unfold nuE; first | (rw [if_pos (by omega)]; try rfl) | (rw [if_neg (by omega)]; try rfl)), bsl_eq hl (by unfold nuD; first | (rw [if_pos (by omega)]; done) | (rw [if_neg (by omega)]; rfl) | (rw [if_pos (by omega), show numK l = 0 by omega]; rfl))⟩)⟩
    ·
      rw [hc11]
      refine cond_false_rule (b := false) (by kernel_rfl) rfl ?_
      refine wp_skip ?_
      refine wp_seq ?_
      refine region_rule ?_
      refine ops_rule (C := []) [(r, .cells #[.slice a l.length c, .int .i64 ((e : Nat) : Int)] 126)] [] 6 [.o 0] 0 (fun φ14 => [(26, .int .i64 ((numK l : Nat) : Int)), (25, .slice a l.length c), (24, .pointer (some ⟨r, 0, none⟩)), (23, .pointer (some ⟨r, 0, none⟩)), (22, .pointer (some ⟨r, 0, none⟩)), (21, .pointer (some ⟨r, 0, none⟩))]) (fun φ14 => [(r, .cells #[.slice a l.length c, .int .i64 ((e : Nat) : Int)] 126)]) (fun φ14 => [r]) s trivial (fun φ14 => by kernel_rfl) ?_
      intro φ14 w14 s
      refine sem_rule (Instr.sliceAt 61 (.slice a l.length c) (some (.int .i64 ((numK l : Nat) : Int))) none none) (some 27) (.slice (subA a (numK l) c) (l.length - (numK l)) (c - (numK l))) (by kernel_rfl) (run_from (by have hcp := (BSl.cap hl).2; (try simp only [List.length_drop, List.length_take, List.length_append, List.length_cons, List.length_nil] at hcp ⊢); have hk9 := numK_le l; have hn8 := numN_lt l; have hq0 := of_decide_eq_false hc5; have hq1 := of_decide_eq_false hc11; omega)) ?_
      refine ops_rule (C := []) [(r, .cells #[.slice a l.length c, .int .i64 ((e : Nat) : Int)] 126)] [] 3 [.o 0] 0 (fun φ15 => [(29, .pointer (some ⟨r, 0, none⟩)), (28, .pointer (some ⟨r, 0, none⟩))]) (fun φ15 => [(r, .cells #[.slice (subA a (numK l) c) (l.length - (numK l)) (c - (numK l)), .int .i64 ((e : Nat) : Int)] 126)]) (fun φ15 => [r]) s trivial (fun φ15 => by kernel_rfl) ?_
      intro φ15 w15 s
      refine ops_done (by kernel_rfl) ?_
      refine wp_seq ?_
      refine region_rule ?_
      refine ops_rule (C := []) [(r, .cells #[.slice (subA a (numK l) c) (l.length - (numK l)) (c - (numK l)), .int .i64 ((e : Nat) : Int)] 126)] [] 2 [] 0 (fun φ16 => [(2, .int .u64 ((numN l : Nat) : Int)), (30, .int .u64 ((numN l : Nat) : Int))]) (fun φ16 => [(r, .cells #[.slice (subA a (numK l) c) (l.length - (numK l)) (c - (numK l)), .int .i64 ((e : Nat) : Int)] 126)]) (fun φ16 => []) s trivial (fun φ16 => by kernel_rfl) ?_
      intro φ16 w16 s
      refine ops_done (by kernel_rfl) ?_
      refine wp_ret ?_
      refine ret_rule (C := []) [(r, .cells #[.slice (subA a (numK l) c) (l.length - (numK l)) (c - (numK l)), .int .i64 ((e : Nat) : Int)] 126)] [] (.int .u64 ((numN l : Nat) : Int)) [] [] s trivial (by kernel_rfl) ?_
      exact ⟨_, _, _, rfl, s, (by have hq0 := of_decide_eq_false hc5; have hq1 := of_decide_eq_false hc11;  exact ⟨_, rfl, rfl, _, _, _, (by have hz9 := @numK_zero l; unfold nuV; first | (rw [if_pos (by omega)]; done) | (rw [if_neg (by omega)]; rfl) | (rw [if_pos (by omega), hz9 (by omega)]; rfl)), (by unfold nuE; first | (rw [if_pos (by omega)]; try rfl) | (rw [if_neg (by omega)]; try rfl)), bsl_eq (bsl_from (lo := numK l) hl (by have hcp := (BSl.cap hl).2; (try simp only [List.length_drop, List.length_take, List.length_append, List.length_cons, List.length_nil] at hcp ⊢); have hk9 := numK_le l; have hn8 := numN_lt l; have hq0 := of_decide_eq_false hc5; have hq1 := of_decide_eq_false hc11; omega)) (by unfold nuD; first | (rw [if_pos (by omega)]; done) | (rw [if_neg (by omega)]; rfl) | (rw [if_pos (by omega), show numK l = 0 by omega]; rfl))⟩)⟩

set_option maxHeartbeats 2000000 in
theorem failG_c {I : IM} {l : List UInt8} {a : Option Addr} {k c r e q : Nat} (hl : BSl I l (.slice a k c)) (hn9 : l.length ≤ 1000000) : FunM Tryd.prog 96 #[.pointer (some ⟨r, 0, none⟩), .int .i64 ((q : Nat) : Int)] I [(r, .cells #[.slice a k c, .int .i64 ((e : Nat) : Int)] 126)] (fun v J H' => ∃ b' : OB, H' = [b'] ∧ b'.1 = r ∧ ∃ (a' : Option Addr) (k' c' : Nat), v = .tuple #[] ∧ b' = (r, .cells #[.slice a' k' c', .int .i64 ((faE q e : Nat) : Int)] 126) ∧ BSl J (l.drop (0)) (.slice a' k' c')) := by
  obtain ⟨rfl, -⟩ := hl.cap
  refine enterM_rule 11 [(0, .pointer (some ⟨r, 0, none⟩)), (1, .int .i64 ((q : Nat) : Int))] Tryd.func96 rfl (by kernel_rfl) ?_
  intro w s
  refine wp_seq ?_
  refine region_rule ?_
  refine ops_rule (C := []) [(r, .cells #[.slice a l.length c, .int .i64 ((e : Nat) : Int)] 126)] [] 1 [] 0 (fun φ1 => [(4, .pointer (some ⟨r, 0, none⟩))]) (fun φ1 => [(r, .cells #[.slice a l.length c, .int .i64 ((e : Nat) : Int)] 126)]) (fun φ1 => []) s trivial (fun φ1 => by kernel_rfl) ?_
  intro φ1 w1 s
  refine callB_rule (b := (r, .cells #[.slice a l.length c, .int .i64 ((e : Nat) : Int)] 126)) (H := [(r, .cells #[.slice a l.length c, .int .i64 ((e : Nat) : Int)] 126)]) (F := []) (Hr := []) (some 5) 0 s (by kernel_rfl) (by kernel_rfl) (errI_c (r := r) (v0 := .slice a l.length c) (e := e)) (by kernel_rfl) ?_
  rintro v2 I2 w2 b2 le2 - h2 s
  replace hl := BSl.mono le2 hl
  obtain ⟨rfl, rfl⟩ := h2
  refine ops_rule (C := []) [(r, .cells #[.slice a l.length c, .int .i64 ((e : Nat) : Int)] 126)] [] 1 [] 0 (fun φ3 => [(6, .bool (((e : Nat) : Int) == ((0 : Nat) : Int)))]) (fun φ3 => [(r, .cells #[.slice a l.length c, .int .i64 ((e : Nat) : Int)] 126)]) (fun φ3 => []) s trivial (fun φ3 => by kernel_rfl) ?_
  intro φ3 w3 s
  rw [nat_eql (a := e) (b := 0)]
  refine ops_done (by kernel_rfl) ?_
  rcases Bool.eq_false_or_eq_true (decide (e = 0)) with hc4 | hc4
  ·
    rw [hc4]
    refine cond_true_rule (b := true) (by kernel_rfl) rfl ?_
    refine region_rule ?_
    refine ops_rule (C := []) [(r, .cells #[.slice a l.length c, .int .i64 ((e : Nat) : Int)] 126)] [] 5 [.o 0] 0 (fun φ5 => [(10, .pointer (some ⟨r, 1, none⟩)), (9, .pointer (some ⟨r, 0, none⟩)), (8, .int .i64 ((q : Nat) : Int)), (7, .pointer (some ⟨r, 0, none⟩))]) (fun φ5 => [(r, .cells #[.slice a l.length c, .int .i64 ((q : Nat) : Int)] 126)]) (fun φ5 => [r]) s trivial (fun φ5 => by kernel_rfl) ?_
    intro φ5 w5 s
    refine ops_done (by kernel_rfl) ?_
    refine end_rule (C := []) [(r, .cells #[.slice a l.length c, .int .i64 ((q : Nat) : Int)] 126)] [] (.tuple #[]) [] [] s trivial (by kernel_rfl) ?_
    exact ⟨_, _, _, rfl, s, (by have hq0 := of_decide_eq_true hc4;  exact ⟨_, rfl, rfl, _, _, _, (by rfl), (by unfold faE; first | (rw [if_pos (by omega)]; try rfl) | (rw [if_neg (by omega)]; try rfl)), bsl_eq hl (by rfl)⟩)⟩
  ·
    rw [hc4]
    refine cond_false_rule (b := false) (by kernel_rfl) rfl ?_
    refine wp_skip ?_
    refine end_rule (C := []) [(r, .cells #[.slice a l.length c, .int .i64 ((e : Nat) : Int)] 126)] [] (.tuple #[]) [] [] s trivial (by kernel_rfl) ?_
    exact ⟨_, _, _, rfl, s, (by have hq0 := of_decide_eq_false hc4;  exact ⟨_, rfl, rfl, _, _, _, (by rfl), (by unfold faE; first | (rw [if_pos (by omega)]; try rfl) | (rw [if_neg (by omega)]; try rfl)), bsl_eq hl (by rfl)⟩)⟩

set_option maxHeartbeats 2000000 in
theorem endG_c {I : IM} {l : List UInt8} {a : Option Addr} {k c r e : Nat} (hl : BSl I l (.slice a k c)) (hn9 : l.length ≤ 1000000) : FunM Tryd.prog 56 #[.pointer (some ⟨r, 0, none⟩)] I [(r, .cells #[.slice a k c, .int .i64 ((e : Nat) : Int)] 126)] (fun v J H' => ∃ b' : OB, H' = [b'] ∧ b'.1 = r ∧ ∃ (a' : Option Addr) (k' c' : Nat), v = .int .i64 ((enE l e : Nat) : Int) ∧ b' = (r, .cells #[.slice a' k' c', .int .i64 ((enE l e : Nat) : Int)] 126) ∧ BSl J (l.drop (0)) (.slice a' k' c')) := by
  obtain ⟨rfl, -⟩ := hl.cap
  refine enterM_rule 10 [(0, .pointer (some ⟨r, 0, none⟩))] Tryd.func56 rfl (by kernel_rfl) ?_
  intro w s
  refine wp_seq ?_
  refine region_rule ?_
  refine ops_rule (C := []) [(r, .cells #[.slice a l.length c, .int .i64 ((e : Nat) : Int)] 126)] [] 1 [] 0 (fun φ1 => [(2, .int .i64 0)]) (fun φ1 => [(r, .cells #[.slice a l.length c, .int .i64 ((e : Nat) : Int)] 126)]) (fun φ1 => []) s trivial (fun φ1 => by kernel_rfl) ?_
  intro φ1 w1 s
  refine ops_done (by kernel_rfl) ?_
  refine wp_seq ?_
  refine wp_seq ?_
  refine region_rule ?_
  refine ops_rule (C := []) [(r, .cells #[.slice a l.length c, .int .i64 ((e : Nat) : Int)] 126)] [] 1 [] 0 (fun φ2 => [(3, .pointer (some ⟨r, 0, none⟩))]) (fun φ2 => [(r, .cells #[.slice a l.length c, .int .i64 ((e : Nat) : Int)] 126)]) (fun φ2 => []) s trivial (fun φ2 => by kernel_rfl) ?_
  intro φ2 w2 s
  refine callB_rule (b := (r, .cells #[.slice a l.length c, .int .i64 ((e : Nat) : Int)] 126)) (H := [(r, .cells #[.slice a l.length c, .int .i64 ((e : Nat) : Int)] 126)]) (F := []) (Hr := []) (some 4) 0 s (by kernel_rfl) (by kernel_rfl) (leftI_c (r := r) (a := a) (k := l.length) (c := c) (e := e)) (by kernel_rfl) ?_
  rintro v3 I3 w3 b3 le3 - h3 s
  replace hl := BSl.mono le3 hl
  obtain ⟨rfl, rfl⟩ := h3
  refine ops_rule (C := []) [(r, .cells #[.slice a l.length c, .int .i64 ((e : Nat) : Int)] 126)] [] 1 [] 0 (fun φ4 => [(5, .bool (decide (((l.length : Nat) : Int) > ((0 : Nat) : Int))))]) (fun φ4 => [(r, .cells #[.slice a l.length c, .int .i64 ((e : Nat) : Int)] 126)]) (fun φ4 => []) s trivial (fun φ4 => by kernel_rfl) ?_
  intro φ4 w4 s
  rw [nat_gtr (a := l.length) (b := 0)]
  refine ops_done (by kernel_rfl) ?_
  rcases Bool.eq_false_or_eq_true (decide (0 < l.length)) with hc5 | hc5
  ·
    rw [hc5]
    refine cond_true_rule (b := true) (by kernel_rfl) rfl ?_
    refine region_rule ?_
    refine ops_rule (C := []) [(r, .cells #[.slice a l.length c, .int .i64 ((e : Nat) : Int)] 126)] [] 1 [] 0 (fun φ6 => [(6, .pointer (some ⟨r, 0, none⟩))]) (fun φ6 => [(r, .cells #[.slice a l.length c, .int .i64 ((e : Nat) : Int)] 126)]) (fun φ6 => []) s trivial (fun φ6 => by kernel_rfl) ?_
    intro φ6 w6 s
    refine callB_rule (b := (r, .cells #[.slice a l.length c, .int .i64 ((e : Nat) : Int)] 126)) (H := [(r, .cells #[.slice a l.length c, .int .i64 ((e : Nat) : Int)] 126)]) (F := []) (Hr := []) (some 7) 0 s (by kernel_rfl) (by kernel_rfl) (failG_c (r := r) (e := e) (q := 6) hl (by omega)) (by kernel_rfl) ?_
    rintro v7 I7 w7 b7 le7 - h7 s
    replace hl := BSl.mono le7 hl
    obtain ⟨a7, k7, c7, rfl, rfl, h7_0⟩ := h7
    refine ops_done (by kernel_rfl) ?_
    refine wp_seq ?_
    refine region_rule ?_
    refine ops_rule (C := []) [(r, .cells #[.slice a7 k7 c7, .int .i64 ((faE 6 e : Nat) : Int)] 126)] [] 1 [] 0 (fun φ8 => [(8, .pointer (some ⟨r, 0, none⟩))]) (fun φ8 => [(r, .cells #[.slice a7 k7 c7, .int .i64 ((faE 6 e : Nat) : Int)] 126)]) (fun φ8 => []) s trivial (fun φ8 => by kernel_rfl) ?_
    intro φ8 w8 s
    refine callB_rule (b := (r, .cells #[.slice a7 k7 c7, .int .i64 ((faE 6 e : Nat) : Int)] 126)) (H := [(r, .cells #[.slice a7 k7 c7, .int .i64 ((faE 6 e : Nat) : Int)] 126)]) (F := []) (Hr := []) (some 9) 0 s (by kernel_rfl) (by kernel_rfl) (errI_c (r := r) (v0 := .slice a7 k7 c7) (e := faE 6 e)) (by kernel_rfl) ?_
    rintro v9 I9 w9 b9 le9 - h9 s
    replace hl := BSl.mono le9 hl
    replace h7_0 := BSl.mono le9 h7_0
    obtain ⟨rfl, rfl⟩ := h9
    refine ops_rule (C := []) [(r, .cells #[.slice a7 k7 c7, .int .i64 ((faE 6 e : Nat) : Int)] 126)] [] 1 [] 0 (fun φ10 => [(2, .int .i64 ((faE 6 e : Nat) : Int))]) (fun φ10 => [(r, .cells #[.slice a7 k7 c7, .int .i64 ((faE 6 e : Nat) : Int)] 126)]) (fun φ10 => []) s trivial (fun φ10 => by kernel_rfl) ?_
    intro φ10 w10 s
    refine ops_done (by kernel_rfl) ?_
    refine wp_ret ?_
    refine ret_rule (C := []) [(r, .cells #[.slice a7 k7 c7, .int .i64 ((faE 6 e : Nat) : Int)] 126)] [] (.int .i64 ((faE 6 e : Nat) : Int)) [] [] s trivial (by kernel_rfl) ?_
    exact ⟨_, _, _, rfl, s, (by have hq0 := of_decide_eq_true hc5;  exact ⟨_, rfl, rfl, _, _, _, (by first | rw [enE_pos (by omega)] | rw [enE_none (by omega)]), (by first | rw [enE_pos (by omega)] | rw [enE_none (by omega)]), bsl_eq h7_0 (by rfl)⟩)⟩
  ·
    rw [hc5]
    refine cond_false_rule (b := false) (by kernel_rfl) rfl ?_
    refine wp_skip ?_
    refine wp_seq ?_
    refine region_rule ?_
    refine ops_rule (C := []) [(r, .cells #[.slice a l.length c, .int .i64 ((e : Nat) : Int)] 126)] [] 1 [] 0 (fun φ11 => [(8, .pointer (some ⟨r, 0, none⟩))]) (fun φ11 => [(r, .cells #[.slice a l.length c, .int .i64 ((e : Nat) : Int)] 126)]) (fun φ11 => []) s trivial (fun φ11 => by kernel_rfl) ?_
    intro φ11 w11 s
    refine callB_rule (b := (r, .cells #[.slice a l.length c, .int .i64 ((e : Nat) : Int)] 126)) (H := [(r, .cells #[.slice a l.length c, .int .i64 ((e : Nat) : Int)] 126)]) (F := []) (Hr := []) (some 9) 0 s (by kernel_rfl) (by kernel_rfl) (errI_c (r := r) (v0 := .slice a l.length c) (e := e)) (by kernel_rfl) ?_
    rintro v12 I12 w12 b12 le12 - h12 s
    replace hl := BSl.mono le12 hl
    obtain ⟨rfl, rfl⟩ := h12
    refine ops_rule (C := []) [(r, .cells #[.slice a l.length c, .int .i64 ((e : Nat) : Int)] 126)] [] 1 [] 0 (fun φ13 => [(2, .int .i64 ((e : Nat) : Int))]) (fun φ13 => [(r, .cells #[.slice a l.length c, .int .i64 ((e : Nat) : Int)] 126)]) (fun φ13 => []) s trivial (fun φ13 => by kernel_rfl) ?_
    intro φ13 w13 s
    refine ops_done (by kernel_rfl) ?_
    refine wp_ret ?_
    refine ret_rule (C := []) [(r, .cells #[.slice a l.length c, .int .i64 ((e : Nat) : Int)] 126)] [] (.int .i64 ((e : Nat) : Int)) [] [] s trivial (by kernel_rfl) ?_
    exact ⟨_, _, _, rfl, s, (by have hq0 := of_decide_eq_false hc5;  exact ⟨_, rfl, rfl, _, _, _, (by first | rw [enE_pos (by omega)] | rw [enE_none (by omega)]), (by first | rw [enE_pos (by omega)] | rw [enE_none (by omega)]), bsl_eq hl (by rfl)⟩)⟩

set_option maxHeartbeats 2000000 in
theorem textG_c {I : IM} {l : List UInt8} {a : Option Addr} {k c r e z : Nat} (hl : BSl I l (.slice a k c)) (hn9 : l.length ≤ 1000000) (hz : z < 9223372036854775808) : FunM Tryd.prog 115 #[.pointer (some ⟨r, 0, none⟩), .int .i64 ((z : Nat) : Int)] I [(r, .cells #[.slice a k c, .int .i64 ((e : Nat) : Int)] 126)] (fun v J H' => ∃ b' : OB, H' = [b'] ∧ b'.1 = r ∧ ∃ (a' : Option Addr) (k' c' : Nat), v = .string ⟨(teV l e ((z : Nat) : Int)).toArray⟩ ∧ b' = (r, .cells #[.slice a' k' c', .int .i64 ((teE l e ((z : Nat) : Int) : Nat) : Int)] 126) ∧ BSl J (l.drop (teD l e ((z : Nat) : Int))) (.slice a' k' c')) := by
  obtain ⟨rfl, -⟩ := hl.cap
  refine enterM_rule 62 [(0, .pointer (some ⟨r, 0, none⟩)), (1, .int .i64 ((z : Nat) : Int))] Tryd.func115 rfl (by kernel_rfl) ?_
  intro w s
  refine wp_seq ?_
  refine region_rule ?_
  refine ops_rule (C := []) [(r, .cells #[.slice a l.length c, .int .i64 ((e : Nat) : Int)] 126)] [] 1 [] 0 (fun φ1 => [(4, .string ⟨#[]⟩)]) (fun φ1 => [(r, .cells #[.slice a l.length c, .int .i64 ((e : Nat) : Int)] 126)]) (fun φ1 => []) s trivial (fun φ1 => by kernel_rfl) ?_
  intro φ1 w1 s
  refine ops_done (by kernel_rfl) ?_
  refine wp_seq ?_
  refine wp_seq ?_
  refine region_rule ?_
  refine ops_rule (C := []) [(r, .cells #[.slice a l.length c, .int .i64 ((e : Nat) : Int)] 126)] [] 1 [] 0 (fun φ2 => [(8, .pointer (some ⟨r, 0, none⟩))]) (fun φ2 => [(r, .cells #[.slice a l.length c, .int .i64 ((e : Nat) : Int)] 126)]) (fun φ2 => []) s trivial (fun φ2 => by kernel_rfl) ?_
  intro φ2 w2 s
  refine callB_rule (b := (r, .cells #[.slice a l.length c, .int .i64 ((e : Nat) : Int)] 126)) (H := [(r, .cells #[.slice a l.length c, .int .i64 ((e : Nat) : Int)] 126)]) (F := []) (Hr := []) (some 9) 0 s (by kernel_rfl) (by kernel_rfl) (errI_c (r := r) (v0 := .slice a l.length c) (e := e)) (by kernel_rfl) ?_
  rintro v3 I3 w3 b3 le3 - h3 s
  replace hl := BSl.mono le3 hl
  obtain ⟨rfl, rfl⟩ := h3
  refine ops_rule (C := []) [(r, .cells #[.slice a l.length c, .int .i64 ((e : Nat) : Int)] 126)] [] 1 [] 0 (fun φ4 => [(10, .bool (((e : Nat) : Int) != ((0 : Nat) : Int)))]) (fun φ4 => [(r, .cells #[.slice a l.length c, .int .i64 ((e : Nat) : Int)] 126)]) (fun φ4 => []) s trivial (fun φ4 => by kernel_rfl) ?_
  intro φ4 w4 s
  rw [nat_neq (a := e) (b := 0)]
  refine ops_done (by kernel_rfl) ?_
  rcases Bool.eq_false_or_eq_true (decide (e ≠ 0)) with hc5 | hc5
  ·
    rw [hc5]
    refine cond_true_rule (b := true) (by kernel_rfl) rfl ?_
    refine wp_seq ?_
    refine region_rule ?_
    refine ops_rule (C := []) [(r, .cells #[.slice a l.length c, .int .i64 ((e : Nat) : Int)] 126)] [] 1 [] 0 (fun φ6 => [(4, .string ⟨#[]⟩)]) (fun φ6 => [(r, .cells #[.slice a l.length c, .int .i64 ((e : Nat) : Int)] 126)]) (fun φ6 => []) s trivial (fun φ6 => by kernel_rfl) ?_
    intro φ6 w6 s
    refine ops_done (by kernel_rfl) ?_
    refine wp_ret ?_
    refine ret_rule (C := []) [(r, .cells #[.slice a l.length c, .int .i64 ((e : Nat) : Int)] 126)] [] (.string ⟨#[]⟩) [] [] s trivial (by kernel_rfl) ?_
    exact ⟨_, _, _, rfl, s, (by have hq0 := of_decide_eq_true hc5;  exact ⟨_, rfl, rfl, _, _, _, (by unfold teV; first | (rw [if_pos (by unfold okT; omega)]; done) | (rw [if_neg (by unfold okT; omega)]; done) | (rw [if_pos (by unfold okT; omega)]; rfl) | (rw [if_neg (by unfold okT; omega)]; rfl)), (by unfold teE; first | (rw [if_neg (by omega)]; done) | (rw [if_pos (by omega), if_pos (by omega)]; rfl) | (rw [if_pos (by omega), if_neg (by omega), if_pos (by omega)]; rfl) | (rw [if_pos (by omega), if_neg (by omega), if_neg (by omega), if_pos (by omega)]; rfl) | (rw [if_pos (by omega), if_neg (by omega), if_neg (by omega), if_neg (by omega), show e = 0 by omega]; done) | (rw [if_pos (by omega), if_neg (by omega), if_neg (by omega), if_neg (by omega), show e = 0 by omega]; rfl)), bsl_eq hl (by unfold teD; first | (rw [if_neg (by unfold okT; omega)]; rfl) | (rw [if_pos (by unfold okT; omega), ← List.drop_drop]))⟩)⟩
  ·
    rw [hc5]
    refine cond_false_rule (b := false) (by kernel_rfl) rfl ?_
    refine wp_skip ?_
    refine wp_seq ?_
    refine region_rule ?_
    refine ops_rule (C := []) [(r, .cells #[.slice a l.length c, .int .i64 ((e : Nat) : Int)] 126)] [] 4 [.o 0] 0 (fun φ7 => [(15, .slice a l.length c), (14, .pointer (some ⟨r, 0, none⟩)), (13, .pointer (some ⟨r, 0, none⟩)), (12, .pointer (some ⟨r, 0, none⟩))]) (fun φ7 => [(r, .cells #[.slice a l.length c, .int .i64 ((e : Nat) : Int)] 126)]) (fun φ7 => [r]) s trivial (fun φ7 => by kernel_rfl) ?_
    intro φ7 w7 s
    refine call_rule (some 16) s (numberG_c hl (by omega)) (by kernel_rfl) ?_
    intro v8 I8 w8 le8 h8 s
    replace hl := BSl.mono le8 hl
    obtain rfl := h8
    refine ops_rule (C := []) [(r, .cells #[.slice a l.length c, .int .i64 ((e : Nat) : Int)] 126)] [] 5 [] 0 (fun φ9 => [(6, .int .i64 ((numK l : Nat) : Int)), (5, .int .u64 ((numN l : Nat) : Int)), (18, .int .i64 ((numK l : Nat) : Int)), (17, .int .u64 ((numN l : Nat) : Int)), (11, .tuple #[.int .u64 ((numN l : Nat) : Int), .int .i64 ((numK l : Nat) : Int)])]) (fun φ9 => [(r, .cells #[.slice a l.length c, .int .i64 ((e : Nat) : Int)] 126)]) (fun φ9 => []) s trivial (fun φ9 => by kernel_rfl) ?_
    intro φ9 w9 s
    refine ops_done (by kernel_rfl) ?_
    refine wp_seq ?_
    refine region_rule ?_
    refine ops_rule (C := []) [(r, .cells #[.slice a l.length c, .int .i64 ((e : Nat) : Int)] 126)] [] 5 [.o 0] 0 (fun φ10 => [(23, .int .i64 ((numK l : Nat) : Int)), (22, .slice a l.length c), (21, .pointer (some ⟨r, 0, none⟩)), (20, .pointer (some ⟨r, 0, none⟩)), (19, .pointer (some ⟨r, 0, none⟩))]) (fun φ10 => [(r, .cells #[.slice a l.length c, .int .i64 ((e : Nat) : Int)] 126)]) (fun φ10 => [r]) s trivial (fun φ10 => by kernel_rfl) ?_
    intro φ10 w10 s
    refine sem_rule (Instr.sliceAt 61 (.slice a l.length c) (some (.int .i64 ((numK l : Nat) : Int))) none none) (some 24) (.slice (subA a (numK l) c) (l.length - (numK l)) (c - (numK l))) (by kernel_rfl) (run_from (by have hcp := (BSl.cap hl).2; (try simp only [List.length_drop, List.length_take, List.length_append, List.length_cons, List.length_nil] at hcp ⊢); have hk9 := numK_le l; have hn8 := numN_lt l; have hq0 := of_decide_eq_false hc5; omega)) ?_
    refine ops_rule (C := []) [(r, .cells #[.slice a l.length c, .int .i64 ((e : Nat) : Int)] 126)] [] 1 [] 0 (fun φ11 => [(7, .slice (subA a (numK l) c) (l.length - (numK l)) (c - (numK l)))]) (fun φ11 => [(r, .cells #[.slice a l.length c, .int .i64 ((e : Nat) : Int)] 126)]) (fun φ11 => []) s trivial (fun φ11 => by kernel_rfl) ?_
    intro φ11 w11 s
    refine ops_done (by kernel_rfl) ?_
    refine wp_seq ?_
    refine wp_block ?_
    refine wp_seq ?_
    refine region_rule ?_
    refine ops_rule (C := []) [(r, .cells #[.slice a l.length c, .int .i64 ((e : Nat) : Int)] 126)] [] 3 [] 0 (fun φ12 => [(35, .bool (((numK l : Nat) : Int) == ((0 : Nat) : Int))), (37, .bool (((numK l : Nat) : Int) == ((0 : Nat) : Int))), (36, .int .i64 ((numK l : Nat) : Int))]) (fun φ12 => [(r, .cells #[.slice a l.length c, .int .i64 ((e : Nat) : Int)] 126)]) (fun φ12 => []) s trivial (fun φ12 => by kernel_rfl) ?_
    intro φ12 w12 s
    rw [nat_eql (a := (numK l)) (b := 0)]
    refine ops_done (by kernel_rfl) ?_
    rcases Bool.eq_false_or_eq_true (decide ((numK l) = 0)) with hc13 | hc13
    ·
      rw [hc13]
      refine cond_true_rule (b := true) (by kernel_rfl) rfl ?_
      refine region_rule ?_
      refine ops_rule (C := []) [(r, .cells #[.slice a l.length c, .int .i64 ((e : Nat) : Int)] 126)] [] 4 [.o 0] 0 (fun φ14 => [(40, .pointer (some ⟨r, 1, none⟩)), (39, .pointer (some ⟨r, 0, none⟩)), (38, .pointer (some ⟨r, 0, none⟩))]) (fun φ14 => [(r, .cells #[.slice a l.length c, .int .i64 6] 126)]) (fun φ14 => [r]) s trivial (fun φ14 => by kernel_rfl) ?_
      intro φ14 w14 s
      refine ops_done (by kernel_rfl) ?_
      refine wp_seq ?_
      refine region_rule ?_
      refine ops_rule (C := []) [(r, .cells #[.slice a l.length c, .int .i64 6] 126)] [] 1 [] 0 (fun φ15 => [(4, .string ⟨#[]⟩)]) (fun φ15 => [(r, .cells #[.slice a l.length c, .int .i64 6] 126)]) (fun φ15 => []) s trivial (fun φ15 => by kernel_rfl) ?_
      intro φ15 w15 s
      refine ops_done (by kernel_rfl) ?_
      refine wp_ret ?_
      refine ret_rule (C := []) [(r, .cells #[.slice a l.length c, .int .i64 6] 126)] [] (.string ⟨#[]⟩) [] [] s trivial (by kernel_rfl) ?_
      exact ⟨_, _, _, rfl, s, (by have hq0 := of_decide_eq_false hc5; have hq1 := of_decide_eq_true hc13;  exact ⟨_, rfl, rfl, _, _, _, (by unfold teV; first | (rw [if_pos (by unfold okT; omega)]; done) | (rw [if_neg (by unfold okT; omega)]; done) | (rw [if_pos (by unfold okT; omega)]; rfl) | (rw [if_neg (by unfold okT; omega)]; rfl)), (by unfold teE; first | (rw [if_neg (by omega)]; done) | (rw [if_pos (by omega), if_pos (by omega)]; rfl) | (rw [if_pos (by omega), if_neg (by omega), if_pos (by omega)]; rfl) | (rw [if_pos (by omega), if_neg (by omega), if_neg (by omega), if_pos (by omega)]; rfl) | (rw [if_pos (by omega), if_neg (by omega), if_neg (by omega), if_neg (by omega), show e = 0 by omega]; done) | (rw [if_pos (by omega), if_neg (by omega), if_neg (by omega), if_neg (by omega), show e = 0 by omega]; rfl)), bsl_eq hl (by unfold teD; first | (rw [if_neg (by unfold okT; omega)]; rfl) | (rw [if_pos (by unfold okT; omega), ← List.drop_drop]))⟩)⟩
    ·
      rw [hc13]
      refine cond_false_rule (b := false) (by kernel_rfl) rfl ?_
      refine wp_seq ?_
      refine region_rule ?_
      refine ops_rule (C := []) [(r, .cells #[.slice a l.length c, .int .i64 ((e : Nat) : Int)] 126)] [] 3 [] 0 (fun φ16 => [(44, .bool (decide (((z : Nat) : Int) < ((0 : Nat) : Int)))), (43, .bool (decide (((z : Nat) : Int) < ((0 : Nat) : Int)))), (42, .int .i64 ((z : Nat) : Int))]) (fun φ16 => [(r, .cells #[.slice a l.length c, .int .i64 ((e : Nat) : Int)] 126)]) (fun φ16 => []) s trivial (fun φ16 => by kernel_rfl) ?_
      intro φ16 w16 s
      rw [nat_lss (a := z) (b := 0)]
      rcases Bool.eq_false_or_eq_true (decide (z < 0)) with hc17 | hc17
      ·
        rw [hc17]
        refine ops_rule (C := []) [(r, .cells #[.slice a l.length c, .int .i64 ((e : Nat) : Int)] 126)] [] 6 [] 0 (fun φ18 => [(41, .bool true), (49, .bool true), (48, undef), (47, undef), (46, undef), (45, undef)]) (fun φ18 => [(r, .cells #[.slice a l.length c, .int .i64 ((e : Nat) : Int)] 126)]) (fun φ18 => []) s trivial (fun φ18 => by kernel_rfl) ?_
        intro φ18 w18 s
        refine ops_done (by kernel_rfl) ?_
        refine cond_true_rule (b := true) (by kernel_rfl) rfl ?_
        refine region_rule ?_
        refine ops_rule (C := []) [(r, .cells #[.slice a l.length c, .int .i64 ((e : Nat) : Int)] 126)] [] 4 [.o 0] 0 (fun φ19 => [(52, .pointer (some ⟨r, 1, none⟩)), (51, .pointer (some ⟨r, 0, none⟩)), (50, .pointer (some ⟨r, 0, none⟩))]) (fun φ19 => [(r, .cells #[.slice a l.length c, .int .i64 9] 126)]) (fun φ19 => [r]) s trivial (fun φ19 => by kernel_rfl) ?_
        intro φ19 w19 s
        refine ops_done (by kernel_rfl) ?_
        refine wp_seq ?_
        refine region_rule ?_
        refine ops_rule (C := []) [(r, .cells #[.slice a l.length c, .int .i64 9] 126)] [] 1 [] 0 (fun φ20 => [(4, .string ⟨#[]⟩)]) (fun φ20 => [(r, .cells #[.slice a l.length c, .int .i64 9] 126)]) (fun φ20 => []) s trivial (fun φ20 => by kernel_rfl) ?_
        intro φ20 w20 s
        refine ops_done (by kernel_rfl) ?_
        refine wp_ret ?_
        refine ret_rule (C := []) [(r, .cells #[.slice a l.length c, .int .i64 9] 126)] [] (.string ⟨#[]⟩) [] [] s trivial (by kernel_rfl) ?_
        exact ⟨_, _, _, rfl, s, (by have hq0 := of_decide_eq_false hc5; have hq1 := of_decide_eq_false hc13; have hq2 := of_decide_eq_true hc17;  exact ⟨_, rfl, rfl, _, _, _, (by unfold teV; first | (rw [if_pos (by unfold okT; omega)]; done) | (rw [if_neg (by unfold okT; omega)]; done) | (rw [if_pos (by unfold okT; omega)]; rfl) | (rw [if_neg (by unfold okT; omega)]; rfl)), (by unfold teE; first | (rw [if_neg (by omega)]; done) | (rw [if_pos (by omega), if_pos (by omega)]; rfl) | (rw [if_pos (by omega), if_neg (by omega), if_pos (by omega)]; rfl) | (rw [if_pos (by omega), if_neg (by omega), if_neg (by omega), if_pos (by omega)]; rfl) | (rw [if_pos (by omega), if_neg (by omega), if_neg (by omega), if_neg (by omega), show e = 0 by omega]; done) | (rw [if_pos (by omega), if_neg (by omega), if_neg (by omega), if_neg (by omega), show e = 0 by omega]; rfl)), bsl_eq hl (by unfold teD; first | (rw [if_neg (by unfold okT; omega)]; rfl) | (rw [if_pos (by unfold okT; omega), ← List.drop_drop]))⟩)⟩
      ·
        rw [hc17]
        refine ops_rule (C := []) [(r, .cells #[.slice a l.length c, .int .i64 ((e : Nat) : Int)] 126)] [] 6 [] 0 (fun φ21 => [(41, .bool (decide (((numN l : Nat) : Int) > (IntKind.wrap .u64 ((z : Nat) : Int))))), (49, .bool (decide (((numN l : Nat) : Int) > (IntKind.wrap .u64 ((z : Nat) : Int))))), (48, .bool (decide (((numN l : Nat) : Int) > (IntKind.wrap .u64 ((z : Nat) : Int))))), (47, .int .u64 (IntKind.wrap .u64 ((z : Nat) : Int))), (46, .int .i64 ((z : Nat) : Int)), (45, .int .u64 ((numN l : Nat) : Int))]) (fun φ21 => [(r, .cells #[.slice a l.length c, .int .i64 ((e : Nat) : Int)] 126)]) (fun φ21 => []) s trivial (fun φ21 => by kernel_rfl) ?_
        intro φ21 w21 s
        rw [nat_wrapU (a := z) (by have hk9 := numK_le l; have hn8 := numN_lt l; have hq0 := of_decide_eq_false hc5; have hq1 := of_decide_eq_false hc13; have hq2 := of_decide_eq_false hc17; omega)]
        rw [nat_gtr (a := (numN l)) (b := z)]
        refine ops_done (by kernel_rfl) ?_
        rcases Bool.eq_false_or_eq_true (decide (z < (numN l))) with hc22 | hc22
        ·
          rw [hc22]
          refine cond_true_rule (b := true) (by kernel_rfl) rfl ?_
          refine region_rule ?_
          refine ops_rule (C := []) [(r, .cells #[.slice a l.length c, .int .i64 ((e : Nat) : Int)] 126)] [] 4 [.o 0] 0 (fun φ23 => [(52, .pointer (some ⟨r, 1, none⟩)), (51, .pointer (some ⟨r, 0, none⟩)), (50, .pointer (some ⟨r, 0, none⟩))]) (fun φ23 => [(r, .cells #[.slice a l.length c, .int .i64 9] 126)]) (fun φ23 => [r]) s trivial (fun φ23 => by kernel_rfl) ?_
          intro φ23 w23 s
          refine ops_done (by kernel_rfl) ?_
          refine wp_seq ?_
          refine region_rule ?_
          refine ops_rule (C := []) [(r, .cells #[.slice a l.length c, .int .i64 9] 126)] [] 1 [] 0 (fun φ24 => [(4, .string ⟨#[]⟩)]) (fun φ24 => [(r, .cells #[.slice a l.length c, .int .i64 9] 126)]) (fun φ24 => []) s trivial (fun φ24 => by kernel_rfl) ?_
          intro φ24 w24 s
          refine ops_done (by kernel_rfl) ?_
          refine wp_ret ?_
          refine ret_rule (C := []) [(r, .cells #[.slice a l.length c, .int .i64 9] 126)] [] (.string ⟨#[]⟩) [] [] s trivial (by kernel_rfl) ?_
          exact ⟨_, _, _, rfl, s, (by have hq0 := of_decide_eq_false hc5; have hq1 := of_decide_eq_false hc13; have hq2 := of_decide_eq_false hc17; have hq3 := of_decide_eq_true hc22;  exact ⟨_, rfl, rfl, _, _, _, (by unfold teV; first | (rw [if_pos (by unfold okT; omega)]; done) | (rw [if_neg (by unfold okT; omega)]; done) | (rw [if_pos (by unfold okT; omega)]; rfl) | (rw [if_neg (by unfold okT; omega)]; rfl)), (by unfold teE; first | (rw [if_neg (by omega)]; done) | (rw [if_pos (by omega), if_pos (by omega)]; rfl) | (rw [if_pos (by omega), if_neg (by omega), if_pos (by omega)]; rfl) | (rw [if_pos (by omega), if_neg (by omega), if_neg (by omega), if_pos (by omega)]; rfl) | (rw [if_pos (by omega), if_neg (by omega), if_neg (by omega), if_neg (by omega), show e = 0 by omega]; done) | (rw [if_pos (by omega), if_neg (by omega), if_neg (by omega), if_neg (by omega), show e = 0 by omega]; rfl)), bsl_eq hl (by unfold teD; first | (rw [if_neg (by unfold okT; omega)]; rfl) | (rw [if_pos (by unfold okT; omega), ← List.drop_drop]))⟩)⟩
        ·
          rw [hc22]
          refine cond_false_rule (b := false) (by kernel_rfl) rfl ?_
          refine wp_seq ?_
          refine region_rule ?_
          refine ops_rule (C := []) [(r, .cells #[.slice a l.length c, .int .i64 ((e : Nat) : Int)] 126)] [] 6 [] 0 (fun φ25 => [(53, .bool (decide (((numN l : Nat) : Int) > (IntKind.wrap .u64 (((l.length - (numK l)) : Nat) : Int))))), (58, .bool (decide (((numN l : Nat) : Int) > (IntKind.wrap .u64 (((l.length - (numK l)) : Nat) : Int))))), (57, .int .u64 (IntKind.wrap .u64 (((l.length - (numK l)) : Nat) : Int))), (56, .int .i64 (((l.length - (numK l)) : Nat) : Int)), (55, .slice (subA a (numK l) c) (l.length - (numK l)) (c - (numK l))), (54, .int .u64 ((numN l : Nat) : Int))]) (fun φ25 => [(r, .cells #[.slice a l.length c, .int .i64 ((e : Nat) : Int)] 126)]) (fun φ25 => []) s trivial (fun φ25 => by kernel_rfl) ?_
          intro φ25 w25 s
          rw [nat_wrapU (a := (l.length - (numK l))) (by have hk9 := numK_le l; have hn8 := numN_lt l; have hq0 := of_decide_eq_false hc5; have hq1 := of_decide_eq_false hc13; have hq2 := of_decide_eq_false hc17; have hq3 := of_decide_eq_false hc22; (try simp only [List.length_drop, List.length_take, List.length_append, List.length_cons, List.length_nil]); omega)]
          rw [nat_gtr (a := (numN l)) (b := (l.length - (numK l)))]
          refine ops_done (by kernel_rfl) ?_
          rcases Bool.eq_false_or_eq_true (decide ((l.length - (numK l)) < (numN l))) with hc26 | hc26
          ·
            rw [hc26]
            refine cond_true_rule (b := true) (by kernel_rfl) rfl ?_
            refine region_rule ?_
            refine ops_rule (C := []) [(r, .cells #[.slice a l.length c, .int .i64 ((e : Nat) : Int)] 126)] [] 4 [.o 0] 0 (fun φ27 => [(61, .pointer (some ⟨r, 1, none⟩)), (60, .pointer (some ⟨r, 0, none⟩)), (59, .pointer (some ⟨r, 0, none⟩))]) (fun φ27 => [(r, .cells #[.slice a l.length c, .int .i64 6] 126)]) (fun φ27 => [r]) s trivial (fun φ27 => by kernel_rfl) ?_
            intro φ27 w27 s
            refine ops_done (by kernel_rfl) ?_
            refine wp_seq ?_
            refine region_rule ?_
            refine ops_rule (C := []) [(r, .cells #[.slice a l.length c, .int .i64 6] 126)] [] 1 [] 0 (fun φ28 => [(4, .string ⟨#[]⟩)]) (fun φ28 => [(r, .cells #[.slice a l.length c, .int .i64 6] 126)]) (fun φ28 => []) s trivial (fun φ28 => by kernel_rfl) ?_
            intro φ28 w28 s
            refine ops_done (by kernel_rfl) ?_
            refine wp_ret ?_
            refine ret_rule (C := []) [(r, .cells #[.slice a l.length c, .int .i64 6] 126)] [] (.string ⟨#[]⟩) [] [] s trivial (by kernel_rfl) ?_
            exact ⟨_, _, _, rfl, s, (by have hq0 := of_decide_eq_false hc5; have hq1 := of_decide_eq_false hc13; have hq2 := of_decide_eq_false hc17; have hq3 := of_decide_eq_false hc22; have hq4 := of_decide_eq_true hc26;  exact ⟨_, rfl, rfl, _, _, _, (by unfold teV; first | (rw [if_pos (by unfold okT; omega)]; done) | (rw [if_neg (by unfold okT; omega)]; done) | (rw [if_pos (by unfold okT; omega)]; rfl) | (rw [if_neg (by unfold okT; omega)]; rfl)), (by unfold teE; first | (rw [if_neg (by omega)]; done) | (rw [if_pos (by omega), if_pos (by omega)]; rfl) | (rw [if_pos (by omega), if_neg (by omega), if_pos (by omega)]; rfl) | (rw [if_pos (by omega), if_neg (by omega), if_neg (by omega), if_pos (by omega)]; rfl) | (rw [if_pos (by omega), if_neg (by omega), if_neg (by omega), if_neg (by omega), show e = 0 by omega]; done) | (rw [if_pos (by omega), if_neg (by omega), if_neg (by omega), if_neg (by omega), show e = 0 by omega]; rfl)), bsl_eq hl (by unfold teD; first | (rw [if_neg (by unfold okT; omega)]; rfl) | (rw [if_pos (by unfold okT; omega), ← List.drop_drop]))⟩)⟩
          ·
            rw [hc26]
            refine cond_false_rule (b := false) (by kernel_rfl) rfl ?_
            refine wp_seq ?_
            refine region_rule ?_
            refine ops_rule (C := []) [(r, .cells #[.slice a l.length c, .int .i64 ((e : Nat) : Int)] 126)] [] 3 [] 0 (fun φ29 => [(27, .int .u64 ((numN l : Nat) : Int)), (26, .slice (subA a (numK l) c) (l.length - (numK l)) (c - (numK l))), (25, .pointer (some ⟨r, 0, none⟩))]) (fun φ29 => [(r, .cells #[.slice a l.length c, .int .i64 ((e : Nat) : Int)] 126)]) (fun φ29 => []) s trivial (fun φ29 => by kernel_rfl) ?_
            intro φ29 w29 s
            refine sem_rule (Instr.sliceAt 61 (.slice (subA a (numK l) c) (l.length - (numK l)) (c - (numK l))) (some (.int .u64 ((numN l : Nat) : Int))) none none) (some 28) (.slice (subA (subA a (numK l) c) (numN l) (c - (numK l))) ((l.length - (numK l)) - (numN l)) ((c - (numK l)) - (numN l))) (by kernel_rfl) (run_from (by have hcp := (BSl.cap (bsl_from (lo := numK l) hl (by have hcp := (BSl.cap hl).2; (try simp only [List.length_drop, List.length_take, List.length_append, List.length_cons, List.length_nil] at hcp ⊢); have hk9 := numK_le l; have hn8 := numN_lt l; have hq0 := of_decide_eq_false hc5; omega))).2; (try simp only [List.length_drop, List.length_take, List.length_append, List.length_cons, List.length_nil] at hcp ⊢); have hk9 := numK_le l; have hn8 := numN_lt l; have hq0 := of_decide_eq_false hc5; have hq1 := of_decide_eq_false hc13; have hq2 := of_decide_eq_false hc17; have hq3 := of_decide_eq_false hc22; have hq4 := of_decide_eq_false hc26; omega)) ?_
            refine ops_rule (C := []) [(r, .cells #[.slice a l.length c, .int .i64 ((e : Nat) : Int)] 126)] [] 3 [.o 0] 0 (fun φ30 => [(30, .pointer (some ⟨r, 0, none⟩)), (29, .pointer (some ⟨r, 0, none⟩))]) (fun φ30 => [(r, .cells #[.slice (subA (subA a (numK l) c) (numN l) (c - (numK l))) ((l.length - (numK l)) - (numN l)) ((c - (numK l)) - (numN l)), .int .i64 ((e : Nat) : Int)] 126)]) (fun φ30 => [r]) s trivial (fun φ30 => by kernel_rfl) ?_
            intro φ30 w30 s
            refine ops_done (by kernel_rfl) ?_
            refine wp_seq ?_
            refine region_rule ?_
            refine ops_rule (C := []) [(r, .cells #[.slice (subA (subA a (numK l) c) (numN l) (c - (numK l))) ((l.length - (numK l)) - (numN l)) ((c - (numK l)) - (numN l)), .int .i64 ((e : Nat) : Int)] 126)] [] 2 [] 0 (fun φ31 => [(32, .int .u64 ((numN l : Nat) : Int)), (31, .slice (subA a (numK l) c) (l.length - (numK l)) (c - (numK l)))]) (fun φ31 => [(r, .cells #[.slice (subA (subA a (numK l) c) (numN l) (c - (numK l))) ((l.length - (numK l)) - (numN l)) ((c - (numK l)) - (numN l)), .int .i64 ((e : Nat) : Int)] 126)]) (fun φ31 => []) s trivial (fun φ31 => by kernel_rfl) ?_
            intro φ31 w31 s
            refine sem_rule (Instr.sliceAt 61 (.slice (subA a (numK l) c) (l.length - (numK l)) (c - (numK l))) none (some (.int .u64 ((numN l : Nat) : Int))) none) (some 33) (.slice (subA a (numK l) c) (numN l) (c - (numK l))) (by kernel_rfl) (run_to (by have hcp := (BSl.cap (bsl_from (lo := numK l) hl (by have hcp := (BSl.cap hl).2; (try simp only [List.length_drop, List.length_take, List.length_append, List.length_cons, List.length_nil] at hcp ⊢); have hk9 := numK_le l; have hn8 := numN_lt l; have hq0 := of_decide_eq_false hc5; omega))).2; (try simp only [List.length_drop, List.length_take, List.length_append, List.length_cons, List.length_nil] at hcp ⊢); have hk9 := numK_le l; have hn8 := numN_lt l; have hq0 := of_decide_eq_false hc5; have hq1 := of_decide_eq_false hc13; have hq2 := of_decide_eq_false hc17; have hq3 := of_decide_eq_false hc22; have hq4 := of_decide_eq_false hc26; omega)) ?_
            refine sem_rule (convert 61 9 (.slice (subA a (numK l) c) (numN l) (c - (numK l)))) (some 34) (.string ⟨(((l.drop (numK l)).take (numN l))).toArray⟩) (by kernel_rfl) (run_b2s s.sub (bsl_to (hi := numN l) (bsl_from (lo := numK l) hl (by have hcp := (BSl.cap hl).2; (try simp only [List.length_drop, List.length_take, List.length_append, List.length_cons, List.length_nil] at hcp ⊢); have hk9 := numK_le l; have hn8 := numN_lt l; have hq0 := of_decide_eq_false hc5; omega)) (by have hcp := (BSl.cap (bsl_from (lo := numK l) hl (by have hcp := (BSl.cap hl).2; (try simp only [List.length_drop, List.length_take, List.length_append, List.length_cons, List.length_nil] at hcp ⊢); have hk9 := numK_le l; have hn8 := numN_lt l; have hq0 := of_decide_eq_false hc5; omega))).2; (try simp only [List.length_drop, List.length_take, List.length_append, List.length_cons, List.length_nil] at hcp ⊢); have hk9 := numK_le l; have hn8 := numN_lt l; have hq0 := of_decide_eq_false hc5; have hq1 := of_decide_eq_false hc13; have hq2 := of_decide_eq_false hc17; have hq3 := of_decide_eq_false hc22; have hq4 := of_decide_eq_false hc26; omega))) ?_
            refine ops_rule (C := []) [(r, .cells #[.slice (subA (subA a (numK l) c) (numN l) (c - (numK l))) ((l.length - (numK l)) - (numN l)) ((c - (numK l)) - (numN l)), .int .i64 ((e : Nat) : Int)] 126)] [] 1 [] 0 (fun φ32 => [(4, .string ⟨(((l.drop (numK l)).take (numN l))).toArray⟩)]) (fun φ32 => [(r, .cells #[.slice (subA (subA a (numK l) c) (numN l) (c - (numK l))) ((l.length - (numK l)) - (numN l)) ((c - (numK l)) - (numN l)), .int .i64 ((e : Nat) : Int)] 126)]) (fun φ32 => []) s trivial (fun φ32 => by kernel_rfl) ?_
            intro φ32 w32 s
            refine ops_done (by kernel_rfl) ?_
            refine wp_ret ?_
            refine ret_rule (C := []) [(r, .cells #[.slice (subA (subA a (numK l) c) (numN l) (c - (numK l))) ((l.length - (numK l)) - (numN l)) ((c - (numK l)) - (numN l)), .int .i64 ((e : Nat) : Int)] 126)] [] (.string ⟨(((l.drop (numK l)).take (numN l))).toArray⟩) [] [] s trivial (by kernel_rfl) ?_
            exact ⟨_, _, _, rfl, s, (by have hq0 := of_decide_eq_false hc5; have hq1 := of_decide_eq_false hc13; have hq2 := of_decide_eq_false hc17; have hq3 := of_decide_eq_false hc22; have hq4 := of_decide_eq_false hc26;  exact ⟨_, rfl, rfl, _, _, _, (by unfold teV; first | (rw [if_pos (by unfold okT; omega)]; done) | (rw [if_neg (by unfold okT; omega)]; done) | (rw [if_pos (by unfold okT; omega)]; rfl) | (rw [if_neg (by unfold okT; omega)]; rfl)), (by unfold teE; first | (rw [if_neg (by omega)]; done) | (rw [if_pos (by omega), if_pos (by omega)]; rfl) | (rw [if_pos (by omega), if_neg (by omega), if_pos (by omega)]; rfl) | (rw [if_pos (by omega), if_neg (by omega), if_neg (by omega), if_pos (by omega)]; rfl) | (rw [if_pos (by omega), if_neg (by omega), if_neg (by omega), if_neg (by omega), show e = 0 by omega]; done) | (rw [if_pos (by omega), if_neg (by omega), if_neg (by omega), if_neg (by omega), show e = 0 by omega]; rfl)), bsl_eq (bsl_from (lo := numN l) (bsl_from (lo := numK l) hl (by have hcp := (BSl.cap hl).2; (try simp only [List.length_drop, List.length_take, List.length_append, List.length_cons, List.length_nil] at hcp ⊢); have hk9 := numK_le l; have hn8 := numN_lt l; have hq0 := of_decide_eq_false hc5; omega)) (by have hcp := (BSl.cap (bsl_from (lo := numK l) hl (by have hcp := (BSl.cap hl).2; (try simp only [List.length_drop, List.length_take, List.length_append, List.length_cons, List.length_nil] at hcp ⊢); have hk9 := numK_le l; have hn8 := numN_lt l; have hq0 := of_decide_eq_false hc5; omega))).2; (try simp only [List.length_drop, List.length_take, List.length_append, List.length_cons, List.length_nil] at hcp ⊢); have hk9 := numK_le l; have hn8 := numN_lt l; have hq0 := of_decide_eq_false hc5; have hq1 := of_decide_eq_false hc13; have hq2 := of_decide_eq_false hc17; have hq3 := of_decide_eq_false hc22; have hq4 := of_decide_eq_false hc26; omega)) (by unfold teD; first | (rw [if_neg (by unfold okT; omega)]; rfl) | (rw [if_pos (by unfold okT; omega), ← List.drop_drop]))⟩)⟩

end Go.Proofs.YtcpmjogeafhpnaaDoor

/- What an In tells, in variables. -/
set_option linter.all false
set_option maxRecDepth 100000
namespace Go.Proofs.YtcpmjogeafhpnaaDoor
open Go.RowKit Go.Sep
attribute [local irreducible] Go.wpList Go.Code.wp

theorem funM_mono {P : Program} {f : FuncId} {args : Array Value} {I : IM} {H : List OB} {R R' : Value → IM → List OB → Prop} (h : FunM P f args I H R) (k : ∀ v J H', R v J H' → R' v J H') : FunM P f args I H R' :=
  fun w hw ho => (h w hw ho).mono fun e w' ⟨v, J, H', he, p, r⟩ => ⟨v, J, H', he, p, k v J H' r⟩
theorem byteV_c {I : IM} {l : List UInt8} {a : Option Addr} {k c r e : Nat} (hl : BSl I l (.slice a k c)) (hn9 : l.length ≤ 1000000) : FunM Tryd.prog 55 #[.pointer (some ⟨r, 0, none⟩)] I [(r, .cells #[.slice a k c, .int .i64 ((e : Nat) : Int)] 126)] (fun v J H' => ∃ b' : OB, H' = [b'] ∧ b'.1 = r ∧ ∃ (V : Nat) (E D : Nat) (L : List UInt8) (a' : Option Addr) (k' c' : Nat), v = .int .u8 ((V : Nat) : Int) ∧ b' = (r, .cells #[.slice a' k' c', .int .i64 ((E : Nat) : Int)] 126) ∧ BSl J L (.slice a' k' c') ∧ byV l e = V ∧ byE l e = E ∧ byD l e = D ∧ l.drop D = L) := by
  refine funM_mono (byteG_c (r := r) (e := e) hl hn9) (fun v J H' q => ?_)
  obtain ⟨b', h1, h2, a', k', c', h3, h4, h5⟩ := q
  exact ⟨b', h1, h2, _, _, _, _, a', k', c', h3, h4, h5, rfl, rfl, rfl, rfl⟩
theorem numV_c {I : IM} {l : List UInt8} {a : Option Addr} {k c r e : Nat} (hl : BSl I l (.slice a k c)) (hn9 : l.length ≤ 1000000) : FunM Tryd.prog 114 #[.pointer (some ⟨r, 0, none⟩)] I [(r, .cells #[.slice a k c, .int .i64 ((e : Nat) : Int)] 126)] (fun v J H' => ∃ b' : OB, H' = [b'] ∧ b'.1 = r ∧ ∃ (V : Nat) (E D : Nat) (L : List UInt8) (a' : Option Addr) (k' c' : Nat), v = .int .u64 ((V : Nat) : Int) ∧ b' = (r, .cells #[.slice a' k' c', .int .i64 ((E : Nat) : Int)] 126) ∧ BSl J L (.slice a' k' c') ∧ nuV l e = V ∧ nuE l e = E ∧ nuD l e = D ∧ l.drop D = L) := by
  refine funM_mono (numG_c (r := r) (e := e) hl hn9) (fun v J H' q => ?_)
  obtain ⟨b', h1, h2, a', k', c', h3, h4, h5⟩ := q
  exact ⟨b', h1, h2, _, _, _, _, a', k', c', h3, h4, h5, rfl, rfl, rfl, rfl⟩
theorem textV_c {I : IM} {l : List UInt8} {a : Option Addr} {k c r e : Nat} (hl : BSl I l (.slice a k c)) (hn9 : l.length ≤ 1000000) {z : Nat} (hz : z < 9223372036854775808) : FunM Tryd.prog 115 #[.pointer (some ⟨r, 0, none⟩), .int .i64 ((z : Nat) : Int)] I [(r, .cells #[.slice a k c, .int .i64 ((e : Nat) : Int)] 126)] (fun v J H' => ∃ b' : OB, H' = [b'] ∧ b'.1 = r ∧ ∃ (V : List UInt8) (E D : Nat) (L : List UInt8) (a' : Option Addr) (k' c' : Nat), v = .string ⟨V.toArray⟩ ∧ b' = (r, .cells #[.slice a' k' c', .int .i64 ((E : Nat) : Int)] 126) ∧ BSl J L (.slice a' k' c') ∧ teV l e ((z : Nat) : Int) = V ∧ teE l e ((z : Nat) : Int) = E ∧ teD l e ((z : Nat) : Int) = D ∧ l.drop D = L) := by
  refine funM_mono (textG_c (r := r) (e := e) hl hn9 hz) (fun v J H' q => ?_)
  obtain ⟨b', h1, h2, a', k', c', h3, h4, h5⟩ := q
  exact ⟨b', h1, h2, _, _, _, _, a', k', c', h3, h4, h5, rfl, rfl, rfl, rfl⟩
theorem drop_len9 {l L : List UInt8} {d : Nat} (h : l.drop d = L) (hl : l.length ≤ 1000000) : L.length ≤ 1000000 := by rw [← h, List.length_drop]; omega

end Go.Proofs.YtcpmjogeafhpnaaDoor
/- A field is read; how many there are. -/
set_option linter.all false
set_option maxRecDepth 100000
namespace Go.Proofs.YtcpmjogeafhpnaaDoor
open Go.RowKit Go.Sep
attribute [local irreducible] Go.wpList Go.Code.wp

theorem failV_c {I : IM} {l : List UInt8} {a : Option Addr} {k c r e : Nat} (hl : BSl I l (.slice a k c)) (hn9 : l.length ≤ 1000000) {q : Nat} : FunM Tryd.prog 96 #[.pointer (some ⟨r, 0, none⟩), .int .i64 ((q : Nat) : Int)] I [(r, .cells #[.slice a k c, .int .i64 ((e : Nat) : Int)] 126)] (fun v J H' => ∃ b' : OB, H' = [b'] ∧ b'.1 = r ∧ ∃ (a' : Option Addr) (k' c' : Nat), v = .tuple #[] ∧ b' = (r, .cells #[.slice a' k' c', .int .i64 ((faE q e : Nat) : Int)] 126) ∧ BSl J l (.slice a' k' c')) := by
  have h := failG_c (r := r) (e := e) (q := q) hl hn9
  rw [List.drop_zero] at h; exact h
/-- a field that is read: its kind, label, value; how many bytes go, the error -/
structure Fd where
  k : Nat
  a : List UInt8
  v : List UInt8
  d : Nat
  e : Nat
noncomputable def fdG (l : List UInt8) (e z1 z2 : Nat) : Fd :=
  ⟨byV l e, teV (l.drop (byD l e)) (byE l e) ((z1 : Nat) : Int), teV ((l.drop (byD l e)).drop (teD (l.drop (byD l e)) (byE l e) ((z1 : Nat) : Int))) (teE (l.drop (byD l e)) (byE l e) ((z1 : Nat) : Int)) ((z2 : Nat) : Int),
   byD l e + teD (l.drop (byD l e)) (byE l e) ((z1 : Nat) : Int) + teD ((l.drop (byD l e)).drop (teD (l.drop (byD l e)) (byE l e) ((z1 : Nat) : Int))) (teE (l.drop (byD l e)) (byE l e) ((z1 : Nat) : Int)) ((z2 : Nat) : Int),
   teE ((l.drop (byD l e)).drop (teD (l.drop (byD l e)) (byE l e) ((z1 : Nat) : Int))) (teE (l.drop (byD l e)) (byE l e) ((z1 : Nat) : Int)) ((z2 : Nat) : Int)⟩
/-- how many there are -/
noncomputable def coG (l : List UInt8) (e most q : Nat) : Nat × Nat := if most < nuV l e then (0, faE q (nuE l e)) else (nuV l e, nuE l e)

theorem byV_lt (l : List UInt8) (e : Nat) : byV l e < 256 := by
  unfold byV; split
  · exact UInt8.toNat_lt _
  · decide

set_option maxHeartbeats 2000000 in
theorem getField_c {I : IM} {l : List UInt8} {a : Option Addr} {k c r e : Nat} (hl : BSl I l (.slice a k c)) (hn9 : l.length ≤ 1000000) {z1 z2 : Nat} (hz1 : z1 < 9223372036854775808) (hz2 : z2 < 9223372036854775808) : FunM Tryd.prog 95 #[.pointer (some ⟨r, 0, none⟩), .int .i64 ((z1 : Nat) : Int), .int .i64 ((z2 : Nat) : Int)] I [(r, .cells #[.slice a k c, .int .i64 ((e : Nat) : Int)] 126)] (fun v J H' => ∃ b' : OB, H' = [b'] ∧ b'.1 = r ∧ ∃ (K : Nat) (A V : List UInt8) (E D : Nat) (L : List UInt8) (a' : Option Addr) (k' c' : Nat), v = .agg #[.int .i64 ((K : Nat) : Int), .string ⟨A.toArray⟩, .string ⟨V.toArray⟩] ∧ b' = (r, .cells #[.slice a' k' c', .int .i64 ((E : Nat) : Int)] 126) ∧ BSl J L (.slice a' k' c') ∧ fdG l e z1 z2 = ⟨K, A, V, D, E⟩ ∧ K < 256 ∧ l.drop D = L) := by
  obtain ⟨rfl, -⟩ := hl.cap
  refine enterM_rule 23 [(0, .pointer (some ⟨r, 0, none⟩)), (1, .int .i64 ((z1 : Nat) : Int)), (2, .int .i64 ((z2 : Nat) : Int))] Tryd.func95 rfl (by kernel_rfl) ?_
  intro w s
  refine wp_seq ?_
  refine region_rule ?_
  refine ops_rule (C := []) [(r, .cells #[.slice a l.length c, .int .i64 ((e : Nat) : Int)] 126)] [] 1 [] 1 (fun φ1 => [(6, .pointer (some ⟨(φ1 0), 0, none⟩))]) (fun φ1 => [(r, .cells #[.slice a l.length c, .int .i64 ((e : Nat) : Int)] 126), ((φ1 0), .cells #[.int .i64 0, .string ⟨#[]⟩, .string ⟨#[]⟩] 39)]) (fun φ1 => []) s trivial (fun φ1 => by kernel_rfl) ?_
  intro φ1 w1 s
  refine ops_done (by kernel_rfl) ?_
  refine wp_seq ?_
  refine region_rule ?_
  refine ops_rule (C := []) [(r, .cells #[.slice a l.length c, .int .i64 ((e : Nat) : Int)] 126), ((φ1 0), .cells #[.int .i64 0, .string ⟨#[]⟩, .string ⟨#[]⟩] 39)] [] 1 [] 0 (fun φ2 => [(10, .pointer (some ⟨r, 0, none⟩))]) (fun φ2 => [(r, .cells #[.slice a l.length c, .int .i64 ((e : Nat) : Int)] 126), ((φ1 0), .cells #[.int .i64 0, .string ⟨#[]⟩, .string ⟨#[]⟩] 39)]) (fun φ2 => []) s trivial (fun φ2 => by kernel_rfl) ?_
  intro φ2 w2 s
  refine callB_rule (b := (r, .cells #[.slice a l.length c, .int .i64 ((e : Nat) : Int)] 126)) (H := [(r, .cells #[.slice a l.length c, .int .i64 ((e : Nat) : Int)] 126), ((φ1 0), .cells #[.int .i64 0, .string ⟨#[]⟩, .string ⟨#[]⟩] 39)]) (F := []) (Hr := [((φ1 0), .cells #[.int .i64 0, .string ⟨#[]⟩, .string ⟨#[]⟩] 39)]) (some 11) 0 s (by kernel_rfl) (by kernel_rfl) (byteV_c (r := r) (e := e) hl hn9) (by kernel_rfl) ?_
  rintro v3 I3 w3 b3 le3 - h3 s
  replace hl := BSl.mono le3 hl
  obtain ⟨V3, E3, D3, L3, a3, k3, c3, rfl, rfl, h3_0, h3_1, h3_2, h3_3, h3_4⟩ := h3
  refine ops_rule (C := []) [(r, .cells #[.slice a3 k3 c3, .int .i64 ((E3 : Nat) : Int)] 126), ((φ1 0), .cells #[.int .i64 0, .string ⟨#[]⟩, .string ⟨#[]⟩] 39)] [] 1 [] 0 (fun φ4 => [(7, .int .u8 ((V3 : Nat) : Int))]) (fun φ4 => [(r, .cells #[.slice a3 k3 c3, .int .i64 ((E3 : Nat) : Int)] 126), ((φ1 0), .cells #[.int .i64 0, .string ⟨#[]⟩, .string ⟨#[]⟩] 39)]) (fun φ4 => []) s trivial (fun φ4 => by kernel_rfl) ?_
  intro φ4 w4 s
  refine ops_done (by kernel_rfl) ?_
  refine wp_seq ?_
  refine region_rule ?_
  refine ops_rule (C := []) [(r, .cells #[.slice a3 k3 c3, .int .i64 ((E3 : Nat) : Int)] 126), ((φ1 0), .cells #[.int .i64 0, .string ⟨#[]⟩, .string ⟨#[]⟩] 39)] [] 2 [] 0 (fun φ5 => [(13, .int .i64 ((z1 : Nat) : Int)), (12, .pointer (some ⟨r, 0, none⟩))]) (fun φ5 => [(r, .cells #[.slice a3 k3 c3, .int .i64 ((E3 : Nat) : Int)] 126), ((φ1 0), .cells #[.int .i64 0, .string ⟨#[]⟩, .string ⟨#[]⟩] 39)]) (fun φ5 => []) s trivial (fun φ5 => by kernel_rfl) ?_
  intro φ5 w5 s
  refine callB_rule (b := (r, .cells #[.slice a3 k3 c3, .int .i64 ((E3 : Nat) : Int)] 126)) (H := [(r, .cells #[.slice a3 k3 c3, .int .i64 ((E3 : Nat) : Int)] 126), ((φ1 0), .cells #[.int .i64 0, .string ⟨#[]⟩, .string ⟨#[]⟩] 39)]) (F := []) (Hr := [((φ1 0), .cells #[.int .i64 0, .string ⟨#[]⟩, .string ⟨#[]⟩] 39)]) (some 14) 0 s (by kernel_rfl) (by kernel_rfl) (textV_c (r := r) (e := E3) h3_0 (drop_len9 h3_4 hn9) (z := z1) (by omega)) (by kernel_rfl) ?_
  rintro v6 I6 w6 b6 le6 - h6 s
  replace hl := BSl.mono le6 hl
  replace h3_0 := BSl.mono le6 h3_0
  obtain ⟨S6, E6, D6, L6, a6, k6, c6, rfl, rfl, h6_0, h6_1, h6_2, h6_3, h6_4⟩ := h6
  refine ops_rule (C := []) [(r, .cells #[.slice a6 k6 c6, .int .i64 ((E6 : Nat) : Int)] 126), ((φ1 0), .cells #[.int .i64 0, .string ⟨#[]⟩, .string ⟨#[]⟩] 39)] [] 1 [] 0 (fun φ7 => [(8, .string ⟨(S6).toArray⟩)]) (fun φ7 => [(r, .cells #[.slice a6 k6 c6, .int .i64 ((E6 : Nat) : Int)] 126), ((φ1 0), .cells #[.int .i64 0, .string ⟨#[]⟩, .string ⟨#[]⟩] 39)]) (fun φ7 => []) s trivial (fun φ7 => by kernel_rfl) ?_
  intro φ7 w7 s
  refine ops_done (by kernel_rfl) ?_
  refine wp_seq ?_
  refine region_rule ?_
  refine ops_rule (C := []) [(r, .cells #[.slice a6 k6 c6, .int .i64 ((E6 : Nat) : Int)] 126), ((φ1 0), .cells #[.int .i64 0, .string ⟨#[]⟩, .string ⟨#[]⟩] 39)] [] 2 [] 0 (fun φ8 => [(16, .int .i64 ((z2 : Nat) : Int)), (15, .pointer (some ⟨r, 0, none⟩))]) (fun φ8 => [(r, .cells #[.slice a6 k6 c6, .int .i64 ((E6 : Nat) : Int)] 126), ((φ1 0), .cells #[.int .i64 0, .string ⟨#[]⟩, .string ⟨#[]⟩] 39)]) (fun φ8 => []) s trivial (fun φ8 => by kernel_rfl) ?_
  intro φ8 w8 s
  refine callB_rule (b := (r, .cells #[.slice a6 k6 c6, .int .i64 ((E6 : Nat) : Int)] 126)) (H := [(r, .cells #[.slice a6 k6 c6, .int .i64 ((E6 : Nat) : Int)] 126), ((φ1 0), .cells #[.int .i64 0, .string ⟨#[]⟩, .string ⟨#[]⟩] 39)]) (F := []) (Hr := [((φ1 0), .cells #[.int .i64 0, .string ⟨#[]⟩, .string ⟨#[]⟩] 39)]) (some 17) 0 s (by kernel_rfl) (by kernel_rfl) (textV_c (r := r) (e := E6) h6_0 (drop_len9 h6_4 (drop_len9 h3_4 hn9)) (z := z2) (by omega)) (by kernel_rfl) ?_
  rintro v9 I9 w9 b9 le9 - h9 s
  replace hl := BSl.mono le9 hl
  replace h3_0 := BSl.mono le9 h3_0
  replace h6_0 := BSl.mono le9 h6_0
  obtain ⟨S9, E9, D9, L9, a9, k9, c9, rfl, rfl, h9_0, h9_1, h9_2, h9_3, h9_4⟩ := h9
  refine ops_rule (C := []) [(r, .cells #[.slice a9 k9 c9, .int .i64 ((E9 : Nat) : Int)] 126), ((φ1 0), .cells #[.int .i64 0, .string ⟨#[]⟩, .string ⟨#[]⟩] 39)] [] 1 [] 0 (fun φ10 => [(9, .string ⟨(S9).toArray⟩)]) (fun φ10 => [(r, .cells #[.slice a9 k9 c9, .int .i64 ((E9 : Nat) : Int)] 126), ((φ1 0), .cells #[.int .i64 0, .string ⟨#[]⟩, .string ⟨#[]⟩] 39)]) (fun φ10 => []) s trivial (fun φ10 => by kernel_rfl) ?_
  intro φ10 w10 s
  refine ops_done (by kernel_rfl) ?_
  refine wp_seq ?_
  refine region_rule ?_
  refine ops_rule (C := []) [(r, .cells #[.slice a9 k9 c9, .int .i64 ((E9 : Nat) : Int)] 126), ((φ1 0), .cells #[.int .i64 0, .string ⟨#[]⟩, .string ⟨#[]⟩] 39)] [] 6 [.o 1, .o 1, .o 1] 0 (fun φ11 => [(22, .agg #[.int .i64 (IntKind.wrap .i64 ((V3 : Nat) : Int)), .string ⟨(S6).toArray⟩, .string ⟨(S9).toArray⟩]), (21, .string ⟨(S9).toArray⟩), (20, .string ⟨(S6).toArray⟩), (19, .int .i64 (IntKind.wrap .i64 ((V3 : Nat) : Int))), (18, .int .u8 ((V3 : Nat) : Int))]) (fun φ11 => [(r, .cells #[.slice a9 k9 c9, .int .i64 ((E9 : Nat) : Int)] 126), ((φ1 0), .cells #[.int .i64 (IntKind.wrap .i64 ((V3 : Nat) : Int)), .string ⟨(S6).toArray⟩, .string ⟨(S9).toArray⟩] 39)]) (fun φ11 => [(φ1 0), (φ1 0), (φ1 0)]) s trivial (fun φ11 => by kernel_rfl) ?_
  intro φ11 w11 s
  rw [nat_wrapI (a := V3) (by have h9 := byV_lt l e; rw [h3_1] at h9; omega)] at s ⊢
  refine ops_done (by kernel_rfl) ?_
  refine wp_ret ?_
  refine ret_rule (C := []) [(r, .cells #[.slice a9 k9 c9, .int .i64 ((E9 : Nat) : Int)] 126), ((φ1 0), .cells #[.int .i64 ((V3 : Nat) : Int), .string ⟨(S6).toArray⟩, .string ⟨(S9).toArray⟩] 39)] [] (.agg #[.int .i64 ((V3 : Nat) : Int), .string ⟨(S6).toArray⟩, .string ⟨(S9).toArray⟩]) [.o 1, .o 1, .o 1] [(φ1 0), (φ1 0), (φ1 0)] s trivial (by kernel_rfl) ?_
  replace s := s.drop (List.Sublist.append (List.Sublist.cons₂ _ (List.Sublist.cons _ List.Sublist.slnil)) (List.Sublist.refl []))
  have e9 : fdG l e z1 z2 = ⟨V3, S6, S9, D3 + D6 + D9, E9⟩ := by unfold fdG; simp only [h3_1, h3_2, h3_3, h3_4, h6_1, h6_2, h6_3, h6_4, h9_1, h9_2, h9_3, h9_4]
  have hK : V3 < 256 := by have h9 := byV_lt l e; rw [h3_1] at h9; exact h9
  exact ⟨_, _, _, rfl, s, ⟨_, rfl, rfl, V3, S6, S9, _, _, _, _, _, _, rfl, rfl, h9_0, e9, hK, (by simp only [← List.drop_drop, h3_4, h6_4, h9_4])⟩⟩

set_option maxHeartbeats 2000000 in
theorem count_c {I : IM} {l : List UInt8} {a : Option Addr} {k c r e : Nat} (hl : BSl I l (.slice a k c)) (hn9 : l.length ≤ 1000000) {most q : Nat} (hm : most < 9223372036854775808) : FunM Tryd.prog 94 #[.pointer (some ⟨r, 0, none⟩), .int .u64 ((most : Nat) : Int), .int .i64 ((q : Nat) : Int)] I [(r, .cells #[.slice a k c, .int .i64 ((e : Nat) : Int)] 126)] (fun v J H' => ∃ b' : OB, H' = [b'] ∧ b'.1 = r ∧ ∃ (N E D : Nat) (L : List UInt8) (a' : Option Addr) (k' c' : Nat), v = .int .i64 ((N : Nat) : Int) ∧ b' = (r, .cells #[.slice a' k' c', .int .i64 ((E : Nat) : Int)] 126) ∧ BSl J L (.slice a' k' c') ∧ coG l e most q = (N, E) ∧ nuD l e = D ∧ l.drop D = L) := by
  obtain ⟨rfl, -⟩ := hl.cap
  refine enterM_rule 18 [(0, .pointer (some ⟨r, 0, none⟩)), (1, .int .u64 ((most : Nat) : Int)), (2, .int .i64 ((q : Nat) : Int))] Tryd.func94 rfl (by kernel_rfl) ?_
  intro w s
  refine wp_seq ?_
  refine region_rule ?_
  refine ops_rule (C := []) [(r, .cells #[.slice a l.length c, .int .i64 ((e : Nat) : Int)] 126)] [] 1 [] 0 (fun φ1 => [(6, .int .i64 0)]) (fun φ1 => [(r, .cells #[.slice a l.length c, .int .i64 ((e : Nat) : Int)] 126)]) (fun φ1 => []) s trivial (fun φ1 => by kernel_rfl) ?_
  intro φ1 w1 s
  refine ops_done (by kernel_rfl) ?_
  refine wp_seq ?_
  refine region_rule ?_
  refine ops_rule (C := []) [(r, .cells #[.slice a l.length c, .int .i64 ((e : Nat) : Int)] 126)] [] 1 [] 0 (fun φ2 => [(8, .pointer (some ⟨r, 0, none⟩))]) (fun φ2 => [(r, .cells #[.slice a l.length c, .int .i64 ((e : Nat) : Int)] 126)]) (fun φ2 => []) s trivial (fun φ2 => by kernel_rfl) ?_
  intro φ2 w2 s
  refine callB_rule (b := (r, .cells #[.slice a l.length c, .int .i64 ((e : Nat) : Int)] 126)) (H := [(r, .cells #[.slice a l.length c, .int .i64 ((e : Nat) : Int)] 126)]) (F := []) (Hr := []) (some 9) 0 s (by kernel_rfl) (by kernel_rfl) (numV_c (r := r) (e := e) hl hn9) (by kernel_rfl) ?_
  rintro v3 I3 w3 b3 le3 - h3 s
  replace hl := BSl.mono le3 hl
  obtain ⟨V3, E3, D3, L3, a3, k3, c3, rfl, rfl, h3_0, h3_1, h3_2, h3_3, h3_4⟩ := h3
  refine ops_rule (C := []) [(r, .cells #[.slice a3 k3 c3, .int .i64 ((E3 : Nat) : Int)] 126)] [] 1 [] 0 (fun φ4 => [(7, .int .u64 ((V3 : Nat) : Int))]) (fun φ4 => [(r, .cells #[.slice a3 k3 c3, .int .i64 ((E3 : Nat) : Int)] 126)]) (fun φ4 => []) s trivial (fun φ4 => by kernel_rfl) ?_
  intro φ4 w4 s
  refine ops_done (by kernel_rfl) ?_
  refine wp_seq ?_
  refine wp_seq ?_
  refine region_rule ?_
  refine ops_rule (C := []) [(r, .cells #[.slice a3 k3 c3, .int .i64 ((E3 : Nat) : Int)] 126)] [] 3 [] 0 (fun φ5 => [(12, .bool (decide (((V3 : Nat) : Int) > ((most : Nat) : Int)))), (11, .int .u64 ((most : Nat) : Int)), (10, .int .u64 ((V3 : Nat) : Int))]) (fun φ5 => [(r, .cells #[.slice a3 k3 c3, .int .i64 ((E3 : Nat) : Int)] 126)]) (fun φ5 => []) s trivial (fun φ5 => by kernel_rfl) ?_
  intro φ5 w5 s
  rw [nat_gtr (a := V3) (b := most)]
  refine ops_done (by kernel_rfl) ?_
  rcases Bool.eq_false_or_eq_true (decide (most < V3)) with hc6 | hc6
  ·
    rw [hc6]
    refine cond_true_rule (b := true) (by kernel_rfl) rfl ?_
    refine wp_seq ?_
    refine region_rule ?_
    refine ops_rule (C := []) [(r, .cells #[.slice a3 k3 c3, .int .i64 ((E3 : Nat) : Int)] 126)] [] 2 [] 0 (fun φ7 => [(14, .int .i64 ((q : Nat) : Int)), (13, .pointer (some ⟨r, 0, none⟩))]) (fun φ7 => [(r, .cells #[.slice a3 k3 c3, .int .i64 ((E3 : Nat) : Int)] 126)]) (fun φ7 => []) s trivial (fun φ7 => by kernel_rfl) ?_
    intro φ7 w7 s
    refine callB_rule (b := (r, .cells #[.slice a3 k3 c3, .int .i64 ((E3 : Nat) : Int)] 126)) (H := [(r, .cells #[.slice a3 k3 c3, .int .i64 ((E3 : Nat) : Int)] 126)]) (F := []) (Hr := []) (some 15) 0 s (by kernel_rfl) (by kernel_rfl) (failV_c (r := r) (e := E3) (q := q) h3_0 (drop_len9 h3_4 hn9)) (by kernel_rfl) ?_
    rintro v8 I8 w8 b8 le8 - h8 s
    replace hl := BSl.mono le8 hl
    replace h3_0 := BSl.mono le8 h3_0
    obtain ⟨a8, k8, c8, rfl, rfl, h8_0⟩ := h8
    refine ops_done (by kernel_rfl) ?_
    refine wp_seq ?_
    refine region_rule ?_
    refine ops_rule (C := []) [(r, .cells #[.slice a8 k8 c8, .int .i64 ((faE q E3 : Nat) : Int)] 126)] [] 1 [] 0 (fun φ9 => [(6, .int .i64 0)]) (fun φ9 => [(r, .cells #[.slice a8 k8 c8, .int .i64 ((faE q E3 : Nat) : Int)] 126)]) (fun φ9 => []) s trivial (fun φ9 => by kernel_rfl) ?_
    intro φ9 w9 s
    refine ops_done (by kernel_rfl) ?_
    refine wp_ret ?_
    refine ret_rule (C := []) [(r, .cells #[.slice a8 k8 c8, .int .i64 ((faE q E3 : Nat) : Int)] 126)] [] (.int .i64 0) [] [] s trivial (by kernel_rfl) ?_
    replace s := s.drop (List.Sublist.append (List.Sublist.cons₂ _ List.Sublist.slnil) (List.Sublist.refl []))
    have e9 : coG l e most q = (0, faE q E3) := by unfold coG; simp [h3_1, h3_2, h3_3, h3_4, of_decide_eq_true hc6]
    exact ⟨_, _, _, rfl, s, ⟨_, rfl, rfl, _, _, _, _, _, _, _, rfl, rfl, h8_0, e9, h3_3, (by simp only [← List.drop_drop, h3_4])⟩⟩
  ·
    rw [hc6]
    refine cond_false_rule (b := false) (by kernel_rfl) rfl ?_
    refine wp_skip ?_
    refine wp_seq ?_
    refine region_rule ?_
    refine ops_rule (C := []) [(r, .cells #[.slice a3 k3 c3, .int .i64 ((E3 : Nat) : Int)] 126)] [] 3 [] 0 (fun φ10 => [(6, .int .i64 (IntKind.wrap .i64 ((V3 : Nat) : Int))), (17, .int .i64 (IntKind.wrap .i64 ((V3 : Nat) : Int))), (16, .int .u64 ((V3 : Nat) : Int))]) (fun φ10 => [(r, .cells #[.slice a3 k3 c3, .int .i64 ((E3 : Nat) : Int)] 126)]) (fun φ10 => []) s trivial (fun φ10 => by kernel_rfl) ?_
    intro φ10 w10 s
    rw [nat_wrapI (a := V3) (by have hq0 := of_decide_eq_false hc6; omega)]
    refine ops_done (by kernel_rfl) ?_
    refine wp_ret ?_
    refine ret_rule (C := []) [(r, .cells #[.slice a3 k3 c3, .int .i64 ((E3 : Nat) : Int)] 126)] [] (.int .i64 ((V3 : Nat) : Int)) [] [] s trivial (by kernel_rfl) ?_
    replace s := s.drop (List.Sublist.append (List.Sublist.cons₂ _ List.Sublist.slnil) (List.Sublist.refl []))
    have e9 : coG l e most q = (V3, E3) := by unfold coG; simp [h3_1, h3_2, h3_3, h3_4, of_decide_eq_false hc6]
    exact ⟨_, _, _, rfl, s, ⟨_, rfl, rfl, _, _, _, _, _, _, _, rfl, rfl, h3_0, e9, h3_3, (by simp only [← List.drop_drop, h3_4])⟩⟩

end Go.Proofs.YtcpmjogeafhpnaaDoor
/- Slices of bytes that are never written: read, cut; rows of bytes; bits of numbers. -/
set_option linter.all false
set_option maxRecDepth 100000
namespace Go.Proofs.YtcpmjogeafhpnaaDoor.Tx
open Go.RowKit Go.Sep

def bV (x : UInt8) : Value := .int .u8 ((x.toNat : Nat) : Int)
def BSl (I : IM) (l : List UInt8) (v : Value) : Prop := ∃ a cap, v = .slice a l.length cap ∧ l.length ≤ cap ∧ ∀ j x, l[j]? = some x → ∃ b o cs T fr, a = some ⟨b, o, none⟩ ∧ I b = some (.cells cs T fr) ∧ cs[o + j]? = some (.int .u8 ((x.toNat : Nat) : Int))
theorem BSl.mono {I J : IM} (le : I.Le J) {l : List UInt8} {v : Value} (h : BSl I l v) : BSl J l v := by
  obtain ⟨a, cap, hv, hc, hr⟩ := h
  refine ⟨a, cap, hv, hc, fun j x hj => ?_⟩
  obtain ⟨b, o, cs, T, fr, h1, h2, h3⟩ := hr j x hj
  exact ⟨b, o, cs, T, fr, h1, le _ _ h2, h3⟩
theorem BSl.cap {I : IM} {l : List UInt8} {a : Option Addr} {n c : Nat} (h : BSl I l (.slice a n c)) : n = l.length ∧ l.length ≤ c := by
  obtain ⟨a', c', hv, hc, _⟩ := h
  cases hv; exact ⟨rfl, hc⟩
theorem BSl.open {I : IM} {l : List UInt8} {v : Value} (h : BSl I l v) : ∃ a c, v = .slice a l.length c ∧ l.length ≤ c ∧ BSl I l (.slice a l.length c) := by
  obtain ⟨a, c, hv, hc, _⟩ := id h
  subst hv
  exact ⟨a, c, rfl, hc, h⟩
theorem addr_addO (b o k : Nat) : (⟨b, o, none⟩ : Addr).add k = ⟨b, o + k, none⟩ := by unfold Addr.add; split <;> simp_all
theorem getD_some {l : List UInt8} {i : Nat} (h : i < l.length) : l[i]? = some (l.getD i 0) := by simp [h]
theorem row_nilB : RowH 5 1 (.slice none 0 0) 0 (([] : List UInt8).map bV) [] := RowH.nil 5 1
/-- bits -/
def bxor (k a b : Nat) : Nat := (BitVec.ofNat k a ^^^ BitVec.ofNat k b).toNat
def band (k a b : Nat) : Nat := (BitVec.ofNat k a &&& BitVec.ofNat k b).toNat
def bor (k a b : Nat) : Nat := (BitVec.ofNat k a ||| BitVec.ofNat k b).toNat
def bandn (k a b : Nat) : Nat := (BitVec.ofNat k a &&& ~~~ BitVec.ofNat k b).toNat
theorem wrapN8 (n : Nat) (h : n < 256) : IntKind.wrap .u8 (n : Int) = (n : Int) := by simp only [IntKind.wrap, IntKind.signed, IntKind.bits]; simp; omega
theorem run_bit8 {w : World} {t : TypeId} {a b : Nat} :
    (binOp .xor t (.int .u8 ((a : Nat) : Int)) (.int .u8 ((b : Nat) : Int))).run Tryd.prog w = .ok (.int .u8 ((bxor 8 a b : Nat) : Int)) w ∧
    (binOp .and t (.int .u8 ((a : Nat) : Int)) (.int .u8 ((b : Nat) : Int))).run Tryd.prog w = .ok (.int .u8 ((band 8 a b : Nat) : Int)) w ∧
    (binOp .or t (.int .u8 ((a : Nat) : Int)) (.int .u8 ((b : Nat) : Int))).run Tryd.prog w = .ok (.int .u8 ((bor 8 a b : Nat) : Int)) w ∧
    (binOp .andNot t (.int .u8 ((a : Nat) : Int)) (.int .u8 ((b : Nat) : Int))).run Tryd.prog w = .ok (.int .u8 ((bandn 8 a b : Nat) : Int)) w := by
  refine ⟨?_, ?_, ?_, ?_⟩ <;> simp only [binOp, Op.intBits, ne_eq, not_true_eq_false, if_false, IntKind.bits, BitVec.ofInt_natCast, Sem.run_pure] <;> rw [wrapN8 _ (BitVec.isLt _)] <;> rfl
theorem run_shrU {w : World} {t : TypeId} {a n : Nat} {k yk : IntKind} (ha : a < 2 ^ k.bits) : (binOp .shr t (.int k ((a : Nat) : Int)) (.int yk ((n : Nat) : Int))).run Tryd.prog w = .ok (.int k ((a / 2 ^ n : Nat) : Int)) w := by
  rw [run_shr]
  congr 2
  have : ((a : Nat) : Int).fdiv (2 ^ min n k.bits) = ((a / 2 ^ min n k.bits : Nat) : Int) := by
    rw [Int.fdiv_eq_ediv_of_nonneg _ (Int.pow_nonneg (by omega))]
    simp
  rw [this]
  by_cases h : n ≤ k.bits
  · rw [Nat.min_eq_left h]
  · rw [Nat.min_eq_right (by omega), Nat.div_eq_of_lt ha, Nat.div_eq_of_lt (Nat.lt_of_lt_of_le ha (Nat.pow_le_pow_right (by decide) (by omega)))]
end Go.Proofs.YtcpmjogeafhpnaaDoor.Tx

/- Numbers of 8 and 32 bits; slices of literals; a marked block. -/
set_option linter.all false
set_option maxRecDepth 100000
namespace Go.Proofs.YtcpmjogeafhpnaaDoor.Tx
open Go.RowKit Go.Sep

theorem bsl_lit {I : IM} {b n : Nat} {cs : Array Value} {T : TypeId} {fr : Nat × Nat} {l : List UInt8} (h : I b = some (.cells cs T fr)) (hc : cs.toList = l.map bV) (hn : n = l.length) : BSl I l (.slice (some ⟨b, 0, none⟩) n n) := by
  subst hn
  refine ⟨_, _, rfl, Nat.le_refl _, fun j x hj => ⟨b, 0, cs, T, fr, rfl, h, ?_⟩⟩
  have : cs.toList[j]? = some (bV x) := by rw [hc, List.getElem?_map, hj]; rfl
  rw [Nat.zero_add]
  have h2 : cs[j]? = some (bV x) := by simpa using this
  exact h2
theorem under5 : Tryd.prog.underlying 5 = some (.int .u8) := by kernel_rfl
def rounds_step {P : Program} {c : Code} {Q : Exit → Act → World → Prop} {n : Nat} {a : Act} {w : World} (h : c.wp P (Exit.then (Code.rounds P c Q n) Q) a w) : Code.rounds P c Q (n + 1) a w := by
  rw [Go.rounds_succ]; exact h
theorem leMono {A I J : IM} (le : I.Le J) (h : A.Le I) : A.Le J := h.trans le
theorem drop_cons {s : List UInt8} {k : Nat} (h : k < s.length) : s.drop k = s.getD k 0 :: s.drop (k + 1) := by
  rw [List.drop_eq_getElem_cons h]; simp [h]
end Go.Proofs.YtcpmjogeafhpnaaDoor.Tx

/- Rows of bytes that grow. -/
set_option linter.all false
set_option maxRecDepth 100000
namespace Go.Proofs.YtcpmjogeafhpnaaDoor.Tx
open Go.RowKit Go.Sep
theorem cell_byte {a : Nat} (h : a < 256) : Value.int .u8 ((a : Nat) : Int) = bV (UInt8.ofNat a) := by
  unfold bV; rw [UInt8.toNat_ofNat_of_lt' h]
theorem cells_bytes1 {a : Nat} (h : a < 256) : [Value.int .u8 ((a : Nat) : Int)] = [bV (UInt8.ofNat a)] := by rw [cell_byte h]
end Go.Proofs.YtcpmjogeafhpnaaDoor.Tx

/- Strings: what operations on them answer. -/
set_option linter.all false
set_option maxRecDepth 100000
namespace Go.Proofs.YtcpmjogeafhpnaaDoor.Tx
open Go.RowKit Go.Sep

theorem under9 : Tryd.prog.underlying 9 = some .string := by kernel_rfl
theorem take_string {s : List UInt8} {hi : Nat} : (⟨s.toArray⟩ : ByteArray).extract 0 hi = ⟨(s.take hi).toArray⟩ := by
  apply ByteArray.ext
  rw [ByteArray.data_extract]
  apply Array.ext'
  simp only [Array.toList_extract, List.extract_eq_take_drop]
  simp
theorem mid_string {s : List UInt8} {lo hi : Nat} : (⟨s.toArray⟩ : ByteArray).extract lo hi = ⟨((s.drop lo).take (hi - lo)).toArray⟩ := by
  apply ByteArray.ext
  rw [ByteArray.data_extract]
  apply Array.ext'
  simp only [Array.toList_extract, List.extract_eq_take_drop]
theorem run_takeS {w : World} {s : List UInt8} {hi : Nat} (h : hi ≤ s.length) :
    (Instr.sliceAt 9 (.string ⟨s.toArray⟩) none (some (.int .i64 ((hi : Nat) : Int))) none).run Tryd.prog w = .ok (.string ⟨(s.take hi).toArray⟩) w := by
  rw [run_sliceStrTo under9 (by exact h), take_string]
/-- a range over a string begins -/
theorem range_new {w0 : World} {I0 : IM} {m : List Nat} {I : IM} {w : World} {H : List OB} (s : St w0 I0 m I w (H ++ [])) (x : ByteArray) :
    ∃ k w', (Instr.range 9 (.string x)).run Tryd.prog w = .ok (.pointer (some ⟨k, 0, none⟩)) w' ∧ St w0 I0 m I w' ((H ++ [(k, .stringIter x 0)]) ++ []) := by
  rw [List.append_nil] at s
  refine ⟨w.heap.size, { w with heap := w.heap.push (.stringIter x 0) }, ?_, ?_⟩
  · simp [Instr.range, run_underlying under9, newObj, Sem.run]
  · rw [List.append_nil]; exact s.push _
/-- the sign at a place, and how many bytes it has -/
def dR (l : List UInt8) (p : Nat) : Nat := (Lib.decodeL (l.drop p)).1
def dW (l : List UInt8) (p : Nat) : Nat := (Lib.decodeL (l.drop p)).2
theorem dec_at (l : List UInt8) (p : Nat) : Utf8.decode ⟨l.toArray⟩ p = Lib.decodeL (l.drop p) := (Lib.decodeL_drop ⟨l.toArray⟩ p).symm
theorem next_own {w0 : World} {I0 : IM} {m : List Nat} {I : IM} {w : World} {k pos : Nat} {l : List UInt8} {ty : TypeId} (s : St w0 I0 m I w ([(k, .stringIter ⟨l.toArray⟩ pos)] ++ [])) (h : pos < l.length) :
    ∃ w', (Instr.next (.pointer (some ⟨k, 0, none⟩)) true ty).run Tryd.prog w = .ok (.tuple #[.bool true, .int .i64 ((pos : Nat) : Int), .int .i32 ((dR l pos : Nat) : Int)]) w' ∧ St w0 I0 m I w' ([(k, .stringIter ⟨l.toArray⟩ (pos + dW l pos))] ++ []) := by
  rw [List.append_nil] at s
  have hk : w.heap[k]? = some (.stringIter ⟨l.toArray⟩ pos) := s.own (k, _) (by simp)
  have hlt : k < w.heap.size := heap_lt hk
  have hp : pos < (⟨l.toArray⟩ : ByteArray).size := h
  refine ⟨{ w with heap := w.heap.set k (.stringIter ⟨l.toArray⟩ (pos + dW l pos)) hlt }, ?_, ?_⟩
  · simp only [Instr.next, getObj, setObj, Sem.run_bind, Sem.run, hk, Result.andThen, hp, if_true, dec_at]
    simp [goInt, hlt, dR, dW, Array.setIfInBounds]
  · rw [List.append_nil]
    have := St.set (i := 0) (k := k) (o' := .stringIter ⟨l.toArray⟩ (pos + dW l pos)) (w' := { w with heap := w.heap.set k (.stringIter ⟨l.toArray⟩ (pos + dW l pos)) hlt }) s rfl rfl rfl rfl (by simp) (by simp) (fun q hq => by
      simp only [Array.getElem?_set]; rw [if_neg (fun h => hq h.symm)])
    exact this
theorem next_end {w0 : World} {I0 : IM} {m : List Nat} {I : IM} {w : World} {k pos : Nat} {l : List UInt8} {ty : TypeId} (s : St w0 I0 m I w ([(k, .stringIter ⟨l.toArray⟩ pos)] ++ [])) (h : ¬ pos < l.length) :
    (Instr.next (.pointer (some ⟨k, 0, none⟩)) true ty).run Tryd.prog w = .ok (.tuple #[.bool false]) w := by
  have hk : w.heap[k]? = some (.stringIter ⟨l.toArray⟩ pos) := s.own (k, _) (by simp)
  have hp : ¬ pos < (⟨l.toArray⟩ : ByteArray).size := h
  simp [Instr.next, getObj, Sem.run, hk, hp]
end Go.Proofs.YtcpmjogeafhpnaaDoor.Tx

/- The signs of a text, one by one. -/
set_option linter.all false
set_option maxRecDepth 100000
namespace Go.Proofs.YtcpmjogeafhpnaaDoor.Tx
open Go.RowKit Go.Sep Go.Lib

def stepsF : Nat → List UInt8 → List (Nat × Nat)
  | 0, _ => []
  | n + 1, l => if l = [] then [] else decodeL l :: stepsF n (l.drop (decodeL l).2)
def steps (l : List UInt8) : List (Nat × Nat) := stepsF l.length l
theorem stepsF_nil : ∀ n, stepsF n [] = []
  | 0 => rfl
  | n + 1 => by simp [stepsF]
theorem stepsF_more : ∀ (n k : Nat) (l : List UInt8), l.length ≤ n → l.length ≤ k → stepsF n l = stepsF k l
  | 0, k, l, h, _ => by
    have : l = [] := List.length_eq_zero_iff.1 (by omega)
    subst this; rw [stepsF_nil, stepsF_nil]
  | n + 1, 0, l, _, h => by
    have : l = [] := List.length_eq_zero_iff.1 (by omega)
    subst this; rw [stepsF_nil, stepsF_nil]
  | n + 1, k + 1, l, h, h2 => by
    unfold stepsF
    split
    · rfl
    · rename_i hl
      have hw := decodeL_width l
      rw [stepsF_more n k (l.drop (decodeL l).2) (by rw [List.length_drop]; omega) (by rw [List.length_drop]; omega)]
theorem steps_cons {l : List UInt8} (h : l ≠ []) : steps l = decodeL l :: steps (l.drop (decodeL l).2) := by
  have hl : 0 < l.length := List.length_pos_iff.2 h
  have hw := decodeL_width l
  unfold steps
  obtain ⟨n, hn⟩ : ∃ n, l.length = n + 1 := ⟨l.length - 1, by omega⟩
  rw [hn]
  show (if l = [] then [] else decodeL l :: stepsF n (l.drop (decodeL l).2)) = _
  rw [if_neg h, stepsF_more n _ (l.drop (decodeL l).2) (by rw [List.length_drop]; omega) (Nat.le_refl _)]
theorem drop_ne {l : List UInt8} {p : Nat} (h : p < l.length) : l.drop p ≠ [] := fun e => by
  have := congrArg List.length e
  rw [List.length_drop, List.length_nil] at this; omega
theorem steps_at {l : List UInt8} {p : Nat} (h : p < l.length) : steps (l.drop p) = (dR l p, dW l p) :: steps (l.drop (p + dW l p)) := by
  rw [steps_cons (drop_ne h), List.drop_drop]; rfl
theorem steps_end {l : List UInt8} {p : Nat} (h : ¬ p < l.length) : steps (l.drop p) = [] := by
  rw [List.drop_of_length_le (by omega)]; rfl
theorem dW_pos (l : List UInt8) (p : Nat) : 1 ≤ dW l p := decodeL_width _
theorem dW_le {l : List UInt8} {p : Nat} (h : p < l.length) : p + dW l p ≤ l.length := by
  have := decodeL_le (l.drop p) (drop_ne h)
  rw [List.length_drop] at this
  unfold dW; omega
/-- no sign -/
def badD (d : Nat × Nat) : Bool := decide (d.1 = 65533 ∧ d.2 = 1)
def plainD (d : Nat × Nat) : Bool := !(decide (d.1 < 32)) && !(decide (d.1 = 127))
theorem valid_steps : ∀ (n : Nat) (l : List UInt8), l.length ≤ n → validGoD n l = (steps l).all (fun d => !badD d)
  | 0, l, h => by
    have : l = [] := List.length_eq_zero_iff.1 (by omega)
    subst this; rfl
  | n + 1, l, h => by
    unfold validGoD
    split
    · rename_i e; subst e; rfl
    · rename_i e
      have hw := decodeL_width l
      rw [steps_cons e, List.all_cons]
      split
      · rename_i hb
        rw [show badD (decodeL l) = true from decide_eq_true hb]; rfl
      · rename_i hb
        rw [show badD (decodeL l) = false from decide_eq_false hb, valid_steps n _ (by rw [List.length_drop]; omega)]; rfl
theorem validD_steps (l : List UInt8) : validD l = (steps l).all (fun d => !badD d) := valid_steps _ l (Nat.le_refl _)
/-- what Check answers -/
def okS (l : List UInt8) : Bool := (steps l).all (fun d => !badD d && plainD d)
def ckE (l : List UInt8) (mi : Int) : Nat := bif decide ((l.length : Int) > mi) then 9 else bif okS l then 0 else 7
theorem all_and {α : Type} (f g : α → Bool) : ∀ l : List α, l.all (fun d => f d && g d) = (l.all f && l.all g)
  | [] => rfl
  | a :: l => by
    simp only [List.all_cons, all_and f g l]
    cases f a <;> cases g a <;> cases l.all f <;> simp
theorem okS_eq (l : List UInt8) : okS l = (validD l && (steps l).all plainD) := by
  unfold okS; rw [all_and, validD_steps]
theorem byte_lt (x : UInt8) : x.toNat < 256 := x.toNat_lt
end Go.Proofs.YtcpmjogeafhpnaaDoor.Tx

/- Signs are counted and looked at: the document's; the program's Runes. -/
set_option linter.all false
set_option maxRecDepth 100000
namespace Go.Proofs.YtcpmjogeafhpnaaDoor.Tx
open Go.RowKit Go.Sep
attribute [local irreducible] Go.wpList Go.Code.wp

theorem ck_long {l : List UInt8} {mi : Int} (h : ((l.length : Int) > mi)) : Value.int .i64 9 = .int .i64 ((ckE l mi : Nat) : Int) := by
  unfold ckE; rw [decide_eq_true h]; rfl
theorem ck_bad {l : List UInt8} {mi : Int} (h : ¬ ((l.length : Int) > mi)) (e : okS l = false) : Value.int .i64 7 = .int .i64 ((ckE l mi : Nat) : Int) := by
  unfold ckE; rw [decide_eq_false h, e]; rfl
theorem ck_good {l : List UInt8} {mi : Int} (h : ¬ ((l.length : Int) > mi)) (e : okS l = true) : Value.int .i64 0 = .int .i64 ((ckE l mi : Nat) : Int) := by
  unfold ckE; rw [decide_eq_false h, e]; rfl

end Go.Proofs.YtcpmjogeafhpnaaDoor.Tx

/- A byte as signs. -/
set_option linter.all false
set_option maxRecDepth 100000
namespace Go.Proofs.YtcpmjogeafhpnaaDoor.Tx
open Go.RowKit Go.Sep
theorem ofNat_toNat (x : UInt8) : UInt8.ofNat x.toNat = x := by simp
end Go.Proofs.YtcpmjogeafhpnaaDoor.Tx

/-
  DERIVED: THE SHELF's CONTRACTS AT THIS DUMP, IN PLAIN WORDS (tools/lay-plain.mjs out of 'TrydShelf.lean', which tools/lay-shelf.mjs wrote): THE SAME DECLARATIONS UNDER THE SAME NAMES: 'import', 'namespace', 'open', 'def', 'theorem' AND NOTHING ELSE: no command of the shelf's: FOR A HAND-IN. Each laying: the table of numbers ('.._ren') and one theorem, a field a fact of the dump's own or the kernel's comparison; each contract: ONE APPLICATION.
-/
namespace Go.Proofs
open Go.Shelf
def Tryd.lays196_ren : Go.Shelf.Ren := ⟨fun | 196 => 99 | 259 => 118 | n => n, fun | 9 => 9 | 4 => 4 | 3 => 3 | 5 => 5 | 12 => 12 | 119 => 150 | 0 => 0 | 46 => 142 | 139 => 153 | 138 => 152 | 53 => 114 | n => n, fun | 3 => 1 | 4 => 2 | n => n⟩
theorem Tryd.lays196 : Go.Proofs.Lays.n196 Tryd.prog Tryd.lays196_ren := {
  mixed := by kernel_rfl
  f196 := Tryd.func99.trans (congrArg some (by kernel_rfl))
  f259 := Tryd.func118.trans (congrArg some (by kernel_rfl))
  t0 := Tryd.underlying0
  a0 := Tryd.isAgg0
  z0 := Tryd.sizeOf0
  v0 := Tryd.zeroValue0
  t3 := Tryd.underlying3
  a3 := Tryd.isAgg3
  z3 := Tryd.sizeOf3
  v3 := Tryd.zeroValue3
  t4 := Tryd.underlying4
  a4 := Tryd.isAgg4
  z4 := Tryd.sizeOf4
  v4 := Tryd.zeroValue4
  t5 := Tryd.underlying5
  a5 := Tryd.isAgg5
  z5 := Tryd.sizeOf5
  v5 := Tryd.zeroValue5
  t9 := Tryd.underlying9
  a9 := Tryd.isAgg9
  z9 := Tryd.sizeOf9
  v9 := Tryd.zeroValue9
  t12 := Tryd.underlying12
  a12 := Tryd.isAgg12
  z12 := Tryd.sizeOf12
  v12 := Tryd.zeroValue12
  t46 := Tryd.underlying142
  a46 := Tryd.isAgg142
  z46 := Tryd.sizeOf142
  v46 := Tryd.zeroValue142
  t53 := Tryd.underlying114
  a53 := Tryd.isAgg114
  z53 := Tryd.sizeOf114
  v53 := Tryd.zeroValue114
  t119 := Tryd.underlying150
  a119 := Tryd.isAgg150
  z119 := Tryd.sizeOf150
  t138 := Tryd.underlying152
  a138 := Tryd.isAgg152
  z138 := Tryd.sizeOf152
  v138 := Tryd.zeroValue152
  t139 := Tryd.underlying153
  a139 := Tryd.isAgg153
  z139 := Tryd.sizeOf153
  v139 := Tryd.zeroValue153
  g3 := by kernel_rfl
  g4 := by kernel_rfl }
open Go.RowKit in
/-- utf8.ValidString -/
theorem Tryd.utf8_ValidString (s : ByteArray) (w : World) (hs : s.size ≤ 9223372036854775807) (hT : Lib.Utf8Tabs 1 2 w) :
    Calls Tryd.prog 99 #[.string s] w fun e w' => e = .returned (.bool (Lib.validD s.data.toList)) ∧ Below w.heap.size w w' := Any.utf8_ValidString Tryd.lays196 s w hs hT
end Go.Proofs

/- utf8.ValidString. -/
set_option linter.all false
set_option maxRecDepth 100000
namespace Go.Proofs.YtcpmjogeafhpnaaDoor.Tx
open Go.RowKit Go.Sep
/-- the library's two tables are there -/
def U8 (I : IM) : Prop := ∀ w, I.Sub w → Lib.Utf8Tabs 1 2 w
theorem U8.mono {I J : IM} (le : I.Le J) (h : U8 I) : U8 J := fun w hw => h w (fun k o e => hw k o (le k o e))
theorem st_below {I : IM} {w w' : World} (hw : I.Sub w) (b : Below w.heap.size w w') : St w I [] I w' [] where
  sub k o e := (b.block k (hw.lt e)).trans (hw k o e)
  le := IM.Le.refl _
  new _ _ _ := rfl
  fr := ⟨b.os, b.tape, b.output, b.size, fun k hk _ => b.block k hk⟩
  own := by simp
  free := by simp
  fresh := by simp
  nodup := by simp
theorem valid_c {I : IM} {l : List UInt8} (hT : U8 I) (hn : l.length ≤ 1000000000) : Fun Tryd.prog 99 #[.string ⟨l.toArray⟩] I (fun v J => v = .bool (Lib.validD l)) := fun w hw =>
  (Tryd.utf8_ValidString ⟨l.toArray⟩ w (show l.length ≤ _ by omega) (hT w hw)).mono fun e w' ⟨he, b⟩ => by subst he; exact ⟨_, I, [], rfl, st_below hw b, rfl⟩
theorem ck_bad1 {l : List UInt8} {mi : Int} (h : ¬ ((l.length : Int) > mi)) (e : Lib.validD l = false) : Value.int .i64 7 = .int .i64 ((ckE l mi : Nat) : Int) := ck_bad h (by rw [okS_eq, e]; rfl)
theorem pl_bad {l : List UInt8} {p : Nat} (h : p < l.length) (hg : plainD (dR l p, dW l p) = false) (e : (steps l).all plainD = (steps (l.drop p)).all plainD) : okS l = false := by
  rw [okS_eq, e, steps_at h, List.all_cons, hg]; simp
theorem pl_end {l : List UInt8} {p : Nat} (h : ¬ p < l.length) (hv : Lib.validD l = true) (e : (steps l).all plainD = (steps (l.drop p)).all plainD) : okS l = true := by
  rw [okS_eq, e, steps_end h, hv]; rfl
theorem pl_go {l : List UInt8} {p : Nat} (h : p < l.length) (hg : plainD (dR l p, dW l p) = true) (e : (steps l).all plainD = (steps (l.drop p)).all plainD) : (steps l).all plainD = (steps (l.drop (p + dW l p))).all plainD := by
  rw [e, steps_at h, List.all_cons, hg]; rfl
theorem pl_1 {r w : Nat} (h : r < 32) : plainD (r, w) = false := by unfold plainD; simp [h]
theorem pl_2 {r w : Nat} (h : r = 127) : plainD (r, w) = false := by unfold plainD; simp [h]
theorem pl_3 {r w : Nat} (h : ¬ r < 32) (h2 : ¬ r = 127) : plainD (r, w) = true := by unfold plainD; simp [h, h2]
end Go.Proofs.YtcpmjogeafhpnaaDoor.Tx

/- The program's Check. -/
set_option linter.all false
set_option maxRecDepth 100000
namespace Go.Proofs.YtcpmjogeafhpnaaDoor.Tx
open Go.RowKit Go.Sep
attribute [local irreducible] Go.wpList Go.Code.wp

set_option maxHeartbeats 2000000 in
theorem check_c {I : IM} {l : List UInt8} (hT : U8 I) (hn : l.length ≤ 1000000) {mi : Int} : Fun Tryd.prog 60 #[.string ⟨(l).toArray⟩, .int .i64 mi] I (fun v J => v = .int .i64 ((ckE l mi : Nat) : Int)) := by
  refine enter_rule 25 [(0, .string ⟨(l).toArray⟩), (1, .int .i64 mi)] Tryd.func60 rfl (by kernel_rfl) ?_
  intro w s
  refine wp_seq ?_
  refine region_rule ?_
  refine ops_rule (C := []) [] [] 1 [] 0 (fun φ1 => [(4, .int .i64 0)]) (fun φ1 => []) (fun φ1 => []) s trivial (fun φ1 => by kernel_rfl) ?_
  intro φ1 w1 s
  refine ops_done (by kernel_rfl) ?_
  refine wp_seq ?_
  refine wp_seq ?_
  refine region_rule ?_
  refine ops_rule (C := []) [] [] 4 [] 0 (fun φ2 => [(10, .bool (decide (((l.length : Nat) : Int) > mi))), (9, .int .i64 mi), (8, .int .i64 ((l.length : Nat) : Int)), (7, .string ⟨(l).toArray⟩)]) (fun φ2 => []) (fun φ2 => []) s trivial (fun φ2 => by kernel_rfl) ?_
  intro φ2 w2 s
  refine ops_done (by kernel_rfl) ?_
  rcases Bool.eq_false_or_eq_true (decide (((l.length : Nat) : Int) > mi)) with hc3 | hc3
  ·
    rw [hc3]
    refine cond_true_rule (b := true) (by kernel_rfl) rfl ?_
    refine wp_seq ?_
    refine region_rule ?_
    refine ops_rule (C := []) [] [] 1 [] 0 (fun φ4 => [(4, .int .i64 9)]) (fun φ4 => []) (fun φ4 => []) s trivial (fun φ4 => by kernel_rfl) ?_
    intro φ4 w4 s
    refine ops_done (by kernel_rfl) ?_
    refine wp_ret ?_
    refine ret_rule (C := []) [] [] (.int .i64 9) [] [] s trivial (by kernel_rfl) ?_
    exact ⟨_, _, _, rfl, s, (ck_long (of_decide_eq_true hc3))⟩
  ·
    rw [hc3]
    refine cond_false_rule (b := false) (by kernel_rfl) rfl ?_
    refine wp_skip ?_
    refine wp_seq ?_
    refine wp_seq ?_
    refine region_rule ?_
    refine ops_rule (C := []) [] [] 1 [] 0 (fun φ5 => [(11, .string ⟨(l).toArray⟩)]) (fun φ5 => []) (fun φ5 => []) s trivial (fun φ5 => by kernel_rfl) ?_
    intro φ5 w5 s
    refine call_rule (some 12) s (valid_c (l := l) hT (by omega)) (by kernel_rfl) ?_
    intro v6 I6 w6 le6 h6 s
    replace hT := U8.mono le6 hT
    obtain rfl := h6
    refine ops_rule (C := []) [] [] 1 [] 0 (fun φ7 => [(13, .bool (!(Lib.validD l)))]) (fun φ7 => []) (fun φ7 => []) s trivial (fun φ7 => by kernel_rfl) ?_
    intro φ7 w7 s
    refine ops_done (by kernel_rfl) ?_
    rcases Bool.eq_false_or_eq_true (Lib.validD l) with hc8 | hc8
    ·
      rw [hc8]
      refine cond_false_rule (b := false) (by kernel_rfl) rfl ?_
      refine wp_skip ?_
      refine wp_seq ?_
      refine wp_seq ?_
      refine region_rule ?_
      refine ops_rule (C := []) [] [] 1 [] 0 (fun φ9 => [(14, .string ⟨(l).toArray⟩)]) (fun φ9 => []) (fun φ9 => []) s trivial (fun φ9 => by kernel_rfl) ?_
      intro φ9 w9 s
      obtain ⟨k10, w10, hr10, s⟩ := range_new (H := []) s ⟨(l).toArray⟩
      refine sem_rule (Instr.range 9 (.string ⟨(l).toArray⟩)) (some 15) (.pointer (some ⟨k10, 0, none⟩)) (by kernel_rfl) hr10 ?_
      refine ops_done (by kernel_rfl) ?_
      refine wp_block ?_
      have hle11 := IM.Le.refl I6
      refine loop_rule (fun (x : Nat) => [(0, .string ⟨(l).toArray⟩), (1, .int .i64 mi), (4, .int .i64 0), (15, .pointer (some ⟨k10, 0, none⟩))]) (fun (x : Nat) => [(k10, .stringIter ⟨(l).toArray⟩ x)]) (fun m (x : Nat) J => IM.Le I6 J ∧ l.length ≤ x + m ∧ (steps l).all plainD = (steps (l.drop x)).all plainD) (l.length) 0 s (by kernel_rfl) (List.Sublist.cons₂ _ List.Sublist.slnil) ⟨IM.Le.refl _, by omega, rfl⟩ ?_
      rintro m12 p12 I12 w12 ev12 s ⟨le12, hi12_0, hi12_1⟩
      try dsimp only at s hi12_0 hi12_1 ⊢
      replace hT := U8.mono le12 hT
      replace hle11 := leMono le12 hle11
      refine wp_seq ?_
      refine region_rule ?_
      rcases Bool.eq_false_or_eq_true (decide (p12 < l.length)) with hc13 | hc13
      ·
        obtain ⟨w14, hr14, s⟩ := next_own (k := k10) (pos := p12) (l := l) (ty := 0) s (of_decide_eq_true hc13)
        refine sem_rule (Instr.next (.pointer (some ⟨k10, 0, none⟩)) true 0) (some 16) (.tuple #[.bool true, .int .i64 ((p12 : Nat) : Int), .int .i32 ((dR l p12 : Nat) : Int)]) (by kernel_rfl) hr14 ?_
        refine ops_rule (C := []) [(k10, .stringIter ⟨(l).toArray⟩ (p12 + dW l p12))] [] 1 [] 0 (fun φ15 => [(17, .bool true)]) (fun φ15 => [(k10, .stringIter ⟨(l).toArray⟩ (p12 + dW l p12))]) (fun φ15 => []) s trivial (fun φ15 => by kernel_rfl) ?_
        intro φ15 w15 s
        refine ops_done (by kernel_rfl) ?_
        refine wp_seq ?_
        refine cond_true_rule (b := true) (by kernel_rfl) rfl ?_
        refine wp_skip ?_
        refine wp_block ?_
        refine wp_seq ?_
        refine region_rule ?_
        refine ops_rule (C := []) [(k10, .stringIter ⟨(l).toArray⟩ (p12 + dW l p12))] [] 2 [] 0 (fun φ16 => [(6, .int .i32 ((dR l p12 : Nat) : Int)), (18, .int .i32 ((dR l p12 : Nat) : Int))]) (fun φ16 => [(k10, .stringIter ⟨(l).toArray⟩ (p12 + dW l p12))]) (fun φ16 => []) s trivial (fun φ16 => by kernel_rfl) ?_
        intro φ16 w16 s
        refine ops_done (by kernel_rfl) ?_
        refine wp_seq ?_
        refine region_rule ?_
        refine ops_rule (C := []) [(k10, .stringIter ⟨(l).toArray⟩ (p12 + dW l p12))] [] 3 [] 0 (fun φ17 => [(21, .bool (decide (((dR l p12 : Nat) : Int) < ((32 : Nat) : Int)))), (20, .bool (decide (((dR l p12 : Nat) : Int) < ((32 : Nat) : Int)))), (19, .int .i32 ((dR l p12 : Nat) : Int))]) (fun φ17 => [(k10, .stringIter ⟨(l).toArray⟩ (p12 + dW l p12))]) (fun φ17 => []) s trivial (fun φ17 => by kernel_rfl) ?_
        intro φ17 w17 s
        rw [nat_lss (a := (dR l p12)) (b := 32)]
        rcases Bool.eq_false_or_eq_true (decide ((dR l p12) < 32)) with hc18 | hc18
        ·
          rw [hc18]
          refine ops_rule (C := []) [(k10, .stringIter ⟨(l).toArray⟩ (p12 + dW l p12))] [] 3 [] 0 (fun φ19 => [(24, .bool true), (23, undef), (22, undef)]) (fun φ19 => [(k10, .stringIter ⟨(l).toArray⟩ (p12 + dW l p12))]) (fun φ19 => []) s trivial (fun φ19 => by kernel_rfl) ?_
          intro φ19 w19 s
          refine ops_done (by kernel_rfl) ?_
          refine cond_true_rule (b := true) (by kernel_rfl) rfl ?_
          refine wp_seq ?_
          refine region_rule ?_
          refine ops_rule (C := []) [(k10, .stringIter ⟨(l).toArray⟩ (p12 + dW l p12))] [] 1 [] 0 (fun φ20 => [(4, .int .i64 7)]) (fun φ20 => [(k10, .stringIter ⟨(l).toArray⟩ (p12 + dW l p12))]) (fun φ20 => []) s trivial (fun φ20 => by kernel_rfl) ?_
          intro φ20 w20 s
          refine ops_done (by kernel_rfl) ?_
          refine wp_ret ?_
          refine ret_rule (C := []) [(k10, .stringIter ⟨(l).toArray⟩ (p12 + dW l p12))] [] (.int .i64 7) [] [] s trivial (by kernel_rfl) ?_
          exact ⟨_, _, _, rfl, s, (ck_bad (of_decide_eq_false hc3) (pl_bad (of_decide_eq_true hc13) (pl_1 (of_decide_eq_true hc18)) hi12_1))⟩
        ·
          rw [hc18]
          refine ops_rule (C := []) [(k10, .stringIter ⟨(l).toArray⟩ (p12 + dW l p12))] [] 3 [] 0 (fun φ21 => [(24, .bool (((dR l p12 : Nat) : Int) == ((127 : Nat) : Int))), (23, .bool (((dR l p12 : Nat) : Int) == ((127 : Nat) : Int))), (22, .int .i32 ((dR l p12 : Nat) : Int))]) (fun φ21 => [(k10, .stringIter ⟨(l).toArray⟩ (p12 + dW l p12))]) (fun φ21 => []) s trivial (fun φ21 => by kernel_rfl) ?_
          intro φ21 w21 s
          rw [nat_eql (a := (dR l p12)) (b := 127)]
          refine ops_done (by kernel_rfl) ?_
          rcases Bool.eq_false_or_eq_true (decide ((dR l p12) = 127)) with hc22 | hc22
          ·
            rw [hc22]
            refine cond_true_rule (b := true) (by kernel_rfl) rfl ?_
            refine wp_seq ?_
            refine region_rule ?_
            refine ops_rule (C := []) [(k10, .stringIter ⟨(l).toArray⟩ (p12 + dW l p12))] [] 1 [] 0 (fun φ23 => [(4, .int .i64 7)]) (fun φ23 => [(k10, .stringIter ⟨(l).toArray⟩ (p12 + dW l p12))]) (fun φ23 => []) s trivial (fun φ23 => by kernel_rfl) ?_
            intro φ23 w23 s
            refine ops_done (by kernel_rfl) ?_
            refine wp_ret ?_
            refine ret_rule (C := []) [(k10, .stringIter ⟨(l).toArray⟩ (p12 + dW l p12))] [] (.int .i64 7) [] [] s trivial (by kernel_rfl) ?_
            exact ⟨_, _, _, rfl, s, (ck_bad (of_decide_eq_false hc3) (pl_bad (of_decide_eq_true hc13) (pl_2 (of_decide_eq_true hc22)) hi12_1))⟩
          ·
            rw [hc22]
            refine cond_false_rule (b := false) (by kernel_rfl) rfl ?_
            refine wp_skip ?_
            have hq9 := of_decide_eq_true hc13
            have hw9 := dW_pos l p12
            have hv9 := dW_le hq9
            exact ⟨⟨m12 - 1, p12 + dW l p12, _, _, _, by omega, rfl, s, (List.Sublist.cons₂ _ List.Sublist.slnil), by kernel_rfl, hle11, by show l.length ≤ p12 + dW l p12 + (m12 - 1); omega, pl_go hq9 (pl_3 (of_decide_eq_false hc18) (of_decide_eq_false hc22)) hi12_1⟩⟩
      ·
        refine sem_rule (Instr.next (.pointer (some ⟨k10, 0, none⟩)) true 0) (some 16) (.tuple #[.bool false]) (by kernel_rfl) (next_end (k := k10) (pos := p12) (l := l) (ty := 0) s (of_decide_eq_false hc13)) ?_
        refine ops_rule (C := []) [(k10, .stringIter ⟨(l).toArray⟩ p12)] [] 1 [] 0 (fun φ25 => [(17, .bool false)]) (fun φ25 => [(k10, .stringIter ⟨(l).toArray⟩ p12)]) (fun φ25 => []) s trivial (fun φ25 => by kernel_rfl) ?_
        intro φ25 w25 s
        refine ops_done (by kernel_rfl) ?_
        refine wp_seq ?_
        refine cond_false_rule (b := false) (by kernel_rfl) rfl ?_
        refine wp_exit ?_
        refine wp_seq ?_
        refine region_rule ?_
        refine ops_rule (C := []) [(k10, .stringIter ⟨(l).toArray⟩ p12)] [] 1 [] 0 (fun φ26 => [(4, .int .i64 0)]) (fun φ26 => [(k10, .stringIter ⟨(l).toArray⟩ p12)]) (fun φ26 => []) s trivial (fun φ26 => by kernel_rfl) ?_
        intro φ26 w26 s
        refine ops_done (by kernel_rfl) ?_
        refine wp_ret ?_
        refine ret_rule (C := []) [(k10, .stringIter ⟨(l).toArray⟩ p12)] [] (.int .i64 0) [] [] s trivial (by kernel_rfl) ?_
        exact ⟨_, _, _, rfl, s, (ck_good (of_decide_eq_false hc3) (pl_end (of_decide_eq_false hc13) hc8 hi12_1))⟩
    ·
      rw [hc8]
      refine cond_true_rule (b := true) (by kernel_rfl) rfl ?_
      refine wp_seq ?_
      refine region_rule ?_
      refine ops_rule (C := []) [] [] 1 [] 0 (fun φ27 => [(4, .int .i64 7)]) (fun φ27 => []) (fun φ27 => []) s trivial (fun φ27 => by kernel_rfl) ?_
      intro φ27 w27 s
      refine ops_done (by kernel_rfl) ?_
      refine wp_ret ?_
      refine ret_rule (C := []) [] [] (.int .i64 7) [] [] s trivial (by kernel_rfl) ?_
      exact ⟨_, _, _, rfl, s, (ck_bad1 (of_decide_eq_false hc3) hc8)⟩

end Go.Proofs.YtcpmjogeafhpnaaDoor.Tx

/- Blanks. -/
set_option linter.all false
set_option maxRecDepth 100000
namespace Go.Proofs.YtcpmjogeafhpnaaDoor.Tx
open Go.RowKit Go.Sep Go.Lib
/-- the words of a text -/
def wd : List UInt8 → List UInt8 → List (List UInt8)
  | acc, [] => if acc = [] then [] else [acc]
  | acc, b :: l => if b = 32 then (if acc = [] then wd [] l else acc :: wd [] l) else wd (acc ++ [b]) l
def fldS (l : List UInt8) : List UInt8 := join (wd [] l) [32]
theorem wd_plain : ∀ (x acc y : List UInt8), (∀ b ∈ x, b ≠ 32) → wd acc (x ++ y) = wd (acc ++ x) y
  | [], acc, y, _ => by simp
  | b :: x, acc, y, h => by
    have hb : ¬ b = 32 := h b (by simp)
    rw [List.cons_append]
    show (if b = 32 then _ else wd (acc ++ [b]) (x ++ y)) = _
    rw [if_neg hb, wd_plain x (acc ++ [b]) y (fun c hc => h c (by simp [hc])), List.append_assoc]
    rfl
theorem join_cc (x y : List UInt8) (r : List (List UInt8)) : join (x :: y :: r) [32] = x ++ 32 :: join (y :: r) [32] := by
  rw [join_cons, join_cons]; simp [joinTail]
theorem wd_len : ∀ (l acc : List UInt8), (join (wd acc l) [32]).length ≤ acc.length + l.length
  | [], acc => by
    by_cases h : acc = []
    · subst h; simp [wd, join_nil]
    · simp [wd, h, join_one]
  | b :: l, acc => by
    unfold wd
    by_cases hb : b = 32
    · rw [if_pos hb]
      have ih := wd_len l []
      by_cases h : acc = []
      · rw [if_pos h, List.length_cons]; simp at ih; omega
      · rw [if_neg h]
        cases e : wd [] l with
        | nil => rw [join_one, List.length_cons]; omega
        | cons y r => rw [e] at ih; rw [join_cc]; simp at ih ⊢; omega
    · rw [if_neg hb]
      have ih := wd_len l (acc ++ [b])
      rw [List.length_append, List.length_cons, List.length_nil] at ih
      rw [List.length_cons]; omega
theorem fldS_len (l : List UInt8) : (fldS l).length ≤ l.length := by have := wd_len l []; simpa [fldS] using this
/-- a blank is a sign of its own -/
theorem dec_byte {l : List UInt8} {k : Nat} (hk : k < (decodeL l).2) (hg : badD (decodeL l) = false) (h1 : 1 ≤ k) : 128 ≤ (l.getD k 0).toNat := by
  have h := decodeL_N l
  rw [h] at hk
  rcases decodeN_shape l.length (l.getD 0 0).toNat (l.getD 1 0).toNat (l.getD 2 0).toNat (l.getD 3 0).toNat with ⟨c, e⟩ | ⟨c1, c2, c3, cv, e⟩ | ⟨c1, c2, c3, c4, cv, cs, e⟩ | ⟨c1, c2, c3, c4, c5, cv, cw, e⟩ | e
  · rw [e] at hk; dsimp only at hk; omega
  · rw [e] at hk; dsimp only at hk
    obtain rfl : k = 1 := by omega
    omega
  · rw [e] at hk; dsimp only at hk
    rcases (by omega : k = 1 ∨ k = 2) with rfl | rfl <;> omega
  · rw [e] at hk; dsimp only at hk
    rcases (by omega : k = 1 ∨ k = 2 ∨ k = 3) with rfl | rfl | rfl <;> omega
  · rw [e] at hk; dsimp only at hk; omega
theorem dec_32 {l : List UInt8} (h : (l.getD 0 0).toNat = 32) : decodeL l = (32, 1) := by
  rw [decodeL_N, h]; unfold decodeN; rw [if_pos (by decide)]
theorem dec_is32 {l : List UInt8} (h : (decodeL l).1 = 32) : (l.getD 0 0).toNat = 32 := by
  rw [decodeL_N] at h
  rcases decodeN_shape l.length (l.getD 0 0).toNat (l.getD 1 0).toNat (l.getD 2 0).toNat (l.getD 3 0).toNat with ⟨c, e⟩ | ⟨c1, c2, c3, cv, e⟩ | ⟨c1, c2, c3, c4, cv, cs, e⟩ | ⟨c1, c2, c3, c4, c5, cv, cw, e⟩ | e
  all_goals (rw [e] at h; dsimp only at h; omega)
theorem dec_one {l : List UInt8} (hb : badD (decodeL l) = true) : (decodeL l).2 = 1 := (of_decide_eq_true hb).2
end Go.Proofs.YtcpmjogeafhpnaaDoor.Tx

/- The library's fields are the words. -/
set_option linter.all false
set_option maxRecDepth 100000
namespace Go.Proofs.YtcpmjogeafhpnaaDoor.Tx
open Go.RowKit Go.Sep Go.Lib
def pB (r : Nat) : Bool := decide (r = 32)
def piece (l : List UInt8) (x : Nat × Nat) : List UInt8 := (l.drop x.1).take (x.2 - x.1)
def stL (l : List UInt8) (pos : Nat) : Option Nat → List UInt8
  | some a => piece l (a, pos)
  | none => []
theorem piece_ne {l : List UInt8} {a pos : Nat} (h : a < pos) (h2 : pos ≤ l.length) : piece l (a, pos) ≠ [] := fun e => by
  have := congrArg List.length e
  simp [piece] at this; omega
theorem piece_more {l : List UInt8} {a pos w : Nat} (h : a ≤ pos) : piece l (a, pos + w) = piece l (a, pos) ++ (l.drop pos).take w := by
  unfold piece
  dsimp only
  rw [show pos + w - a = (pos - a) + w by omega, List.take_add, List.drop_drop, show a + (pos - a) = pos by omega]
theorem sgn_no32 {l : List UInt8} {pos : Nat} (h : pos < l.length) (hr : ¬ (decodeL (l.drop pos)).1 = 32) : ∀ b ∈ (l.drop pos).take (decodeL (l.drop pos)).2, b ≠ 32 := by
  intro b hb e
  obtain ⟨k, hk, hbk⟩ := List.getElem_of_mem hb
  rw [List.length_take] at hk
  have hk2 : k < (decodeL (l.drop pos)).2 := by omega
  have hg : (l.drop pos).getD k 0 = 32 := by
    have h3 : k < (l.drop pos).length := by omega
    have h4 : (l.drop pos)[k] = b := by rw [← hbk, List.getElem_take]
    rw [← e, ← h4, List.getD, List.getElem?_eq_getElem h3]; rfl
  by_cases hk0 : k = 0
  · subst hk0
    exact hr (by rw [dec_32 (by rw [hg]; rfl)])
  · cases hbad : badD (decodeL (l.drop pos)) with
    | true => have := dec_one hbad; omega
    | false =>
      have := dec_byte hk2 hbad (by omega)
      rw [hg] at this; exact absurd this (by decide)
theorem getD_drop0 (l : List UInt8) (pos : Nat) : (l.drop pos).getD 0 0 = l.getD pos 0 := by simp [List.getD, List.getElem?_drop]
set_option maxHeartbeats 1000000 in
theorem spans_wd (l : List UInt8) : ∀ (f pos : Nat) (st : Option Nat) (acc : List (Nat × Nat)), l.length ≤ pos + f → (∀ a, st = some a → a < pos) → pos ≤ l.length →
    (closeSpans ⟨l.toArray⟩ (spansFromP pB ⟨l.toArray⟩ f pos st acc)).map (piece l) = acc.map (piece l) ++ wd (stL l pos st) (l.drop pos)
  | 0, pos, st, acc, hf, hs, hp => by
    have hpl : pos = l.length := by omega
    rw [List.drop_of_length_le (by omega)]
    cases st with
    | none => simp [spansFromP, closeSpans, stL, wd]
    | some a =>
      have hne := piece_ne (hs a rfl) hp
      show ((acc ++ [(a, l.length)]).map (piece l)) = _
      rw [← hpl]
      show _ = acc.map (piece l) ++ (if piece l (a, pos) = [] then [] else [piece l (a, pos)])
      rw [if_neg hne]; simp
  | f + 1, pos, st, acc, hf, hs, hp => by
    by_cases hlt : pos < l.length
    · have hsz : pos < (⟨l.toArray⟩ : ByteArray).size := hlt
      have hw := dW_pos l pos
      have hle := dW_le hlt
      unfold spansFromP
      rw [if_pos hsz, dec_at]
      by_cases hr : (decodeL (l.drop pos)).1 = 32
      · rw [show pB (decodeL (l.drop pos)).1 = true from decide_eq_true hr]
        have h32 := dec_is32 hr
        have hd : decodeL (l.drop pos) = (32, 1) := dec_32 h32
        have hb : l.getD pos 0 = 32 := by rw [← getD_drop0]; exact UInt8.toNat_inj.1 h32
        have hdr : l.drop pos = 32 :: l.drop (pos + 1) := by rw [drop_cons hlt, hb]
        rw [if_pos rfl, hd]
        cases st with
        | none =>
          dsimp only
          rw [spans_wd l f (pos + 1) none acc (by omega) (by simp) (by omega), hdr]
          simp [stL, wd]
        | some a =>
          dsimp only
          have hne := piece_ne (hs a rfl) hp
          rw [spans_wd l f (pos + 1) none (acc ++ [(a, pos)]) (by omega) (by simp) (by omega), hdr]
          show _ = acc.map (piece l) ++ (if (32 : UInt8) = 32 then (if piece l (a, pos) = [] then _ else piece l (a, pos) :: wd [] (l.drop (pos + 1))) else _)
          rw [if_pos rfl, if_neg hne]
          simp [stL]
      · rw [show pB (decodeL (l.drop pos)).1 = false from decide_eq_false hr]
        have hno := sgn_no32 hlt hr
        have hsp : l.drop pos = (l.drop pos).take (decodeL (l.drop pos)).2 ++ l.drop (pos + (decodeL (l.drop pos)).2) := by
          rw [← List.drop_drop, List.take_append_drop]
        have e2 : (decodeL (l.drop pos)).2 = dW l pos := rfl
        rw [if_neg (by simp)]
        cases st with
        | none =>
          dsimp only
          rw [spans_wd l f (pos + (decodeL (l.drop pos)).2) (some pos) acc (by omega) (fun a ha => by cases ha; omega) (by omega)]
          conv => rhs; rw [hsp, wd_plain _ _ _ hno]
          rw [show stL l (pos + (decodeL (l.drop pos)).2) (some pos) = piece l (pos, pos + (decodeL (l.drop pos)).2) from rfl, piece_more (Nat.le_refl _)]
          rw [show piece l (pos, pos) = [] by simp [piece]]
          rfl
        | some a =>
          dsimp only
          have ha := hs a rfl
          rw [spans_wd l f (pos + (decodeL (l.drop pos)).2) (some a) acc (by omega) (fun a' ha' => by cases ha'; omega) (by omega)]
          conv => rhs; rw [hsp, wd_plain _ _ _ hno]
          rw [show stL l (pos + (decodeL (l.drop pos)).2) (some a) = piece l (a, pos + (decodeL (l.drop pos)).2) from rfl, piece_more (by omega)]
          rfl
    · have hpl : pos = l.length := by omega
      rw [spansFromP_end pB ⟨l.toArray⟩ (f + 1) pos st acc hlt, List.drop_of_length_le (by omega)]
      cases st with
      | none => simp [closeSpans, stL, wd]
      | some a =>
        have hne := piece_ne (hs a rfl) hp
        show ((acc ++ [(a, l.length)]).map (piece l)) = _
        rw [← hpl]
        show _ = acc.map (piece l) ++ (if piece l (a, pos) = [] then [] else [piece l (a, pos)])
        rw [if_neg hne]; simp
theorem fields_wd (l : List UInt8) : (goFieldsP pB ⟨l.toArray⟩).map (·.data.toList) = wd [] l := by
  unfold goFieldsP spansOfP
  rw [List.map_map]
  have h := spans_wd l l.length 0 none [] (by omega) (by simp) (by omega)
  have e : ((·.data.toList) ∘ fun x : Nat × Nat => (⟨l.toArray⟩ : ByteArray).extract x.1 x.2) = piece l := by
    funext x
    show ((⟨l.toArray⟩ : ByteArray).extract x.1 x.2).data.toList = _
    rw [mid_string]; rfl
  rw [e]
  rw [List.map_nil, List.nil_append, List.drop_zero] at h
  exact h
end Go.Proofs.YtcpmjogeafhpnaaDoor.Tx

/- strings.Join and FieldsFunc at this program: each one application of the kit's. -/
set_option linter.all false
namespace Go.Proofs
open Go.Shelf
def Tryd.lays156_ren : Go.Shelf.Ren := ⟨fun | 156 => 119 | 165 => 130 | 166 => 131 | 169 => 132 | 240 => 138 | 241 => 139 | 276 => 144 | 277 => 145 | n => n, fun | 31 => 46 | 9 => 9 | 3 => 3 | 4 => 4 | 0 => 0 | 20 => 20 | 72 => 163 | 76 => 167 | 70 => 161 | 37 => 61 | 75 => 166 | 127 => 173 | 164 => 174 | 5 => 5 | 80 => 48 | n => n, fun | n => n⟩
theorem Tryd.lays156 : Go.Proofs.Lays.n156 Tryd.prog Tryd.lays156_ren := {
  mixed := by kernel_rfl
  f156 := Tryd.func119.trans (congrArg some (by kernel_rfl))
  f165 := Tryd.func130.trans (congrArg some (by kernel_rfl))
  f166 := Tryd.func131.trans (congrArg some (by kernel_rfl))
  f169 := Tryd.func132.trans (congrArg some (by kernel_rfl))
  f240 := Tryd.func138.trans (congrArg some (by kernel_rfl))
  f241 := Tryd.func139.trans (congrArg some (by kernel_rfl))
  f276 := Tryd.func144.trans (congrArg some (by kernel_rfl))
  f277 := Tryd.func145.trans (congrArg some (by kernel_rfl))
  t0 := Tryd.underlying0
  a0 := Tryd.isAgg0
  z0 := Tryd.sizeOf0
  v0 := Tryd.zeroValue0
  t3 := Tryd.underlying3
  a3 := Tryd.isAgg3
  z3 := Tryd.sizeOf3
  v3 := Tryd.zeroValue3
  t4 := Tryd.underlying4
  a4 := Tryd.isAgg4
  z4 := Tryd.sizeOf4
  v4 := Tryd.zeroValue4
  t9 := Tryd.underlying9
  a9 := Tryd.isAgg9
  z9 := Tryd.sizeOf9
  v9 := Tryd.zeroValue9
  t20 := Tryd.underlying20
  a20 := Tryd.isAgg20
  z20 := Tryd.sizeOf20
  v20 := Tryd.zeroValue20
  t31 := Tryd.underlying46
  a31 := Tryd.isAgg46
  z31 := Tryd.sizeOf46
  v31 := Tryd.zeroValue46
  t37 := Tryd.underlying61
  a37 := Tryd.isAgg61
  z37 := Tryd.sizeOf61
  v37 := Tryd.zeroValue61
  t70 := Tryd.underlying161
  a70 := Tryd.isAgg161
  z70 := Tryd.sizeOf161
  v70 := Tryd.zeroValue161
  t72 := Tryd.underlying163
  a72 := Tryd.isAgg163
  z72 := Tryd.sizeOf163
  v72 := Tryd.zeroValue163
  t75 := Tryd.underlying166
  a75 := Tryd.isAgg166
  z75 := Tryd.sizeOf166
  v75 := Tryd.zeroValue166
  t76 := Tryd.underlying167
  a76 := Tryd.isAgg167
  z76 := Tryd.sizeOf167
  v76 := Tryd.zeroValue167
  t127 := Tryd.underlying173
  a127 := Tryd.isAgg173
  z127 := Tryd.sizeOf173
  v127 := Tryd.zeroValue173
  t164 := Tryd.underlying174
  a164 := Tryd.isAgg174
  z164 := Tryd.sizeOf174
  v164 := Tryd.zeroValue174 }
theorem Tryd.Builder_Extra_156 : Builder.Extra Tryd.prog Tryd.lays156_ren := {
  sizeBuilder := by kernel_rfl
  liesBuilder := by kernel_rfl
  t5 := Tryd.underlying5
  a5 := Tryd.isAgg5
  z5 := Tryd.sizeOf5
  v5 := Tryd.zeroValue5
  infoByte := by kernel_rfl
  cellsByte := by kernel_rfl
  sizeByte := by kernel_rfl
  neB5 := by decide }
open Go.RowKit in
/-- strings.Join: "Join concatenates the elements of its first argument to create a single string. The separator string sep is placed between elements in the resulting string.": HOWEVER MANY ELEMENTS. Below the heap's end the world is as it was. (LAID: no walk: one application.) -/
theorem Tryd.strings_Join (bk o c : Nat) (xs : List ByteArray) (sep : ByteArray) (w : World) (hcells : ∀ (j : Nat) x, xs[j]? = some x → w.cell? ⟨bk, o + j, none⟩ = some (.string x)) (hbk : bk < w.heap.size) (hN : xs.length ≤ 140737488355328) (hcap : xs.length ≤ c) (hlen : (Lib.join (xs.map (·.data.toList)) sep.data.toList).length ≤ 140737488355328) :
    Calls Tryd.prog 119 #[.slice (some ⟨bk, o, none⟩) xs.length c, .string sep] w fun e w' => e = .returned (.string ⟨(Lib.join (xs.map (·.data.toList)) sep.data.toList).toArray⟩) ∧ Below w.heap.size w w' := Any.strings_Join Tryd.lays156 Tryd.Builder_Extra_156 bk o c xs sep w hcells hbk hN hcap hlen
def Tryd.lays229_ren : Go.Shelf.Ren := ⟨fun | 229 => 120 | n => n, fun | 9 => 9 | 40 => 156 | 31 => 46 | 152 => 169 | 3 => 3 | 0 => 0 | 4 => 4 | 21 => 21 | 154 => 171 | n => n, fun | n => n⟩
theorem Tryd.lays229 : Go.Proofs.Lays.n229 Tryd.prog Tryd.lays229_ren := {
  mixed := by kernel_rfl
  f229 := Tryd.func120.trans (congrArg some (by kernel_rfl))
  t0 := Tryd.underlying0
  a0 := Tryd.isAgg0
  z0 := Tryd.sizeOf0
  v0 := Tryd.zeroValue0
  t3 := Tryd.underlying3
  a3 := Tryd.isAgg3
  z3 := Tryd.sizeOf3
  v3 := Tryd.zeroValue3
  t4 := Tryd.underlying4
  a4 := Tryd.isAgg4
  z4 := Tryd.sizeOf4
  v4 := Tryd.zeroValue4
  t9 := Tryd.underlying9
  a9 := Tryd.isAgg9
  z9 := Tryd.sizeOf9
  v9 := Tryd.zeroValue9
  t21 := Tryd.underlying21
  a21 := Tryd.isAgg21
  z21 := Tryd.sizeOf21
  v21 := Tryd.zeroValue21
  t31 := Tryd.underlying46
  a31 := Tryd.isAgg46
  z31 := Tryd.sizeOf46
  v31 := Tryd.zeroValue46
  t40 := Tryd.underlying156
  a40 := Tryd.isAgg156
  z40 := Tryd.sizeOf156
  v40 := Tryd.zeroValue156
  t152 := Tryd.underlying169
  a152 := Tryd.isAgg169
  z152 := Tryd.sizeOf169
  v152 := Tryd.zeroValue169
  t154 := Tryd.underlying171
  a154 := Tryd.isAgg171
  z154 := Tryd.sizeOf171
  v154 := Tryd.zeroValue171 }
open Go.RowKit Go.Lib in
theorem Tryd.strings_FieldsFunc_runes (g : Nat) (lb : Array Value) (eg : ∀ args w, (callFunc g args).run Tryd.prog w = .ok (.enter g args) w) (p : Nat → Bool) (s : ByteArray) (w : World) (hs : s.size ≤ 4294967296) (hp : PredAtRunes Tryd.prog g lb p w) :
    Calls Tryd.prog 120 #[.string s, .func (.func g) #[] lb] w fun e w' => ∃ A, e = .returned (.slice (some ⟨A, 0, none⟩) (Lib.goFieldsP p s).length (Lib.goFieldsP p s).length) ∧ w.heap.size ≤ A ∧
      w'.ownsRow w.heap.size 9 1 (.slice (some ⟨A, 0, none⟩) (Lib.goFieldsP p s).length (Lib.goFieldsP p s).length) (Lib.goFieldsP p s).length ((Lib.goFieldsP p s).map Value.string) ∧ Below w.heap.size w w' := Any.strings_FieldsFunc_runes Tryd.lays229 g lb eg p s w hs hp (by kernel_rfl) (by kernel_rfl)
end Go.Proofs

/- Fold's calls. -/
set_option linter.all false
set_option maxRecDepth 100000
namespace Go.Proofs.YtcpmjogeafhpnaaDoor.Tx
open Go.RowKit Go.Sep
theorem blank_calls (x : Nat) (W : World) : Calls Tryd.prog 121 #[.int .i32 ((x : Nat) : Int)] W fun e w' => e = .returned (.bool (pB x)) ∧ ∃ q, w' = W.drewN q := by
  have e : (((x : Nat) : Int) == 32) = pB x := by
    unfold pB
    by_cases h : x = 32
    · subst h; rfl
    · rw [decide_eq_false h]; simp; omega
  rw [← e]
  go_enter Tryd.func121, Tryd.ntmps121
  go_wp2
  go_ret
  exact ⟨by rw [e]; rfl, 0, rfl⟩
theorem blank_enters : ∀ args w, (callFunc 121 args).run Tryd.prog w = .ok (.enter 121 args) w := enters_of Tryd.func121 (by kernel_rfl) rfl
def fN (l : List UInt8) : Nat := (Lib.goFieldsP pB ⟨l.toArray⟩).length
theorem wd_cnt : ∀ (l acc : List UInt8), (wd acc l).length ≤ l.length + 1
  | [], acc => by
    by_cases h : acc = []
    · subst h; simp [wd]
    · simp [wd, h]
  | b :: l, acc => by
    unfold wd
    have h1 := wd_cnt l []
    have h2 := wd_cnt l (acc ++ [b])
    split
    · split
      · rw [List.length_cons]; omega
      · rw [List.length_cons, List.length_cons]; omega
    · rw [List.length_cons]; omega
theorem fN_le (l : List UInt8) : fN l ≤ l.length + 1 := by
  have := wd_cnt l []
  rw [← fields_wd, List.length_map] at this; exact this
theorem fields_c {I : IM} {l : List UInt8} (hn : l.length ≤ 1000000) : Fun Tryd.prog 120 #[.string ⟨l.toArray⟩, .func (.func 121) #[] #[]] I (fun v J => ∃ A cur, v = .slice (some ⟨A, 0, none⟩) (fN l) (fN l) ∧ J A = some (.cells cur 9) ∧ cur.toList.take (fN l) = (Lib.goFieldsP pB ⟨l.toArray⟩).map Value.string) := fun w hw => by
  refine (Tryd.strings_FieldsFunc_runes 121 #[] blank_enters pB ⟨l.toArray⟩ w (show l.length ≤ 4294967296 by omega) (fun W x _ _ => blank_calls x W)).mono ?_
  rintro e w' ⟨A, rfl, hA, hrow, b⟩
  rcases hrow.2 with ⟨h, _⟩ | ⟨g, cap, cur, hv, hg2, hg, hnc, hcm, hcs, ht⟩
  · cases h
  · cases hv
    refine ⟨_, I.add A (.cells cur 9), [], rfl, ⟨fun k o e => ?_, ?_, fun k hk _ => ?_, ⟨b.os, b.tape, b.output, b.size, fun k hk _ => b.block k hk⟩, by simp, by simp, by simp, by simp⟩, A, cur, rfl, IM.add_self _ _ _, ?_⟩
    · unfold IM.add at e
      split at e
      · rename_i q; subst q; cases e; exact hg
      · exact (b.block k (hw.lt e)).trans (hw k o e)
    · refine IM.le_add ?_ _
      cases q : I A with
      | none => rfl
      | some o => exact absurd (hw.lt q) (by omega)
    · unfold IM.add; rw [if_neg (by omega)]
    · rw [Nat.mul_one] at ht; exact ht
theorem join_c {J : IM} {A : Nat} {cur : Array Value} {l : List UInt8} (hn : l.length ≤ 1000000) (hA : J A = some (.cells cur 9)) (hc : cur.toList.take (fN l) = (Lib.goFieldsP pB ⟨l.toArray⟩).map Value.string) :
    Fun Tryd.prog 119 #[.slice (some ⟨A, 0, none⟩) (fN l) (fN l), .string ⟨([32] : List UInt8).toArray⟩] J (fun v _ => v = .string ⟨(fldS l).toArray⟩) := fun w hw => by
  have hl := fN_le l
  have hf := fldS_len l
  have e0 : Lib.join ((Lib.goFieldsP pB ⟨l.toArray⟩).map (·.data.toList)) [32] = fldS l := by rw [fields_wd]; rfl
  refine (Tryd.strings_Join A 0 (fN l) (Lib.goFieldsP pB ⟨l.toArray⟩) ⟨([32] : List UInt8).toArray⟩ w (fun j x hx => ?_) (hw.lt hA) (show fN l ≤ _ by omega) (Nat.le_refl _) (by
    show (Lib.join ((Lib.goFieldsP pB ⟨l.toArray⟩).map (·.data.toList)) [32]).length ≤ _
    rw [e0]; omega)).mono ?_
  · rw [run_cell (a := ⟨A, 0 + j, none⟩) (hw _ _ hA) rfl rfl]
    have hj : j < fN l := (List.getElem?_eq_some_iff.1 hx).1
    have h2 : (cur.toList.take (fN l))[j]? = some (.string x) := by rw [hc, List.getElem?_map, hx]; rfl
    rw [List.getElem?_take, if_pos hj] at h2
    rw [Nat.zero_add]; simpa using h2
  · rintro e w' ⟨rfl, b⟩
    exact ⟨_, J, [], rfl, st_below hw b, by
      show Value.string ⟨(Lib.join ((Lib.goFieldsP pB ⟨l.toArray⟩).map (·.data.toList)) [32]).toArray⟩ = _
      rw [e0]⟩
end Go.Proofs.YtcpmjogeafhpnaaDoor.Tx

/- Fold: the program's and the document's. -/
set_option linter.all false
set_option maxRecDepth 100000
namespace Go.Proofs.YtcpmjogeafhpnaaDoor.Tx
open Go.RowKit Go.Sep
attribute [local irreducible] Go.wpList Go.Code.wp

set_option maxHeartbeats 1000000 in
theorem fold_c {I : IM} {l : List UInt8} (hn : l.length ≤ 1000000) : Fun Tryd.prog 100 #[.string ⟨(l).toArray⟩] I (fun v J => v = .string ⟨(fldS l).toArray⟩) := by
  refine enter_rule 6 [(0, .string ⟨(l).toArray⟩)] Tryd.func100 rfl (by kernel_rfl) ?_
  intro w s
  refine wp_seq ?_
  refine region_rule ?_
  refine ops_rule (C := []) [] [] 1 [] 0 (fun φ1 => [(2, .string ⟨#[]⟩)]) (fun φ1 => []) (fun φ1 => []) s trivial (fun φ1 => by kernel_rfl) ?_
  intro φ1 w1 s
  refine ops_done (by kernel_rfl) ?_
  refine wp_seq ?_
  refine region_rule ?_
  refine ops_rule (C := []) [] [] 1 [] 0 (fun φ2 => [(3, .string ⟨(l).toArray⟩)]) (fun φ2 => []) (fun φ2 => []) s trivial (fun φ2 => by kernel_rfl) ?_
  intro φ2 w2 s
  refine call_rule (some 4) s (fields_c (l := l) hn) (by kernel_rfl) ?_
  rintro v3 I3 w3 le3 ⟨A3, cur3, rfl, hA3, hcur3⟩ s
  refine call_rule (some 5) s (join_c (l := l) hn hA3 hcur3) (by kernel_rfl) ?_
  intro v4 I4 w4 le4 h4 s
  obtain rfl := h4
  refine ops_rule (C := []) [] [] 1 [] 0 (fun φ5 => [(2, .string ⟨((fldS l)).toArray⟩)]) (fun φ5 => []) (fun φ5 => []) s trivial (fun φ5 => by kernel_rfl) ?_
  intro φ5 w5 s
  refine ops_done (by kernel_rfl) ?_
  refine wp_ret ?_
  refine ret_rule (C := []) [] [] (.string ⟨((fldS l)).toArray⟩) [] [] s trivial (by kernel_rfl) ?_
  exact ⟨_, _, _, rfl, s, rfl⟩

end Go.Proofs.YtcpmjogeafhpnaaDoor.Tx

/- What a mail's address is, byte by byte. -/
set_option linter.all false
set_option maxRecDepth 100000
namespace Go.Proofs.YtcpmjogeafhpnaaDoor.Tx
open Go.RowKit Go.Sep Go.Lib
def okA (b : UInt8) : Bool := decide (32 < b.toNat ∧ b.toNat < 127)
def okM (b : UInt8) : Bool := decide (32 < b.toNat ∧ b.toNat < 127 ∧ b.toNat ≠ 64)
def part (l : List UInt8) : Bool := l.all okM && !(decide (l = []))
theorem t46 {x : UInt8} : x.toNat = 46 ↔ x = 46 := ⟨fun h => UInt8.toNat_inj.1 h, fun h => by rw [h]; rfl⟩
end Go.Proofs.YtcpmjogeafhpnaaDoor.Tx
