/- Bits of any bytes are read. -/
import Derived.Test.YtpnlaeapnokipaaBwW13
import Derived.Test.YtpnlaeapnokipaaBwC10
set_option linter.all false
set_option maxRecDepth 100000
namespace Go.Proofs.Ytpnlaeapnokipaa
open Go.RowKit Go.Sep
attribute [local irreducible] Go.wpList Go.Code.wp

set_option maxHeartbeats 400000 in
theorem heldA_c {I : IM} {z : Int} : Fun Try.prog 62 #[.int .i64 z] I (fun v J => v = .int .i64 ((clampN z : Nat) : Int)) := by
  refine enter_rule 6 [(0, .int .i64 z)] Try.func62 rfl (by kernel_rfl) ?_
  intro w s
  refine wp_seq ?_
  refine region_rule ?_
  refine ops_rule (C := []) [] [] 1 [] 0 (fun φ1 => [(2, .int .i64 0)]) (fun φ1 => []) (fun φ1 => []) s trivial (fun φ1 => by kernel_rfl) ?_
  intro φ1 w1 s
  refine ops_done (by kernel_rfl) ?_
  refine wp_seq ?_
  refine region_rule ?_
  refine ops_rule (C := []) [] [] 4 [] 0 (fun φ2 => [(2, .int .i64 (if ((64 : Nat) : Int) < (if ((0 : Nat) : Int) > z then ((0 : Nat) : Int) else z) then ((64 : Nat) : Int) else (if ((0 : Nat) : Int) > z then ((0 : Nat) : Int) else z))), (5, .int .i64 (if ((64 : Nat) : Int) < (if ((0 : Nat) : Int) > z then ((0 : Nat) : Int) else z) then ((64 : Nat) : Int) else (if ((0 : Nat) : Int) > z then ((0 : Nat) : Int) else z))), (4, .int .i64 (if ((0 : Nat) : Int) > z then ((0 : Nat) : Int) else z)), (3, .int .i64 z)]) (fun φ2 => []) (fun φ2 => []) s trivial (fun φ2 => by kernel_rfl) ?_
  intro φ2 w2 s
  refine ops_done (by kernel_rfl) ?_
  refine wp_ret ?_
  refine ret_rule (C := []) [] [] (.int .i64 (if ((64 : Nat) : Int) < (if ((0 : Nat) : Int) > z then ((0 : Nat) : Int) else z) then ((64 : Nat) : Int) else (if ((0 : Nat) : Int) > z then ((0 : Nat) : Int) else z))) [] [] s trivial (by kernel_rfl) ?_
  exact ⟨_, _, _, rfl, s, congrArg (Value.int .i64) (by unfold clampN; (repeat' split) <;> omega)⟩

set_option maxHeartbeats 2000000 in
theorem getG_c {I : IM} {l : List UInt8} {a : Option Addr} {n c : Nat} (hl : BSl I l (.slice a n c)) (hn9 : l.length ≤ 1000000) {r p : Nat} {e : Nat} {z : Int} (hp : p ≤ l.length * 8) : FunM Try.prog 26 #[.pointer (some ⟨r, 0, none⟩), .int .i64 z] I [(r, .cells #[.slice a n c, .int .i64 ((p : Nat) : Int), .int .i64 ((e : Nat) : Int)] 99)] (fun v J H' => ∃ b' : OB, H' = [b'] ∧ b'.1 = r ∧ v = .int .u64 ((geV l p e (clampN z) : Nat) : Int) ∧ b' = (r, .cells #[.slice a n c, .int .i64 ((p + geD l p e (clampN z) : Nat) : Int), .int .i64 ((geE l p e (clampN z) : Nat) : Int)] 99)) := by
  obtain ⟨rfl, -⟩ := hl.cap
  refine enterM_rule 44 [(0, .pointer (some ⟨r, 0, none⟩)), (1, .int .i64 z)] Try.func26 rfl (by kernel_rfl) ?_
  intro w s
  refine wp_seq ?_
  refine region_rule ?_
  refine ops_rule (C := []) [(r, .cells #[.slice a l.length c, .int .i64 ((p : Nat) : Int), .int .i64 ((e : Nat) : Int)] 99)] [] 1 [] 0 (fun φ1 => [(4, .int .u64 0)]) (fun φ1 => [(r, .cells #[.slice a l.length c, .int .i64 ((p : Nat) : Int), .int .i64 ((e : Nat) : Int)] 99)]) (fun φ1 => []) s trivial (fun φ1 => by kernel_rfl) ?_
  intro φ1 w1 s
  refine ops_done (by kernel_rfl) ?_
  refine wp_seq ?_
  refine region_rule ?_
  refine ops_rule (C := []) [(r, .cells #[.slice a l.length c, .int .i64 ((p : Nat) : Int), .int .i64 ((e : Nat) : Int)] 99)] [] 1 [] 0 (fun φ2 => [(7, .int .i64 z)]) (fun φ2 => [(r, .cells #[.slice a l.length c, .int .i64 ((p : Nat) : Int), .int .i64 ((e : Nat) : Int)] 99)]) (fun φ2 => []) s trivial (fun φ2 => by kernel_rfl) ?_
  intro φ2 w2 s
  refine call_rule (some 8) s (heldA_c (z := z)) (by kernel_rfl) ?_
  intro v3 I3 w3 le3 h3 s
  replace hl := BSl.mono le3 hl
  obtain rfl := h3
  refine ops_rule (C := []) [(r, .cells #[.slice a l.length c, .int .i64 ((p : Nat) : Int), .int .i64 ((e : Nat) : Int)] 99)] [] 1 [] 0 (fun φ4 => [(1, .int .i64 ((clampN z : Nat) : Int))]) (fun φ4 => [(r, .cells #[.slice a l.length c, .int .i64 ((p : Nat) : Int), .int .i64 ((e : Nat) : Int)] 99)]) (fun φ4 => []) s trivial (fun φ4 => by kernel_rfl) ?_
  intro φ4 w4 s
  refine ops_done (by kernel_rfl) ?_
  refine wp_seq ?_
  refine wp_seq ?_
  refine region_rule ?_
  refine ops_rule (C := []) [(r, .cells #[.slice a l.length c, .int .i64 ((p : Nat) : Int), .int .i64 ((e : Nat) : Int)] 99)] [] 1 [] 0 (fun φ5 => [(9, .pointer (some ⟨r, 0, none⟩))]) (fun φ5 => [(r, .cells #[.slice a l.length c, .int .i64 ((p : Nat) : Int), .int .i64 ((e : Nat) : Int)] 99)]) (fun φ5 => []) s trivial (fun φ5 => by kernel_rfl) ?_
  intro φ5 w5 s
  refine callB_rule (b := (r, .cells #[.slice a l.length c, .int .i64 ((p : Nat) : Int), .int .i64 ((e : Nat) : Int)] 99)) (H := [(r, .cells #[.slice a l.length c, .int .i64 ((p : Nat) : Int), .int .i64 ((e : Nat) : Int)] 99)]) (F := []) (Hr := []) (some 10) 0 s (by kernel_rfl) (by kernel_rfl) (err_c (r := r) (v0 := .slice a l.length c) (v1 := .int .i64 ((p : Nat) : Int)) (e := e)) (by kernel_rfl) ?_
  rintro v6 I6 w6 b6 le6 - h6 s
  replace hl := BSl.mono le6 hl
  obtain ⟨rfl, rfl⟩ := h6
  refine ops_rule (C := []) [(r, .cells #[.slice a l.length c, .int .i64 ((p : Nat) : Int), .int .i64 ((e : Nat) : Int)] 99)] [] 1 [] 0 (fun φ7 => [(11, .bool (((e : Nat) : Int) != ((0 : Nat) : Int)))]) (fun φ7 => [(r, .cells #[.slice a l.length c, .int .i64 ((p : Nat) : Int), .int .i64 ((e : Nat) : Int)] 99)]) (fun φ7 => []) s trivial (fun φ7 => by kernel_rfl) ?_
  intro φ7 w7 s
  rw [nat_neq (a := e) (b := 0)]
  refine ops_done (by kernel_rfl) ?_
  rcases Bool.eq_false_or_eq_true (decide (e ≠ 0)) with hc8 | hc8
  ·
    rw [hc8]
    refine cond_true_rule (b := true) (by kernel_rfl) rfl ?_
    refine wp_seq ?_
    refine region_rule ?_
    refine ops_rule (C := []) [(r, .cells #[.slice a l.length c, .int .i64 ((p : Nat) : Int), .int .i64 ((e : Nat) : Int)] 99)] [] 1 [] 0 (fun φ9 => [(4, .int .u64 0)]) (fun φ9 => [(r, .cells #[.slice a l.length c, .int .i64 ((p : Nat) : Int), .int .i64 ((e : Nat) : Int)] 99)]) (fun φ9 => []) s trivial (fun φ9 => by kernel_rfl) ?_
    intro φ9 w9 s
    refine ops_done (by kernel_rfl) ?_
    refine wp_ret ?_
    refine ret_rule (C := []) [(r, .cells #[.slice a l.length c, .int .i64 ((p : Nat) : Int), .int .i64 ((e : Nat) : Int)] 99)] [] (.int .u64 0) [] [] s trivial (by kernel_rfl) ?_
    exact ⟨_, _, _, rfl, s, (by have hq0 := of_decide_eq_true hc8; exact ⟨_, rfl, rfl, (by unfold geV; rw [if_neg (by omega)]; rfl), (by (unfold geD; first | rw [if_pos (by omega)] | rw [if_neg (by omega)]); (unfold geE; first | rw [if_pos (by omega)] | rw [if_neg (by omega)]); try rfl)⟩)⟩
  ·
    rw [hc8]
    refine cond_false_rule (b := false) (by kernel_rfl) rfl ?_
    refine wp_skip ?_
    refine wp_seq ?_
    refine wp_seq ?_
    refine region_rule ?_
    refine ops_rule (C := []) [(r, .cells #[.slice a l.length c, .int .i64 ((p : Nat) : Int), .int .i64 ((e : Nat) : Int)] 99)] [] 2 [] 0 (fun φ10 => [(13, .pointer (some ⟨r, 0, none⟩)), (12, .int .i64 ((clampN z : Nat) : Int))]) (fun φ10 => [(r, .cells #[.slice a l.length c, .int .i64 ((p : Nat) : Int), .int .i64 ((e : Nat) : Int)] 99)]) (fun φ10 => []) s trivial (fun φ10 => by kernel_rfl) ?_
    intro φ10 w10 s
    refine callB_rule (b := (r, .cells #[.slice a l.length c, .int .i64 ((p : Nat) : Int), .int .i64 ((e : Nat) : Int)] 99)) (H := [(r, .cells #[.slice a l.length c, .int .i64 ((p : Nat) : Int), .int .i64 ((e : Nat) : Int)] 99)]) (F := []) (Hr := []) (some 14) 0 s (by kernel_rfl) (by kernel_rfl) (left_c (e := e) (r := r) (p := p) hl (hn9) (by omega)) (by kernel_rfl) ?_
    rintro v11 I11 w11 b11 le11 - h11 s
    replace hl := BSl.mono le11 hl
    obtain ⟨rfl, rfl⟩ := h11
    refine ops_rule (C := []) [(r, .cells #[.slice a l.length c, .int .i64 ((p : Nat) : Int), .int .i64 ((e : Nat) : Int)] 99)] [] 1 [] 0 (fun φ12 => [(15, .bool (decide (((clampN z : Nat) : Int) > ((l.length * 8 - p : Nat) : Int))))]) (fun φ12 => [(r, .cells #[.slice a l.length c, .int .i64 ((p : Nat) : Int), .int .i64 ((e : Nat) : Int)] 99)]) (fun φ12 => []) s trivial (fun φ12 => by kernel_rfl) ?_
    intro φ12 w12 s
    rw [nat_gtr (a := (clampN z)) (b := (l.length * 8 - p))]
    refine ops_done (by kernel_rfl) ?_
    rcases Bool.eq_false_or_eq_true (decide ((l.length * 8 - p) < (clampN z))) with hc13 | hc13
    ·
      rw [hc13]
      refine cond_true_rule (b := true) (by kernel_rfl) rfl ?_
      refine wp_seq ?_
      refine region_rule ?_
      refine ops_rule (C := []) [(r, .cells #[.slice a l.length c, .int .i64 ((p : Nat) : Int), .int .i64 ((e : Nat) : Int)] 99)] [] 4 [.o 0] 0 (fun φ14 => [(18, .pointer (some ⟨r, 2, none⟩)), (17, .pointer (some ⟨r, 0, none⟩)), (16, .pointer (some ⟨r, 0, none⟩))]) (fun φ14 => [(r, .cells #[.slice a l.length c, .int .i64 ((p : Nat) : Int), .int .i64 6] 99)]) (fun φ14 => [r]) s trivial (fun φ14 => by kernel_rfl) ?_
      intro φ14 w14 s
      refine ops_done (by kernel_rfl) ?_
      refine wp_seq ?_
      refine region_rule ?_
      refine ops_rule (C := []) [(r, .cells #[.slice a l.length c, .int .i64 ((p : Nat) : Int), .int .i64 6] 99)] [] 1 [] 0 (fun φ15 => [(4, .int .u64 0)]) (fun φ15 => [(r, .cells #[.slice a l.length c, .int .i64 ((p : Nat) : Int), .int .i64 6] 99)]) (fun φ15 => []) s trivial (fun φ15 => by kernel_rfl) ?_
      intro φ15 w15 s
      refine ops_done (by kernel_rfl) ?_
      refine wp_ret ?_
      refine ret_rule (C := []) [(r, .cells #[.slice a l.length c, .int .i64 ((p : Nat) : Int), .int .i64 6] 99)] [] (.int .u64 0) [] [] s trivial (by kernel_rfl) ?_
      exact ⟨_, _, _, rfl, s, (by have hq0 := of_decide_eq_false hc8; have hq1 := of_decide_eq_true hc13; exact ⟨_, rfl, rfl, (by unfold geV; rw [if_neg (by omega)]; rfl), (by (unfold geD; first | rw [if_pos (by omega)] | rw [if_neg (by omega)]); (unfold geE; first | rw [if_pos (by omega)] | rw [if_neg (by omega)]); try rfl)⟩)⟩
    ·
      rw [hc13]
      refine cond_false_rule (b := false) (by kernel_rfl) rfl ?_
      refine wp_skip ?_
      refine wp_seq ?_
      refine region_rule ?_
      refine ops_rule (C := []) [(r, .cells #[.slice a l.length c, .int .i64 ((p : Nat) : Int), .int .i64 ((e : Nat) : Int)] 99)] [] 1 [] 0 (fun φ16 => [(5, .int .u64 0)]) (fun φ16 => [(r, .cells #[.slice a l.length c, .int .i64 ((p : Nat) : Int), .int .i64 ((e : Nat) : Int)] 99)]) (fun φ16 => []) s trivial (fun φ16 => by kernel_rfl) ?_
      intro φ16 w16 s
      refine ops_done (by kernel_rfl) ?_
      refine wp_seq ?_
      refine wp_seq ?_
      refine region_rule ?_
      refine ops_rule (C := []) [(r, .cells #[.slice a l.length c, .int .i64 ((p : Nat) : Int), .int .i64 ((e : Nat) : Int)] 99)] [] 2 [] 0 (fun φ17 => [(20, .int .i64 0), (19, .int .i64 ((clampN z : Nat) : Int))]) (fun φ17 => [(r, .cells #[.slice a l.length c, .int .i64 ((p : Nat) : Int), .int .i64 ((e : Nat) : Int)] 99)]) (fun φ17 => []) s trivial (fun φ17 => by kernel_rfl) ?_
      intro φ17 w17 s
      refine ops_done (by kernel_rfl) ?_
      refine wp_block ?_
      have hle18 := IM.Le.refl I11
      refine loop_rule (fun (x : Nat) => [(0, .pointer (some ⟨r, 0, none⟩)), (1, .int .i64 ((clampN z : Nat) : Int)), (19, .int .i64 ((clampN z : Nat) : Int)), (5, .int .u64 ((rd l p x : Nat) : Int)), (20, .int .i64 ((x : Nat) : Int))]) (fun (x : Nat) => [(r, .cells #[.slice a l.length c, .int .i64 ((p : Nat) : Int), .int .i64 ((e : Nat) : Int)] 99)]) (fun m (x : Nat) J => IM.Le I11 J ∧ x + m = (clampN z)) ((clampN z)) 0 s (by kernel_rfl) (List.Sublist.cons₂ _ List.Sublist.slnil) ⟨IM.Le.refl _, Nat.zero_add _⟩ ?_
      rintro m19 i19 I19 w19 ev19 s ⟨le19, hi19_0⟩
      try dsimp only at s hi19_0 ⊢
      replace hl := BSl.mono le19 hl
      replace hle18 := leMono le19 hle18
      refine wp_seq ?_
      refine region_rule ?_
      refine ops_rule (C := []) [(r, .cells #[.slice a l.length c, .int .i64 ((p : Nat) : Int), .int .i64 ((e : Nat) : Int)] 99)] [] 1 [] 0 (fun φ20 => [(21, .bool (decide (((i19 : Nat) : Int) < ((clampN z : Nat) : Int))))]) (fun φ20 => [(r, .cells #[.slice a l.length c, .int .i64 ((p : Nat) : Int), .int .i64 ((e : Nat) : Int)] 99)]) (fun φ20 => []) s trivial (fun φ20 => by kernel_rfl) ?_
      intro φ20 w20 s
      rw [nat_lss (a := i19) (b := (clampN z))]
      refine ops_done (by kernel_rfl) ?_
      refine wp_seq ?_
      rcases Bool.eq_false_or_eq_true (decide (i19 < (clampN z))) with hc21 | hc21
      ·
        rw [hc21]
        refine cond_true_rule (b := true) (by kernel_rfl) rfl ?_
        refine wp_skip ?_
        refine wp_seq ?_
        refine wp_block ?_
        refine wp_seq ?_
        refine region_rule ?_
        refine ops_rule (C := []) [(r, .cells #[.slice a l.length c, .int .i64 ((p : Nat) : Int), .int .i64 ((e : Nat) : Int)] 99)] [] 2 [] 0 (fun φ22 => [(6, .int .i64 ((i19 : Nat) : Int)), (22, .int .i64 ((i19 : Nat) : Int))]) (fun φ22 => [(r, .cells #[.slice a l.length c, .int .i64 ((p : Nat) : Int), .int .i64 ((e : Nat) : Int)] 99)]) (fun φ22 => []) s trivial (fun φ22 => by kernel_rfl) ?_
        intro φ22 w22 s
        refine ops_done (by kernel_rfl) ?_
        refine region_rule ?_
        refine ops_rule (C := []) [(r, .cells #[.slice a l.length c, .int .i64 ((p : Nat) : Int), .int .i64 ((e : Nat) : Int)] 99)] [] 1 [] 0 (fun φ23 => [(23, .int .u64 ((rd l p i19 : Nat) : Int))]) (fun φ23 => [(r, .cells #[.slice a l.length c, .int .i64 ((p : Nat) : Int), .int .i64 ((e : Nat) : Int)] 99)]) (fun φ23 => []) s trivial (fun φ23 => by kernel_rfl) ?_
        intro φ23 w23 s
        refine sem_rule (binOp .shl 27 (.int .u64 ((rd l p i19 : Nat) : Int)) (.int .u64 ((1 : Nat) : Int))) (some 24) (.int .u64 ((bshl 64 (rd l p i19) 1 : Nat) : Int)) (by kernel_rfl) (run_shlU (.inr (.inr (.inl rfl)))) ?_
        refine ops_rule (C := []) [(r, .cells #[.slice a l.length c, .int .i64 ((p : Nat) : Int), .int .i64 ((e : Nat) : Int)] 99)] [] 7 [.o 0] 0 (fun φ24 => [(31, .int .i64 (IntKind.wrap .i64 (((p : Nat) : Int) + ((i19 : Nat) : Int)))), (30, .int .i64 ((i19 : Nat) : Int)), (29, .int .i64 ((p : Nat) : Int)), (28, .pointer (some ⟨r, 1, none⟩)), (27, .pointer (some ⟨r, 0, none⟩)), (26, .pointer (some ⟨r, 0, none⟩)), (25, .pointer (some ⟨r, 0, none⟩))]) (fun φ24 => [(r, .cells #[.slice a l.length c, .int .i64 ((p : Nat) : Int), .int .i64 ((e : Nat) : Int)] 99)]) (fun φ24 => [r]) s trivial (fun φ24 => by kernel_rfl) ?_
        intro φ24 w24 s
        rw [nat_addI (a := p) (b := i19) (by have hcl := clampN_le z; have hq0 := of_decide_eq_false hc8; have hq1 := of_decide_eq_false hc13; have hq2 := of_decide_eq_true hc21; omega)]
        refine callB_rule (b := (r, .cells #[.slice a l.length c, .int .i64 ((p : Nat) : Int), .int .i64 ((e : Nat) : Int)] 99)) (H := [(r, .cells #[.slice a l.length c, .int .i64 ((p : Nat) : Int), .int .i64 ((e : Nat) : Int)] 99)]) (F := []) (Hr := []) (some 32) 0 s (by kernel_rfl) (by kernel_rfl) (bit_c (e := e) (r := r) (p := p) hl (hn9) (j := p + i19) (by have hq0 := of_decide_eq_false hc8; have hq1 := of_decide_eq_false hc13; have hq2 := of_decide_eq_true hc21; omega)) (by kernel_rfl) ?_
        rintro v25 I25 w25 b25 le25 - h25 s
        replace hl := BSl.mono le25 hl
        replace hle18 := leMono le25 hle18
        obtain ⟨rfl, rfl⟩ := h25
        refine sem_rule (binOp .or 27 (.int .u64 ((bshl 64 (rd l p i19) 1 : Nat) : Int)) (.int .u64 (((bitB l (p + i19)).toNat : Nat) : Int))) (some 33) (.int .u64 ((bor 64 (bshl 64 (rd l p i19) 1) ((bitB l (p + i19)).toNat) : Nat) : Int)) (by kernel_rfl) (run_bit64.2.2.1) ?_
        refine ops_rule (C := []) [(r, .cells #[.slice a l.length c, .int .i64 ((p : Nat) : Int), .int .i64 ((e : Nat) : Int)] 99)] [] 1 [] 0 (fun φ26 => [(5, .int .u64 ((bor 64 (bshl 64 (rd l p i19) 1) ((bitB l (p + i19)).toNat) : Nat) : Int))]) (fun φ26 => [(r, .cells #[.slice a l.length c, .int .i64 ((p : Nat) : Int), .int .i64 ((e : Nat) : Int)] 99)]) (fun φ26 => []) s trivial (fun φ26 => by kernel_rfl) ?_
        intro φ26 w26 s
        refine ops_done (by kernel_rfl) ?_
        refine region_rule ?_
        refine ops_rule (C := []) [(r, .cells #[.slice a l.length c, .int .i64 ((p : Nat) : Int), .int .i64 ((e : Nat) : Int)] 99)] [] 2 [] 0 (fun φ27 => [(20, .int .i64 (IntKind.wrap .i64 (((i19 : Nat) : Int) + ((1 : Nat) : Int)))), (34, .int .i64 (IntKind.wrap .i64 (((i19 : Nat) : Int) + ((1 : Nat) : Int))))]) (fun φ27 => [(r, .cells #[.slice a l.length c, .int .i64 ((p : Nat) : Int), .int .i64 ((e : Nat) : Int)] 99)]) (fun φ27 => []) s trivial (fun φ27 => by kernel_rfl) ?_
        intro φ27 w27 s
        rw [nat_addI (a := i19) (b := 1) (by have hcl := clampN_le z; have hq0 := of_decide_eq_false hc8; have hq1 := of_decide_eq_false hc13; have hq2 := of_decide_eq_true hc21; omega)]
        refine ops_done (by kernel_rfl) ?_
        have hq9 := of_decide_eq_true hc21
        rw [bor64_one (rd_63 hq9 (clampN_le z)) (bit2 l (p + i19))]
        exact ⟨⟨m19 - 1, i19 + 1, _, _, _, by omega, rfl, s, (List.Sublist.cons₂ _ List.Sublist.slnil), by kernel_rfl, hle18, by show i19 + 1 + (m19 - 1) = (clampN z); omega⟩⟩
      ·
        rw [hc21]
        refine cond_false_rule (b := false) (by kernel_rfl) rfl ?_
        refine wp_exit ?_
        refine wp_seq ?_
        refine region_rule ?_
        refine ops_rule (C := []) [(r, .cells #[.slice a l.length c, .int .i64 ((p : Nat) : Int), .int .i64 ((e : Nat) : Int)] 99)] [] 9 [.o 0, .o 0] 0 (fun φ28 => [(42, .pointer (some ⟨r, 1, none⟩)), (41, .pointer (some ⟨r, 0, none⟩)), (40, .int .i64 (IntKind.wrap .i64 (((p : Nat) : Int) + ((clampN z : Nat) : Int)))), (39, .int .i64 ((clampN z : Nat) : Int)), (38, .int .i64 ((p : Nat) : Int)), (37, .pointer (some ⟨r, 1, none⟩)), (36, .pointer (some ⟨r, 0, none⟩)), (35, .pointer (some ⟨r, 0, none⟩))]) (fun φ28 => [(r, .cells #[.slice a l.length c, .int .i64 (IntKind.wrap .i64 (((p : Nat) : Int) + ((clampN z : Nat) : Int))), .int .i64 ((e : Nat) : Int)] 99)]) (fun φ28 => [r, r]) s trivial (fun φ28 => by kernel_rfl) ?_
        intro φ28 w28 s
        rw [nat_addI (a := p) (b := (clampN z)) (by have hcl := clampN_le z; have hq0 := of_decide_eq_false hc8; have hq1 := of_decide_eq_false hc13; have hq2 := of_decide_eq_false hc21; omega)] at s ⊢
        refine ops_done (by kernel_rfl) ?_
        refine wp_seq ?_
        refine region_rule ?_
        refine ops_rule (C := []) [(r, .cells #[.slice a l.length c, .int .i64 ((p + (clampN z) : Nat) : Int), .int .i64 ((e : Nat) : Int)] 99)] [] 2 [] 0 (fun φ29 => [(4, .int .u64 ((rd l p i19 : Nat) : Int)), (43, .int .u64 ((rd l p i19 : Nat) : Int))]) (fun φ29 => [(r, .cells #[.slice a l.length c, .int .i64 ((p + (clampN z) : Nat) : Int), .int .i64 ((e : Nat) : Int)] 99)]) (fun φ29 => []) s trivial (fun φ29 => by kernel_rfl) ?_
        intro φ29 w29 s
        refine ops_done (by kernel_rfl) ?_
        refine wp_ret ?_
        refine ret_rule (C := []) [(r, .cells #[.slice a l.length c, .int .i64 ((p + (clampN z) : Nat) : Int), .int .i64 ((e : Nat) : Int)] 99)] [] (.int .u64 ((rd l p i19 : Nat) : Int)) [] [] s trivial (by kernel_rfl) ?_
        exact ⟨_, _, _, rfl, s, (by have hq0 := of_decide_eq_false hc8; have hq1 := of_decide_eq_false hc13; have hq2 := of_decide_eq_false hc21; have hq9 := of_decide_eq_false hc21; have hi9 := hi19_0; have hg9 : i19 = (clampN z) := (by omega); exact ⟨_, rfl, rfl, (by unfold geV; rw [if_pos (by omega), hg9]), (by (unfold geD; first | rw [if_pos (by omega)] | rw [if_neg (by omega)]); (unfold geE; first | rw [if_pos (by omega)] | rw [if_neg (by omega)]); try rfl)⟩)⟩

set_option maxHeartbeats 2000000 in
theorem oneLeft_c {I : IM} {l : List UInt8} {a : Option Addr} {n c : Nat} (hl : BSl I l (.slice a n c)) (hn9 : l.length ≤ 1000000) {r p : Nat} {e : Nat} (hp : p ≤ l.length * 8) : FunM Try.prog 68 #[.pointer (some ⟨r, 0, none⟩)] I [(r, .cells #[.slice a n c, .int .i64 ((p : Nat) : Int), .int .i64 ((e : Nat) : Int)] 99)] (fun v J H' => ∃ b' : OB, H' = [b'] ∧ b'.1 = r ∧ v = .bool (oneL l p) ∧ b' = (r, .cells #[.slice a n c, .int .i64 ((p : Nat) : Int), .int .i64 ((e : Nat) : Int)] 99)) := by
  obtain ⟨rfl, -⟩ := hl.cap
  refine enterM_rule 19 [(0, .pointer (some ⟨r, 0, none⟩))] Try.func68 rfl (by kernel_rfl) ?_
  intro w s
  refine wp_seq ?_
  refine region_rule ?_
  refine ops_rule (C := []) [(r, .cells #[.slice a l.length c, .int .i64 ((p : Nat) : Int), .int .i64 ((e : Nat) : Int)] 99)] [] 1 [] 0 (fun φ1 => [(2, .bool false)]) (fun φ1 => [(r, .cells #[.slice a l.length c, .int .i64 ((p : Nat) : Int), .int .i64 ((e : Nat) : Int)] 99)]) (fun φ1 => []) s trivial (fun φ1 => by kernel_rfl) ?_
  intro φ1 w1 s
  refine ops_done (by kernel_rfl) ?_
  refine wp_seq ?_
  refine wp_seq ?_
  refine region_rule ?_
  refine ops_rule (C := []) [(r, .cells #[.slice a l.length c, .int .i64 ((p : Nat) : Int), .int .i64 ((e : Nat) : Int)] 99)] [] 1 [] 0 (fun φ2 => [(4, .pointer (some ⟨r, 0, none⟩))]) (fun φ2 => [(r, .cells #[.slice a l.length c, .int .i64 ((p : Nat) : Int), .int .i64 ((e : Nat) : Int)] 99)]) (fun φ2 => []) s trivial (fun φ2 => by kernel_rfl) ?_
  intro φ2 w2 s
  refine callB_rule (b := (r, .cells #[.slice a l.length c, .int .i64 ((p : Nat) : Int), .int .i64 ((e : Nat) : Int)] 99)) (H := [(r, .cells #[.slice a l.length c, .int .i64 ((p : Nat) : Int), .int .i64 ((e : Nat) : Int)] 99)]) (F := []) (Hr := []) (some 5) 0 s (by kernel_rfl) (by kernel_rfl) (left_c (e := e) (r := r) (p := p) hl (hn9) (by omega)) (by kernel_rfl) ?_
  rintro v3 I3 w3 b3 le3 - h3 s
  replace hl := BSl.mono le3 hl
  obtain ⟨rfl, rfl⟩ := h3
  refine ops_rule (C := []) [(r, .cells #[.slice a l.length c, .int .i64 ((p : Nat) : Int), .int .i64 ((e : Nat) : Int)] 99)] [] 1 [] 0 (fun φ4 => [(6, .int .i64 0)]) (fun φ4 => [(r, .cells #[.slice a l.length c, .int .i64 ((p : Nat) : Int), .int .i64 ((e : Nat) : Int)] 99)]) (fun φ4 => []) s trivial (fun φ4 => by kernel_rfl) ?_
  intro φ4 w4 s
  refine ops_done (by kernel_rfl) ?_
  refine wp_block ?_
  have hle5 := IM.Le.refl I3
  refine loop_rule (fun (x : Nat) => [(0, .pointer (some ⟨r, 0, none⟩)), (5, .int .i64 ((l.length * 8 - p : Nat) : Int)), (6, .int .i64 ((x : Nat) : Int))]) (fun (x : Nat) => [(r, .cells #[.slice a l.length c, .int .i64 ((p : Nat) : Int), .int .i64 ((e : Nat) : Int)] 99)]) (fun m (x : Nat) J => IM.Le I3 J ∧ x + m = l.length * 8 - p ∧ ∀ j, j < x → bitB l (p + j) = false) (l.length * 8 - p) 0 s (by kernel_rfl) (List.Sublist.cons₂ _ List.Sublist.slnil) ⟨IM.Le.refl _, Nat.zero_add _, (fun j hj => absurd hj (Nat.not_lt_zero j))⟩ ?_
  rintro m6 i6 I6 w6 ev6 s ⟨le6, hi6_0, hi6_1⟩
  try dsimp only at s hi6_0 hi6_1 ⊢
  replace hl := BSl.mono le6 hl
  replace hle5 := leMono le6 hle5
  refine wp_seq ?_
  refine region_rule ?_
  refine ops_rule (C := []) [(r, .cells #[.slice a l.length c, .int .i64 ((p : Nat) : Int), .int .i64 ((e : Nat) : Int)] 99)] [] 1 [] 0 (fun φ7 => [(7, .bool (decide (((i6 : Nat) : Int) < ((l.length * 8 - p : Nat) : Int))))]) (fun φ7 => [(r, .cells #[.slice a l.length c, .int .i64 ((p : Nat) : Int), .int .i64 ((e : Nat) : Int)] 99)]) (fun φ7 => []) s trivial (fun φ7 => by kernel_rfl) ?_
  intro φ7 w7 s
  rw [nat_lss (a := i6) (b := (l.length * 8 - p))]
  refine ops_done (by kernel_rfl) ?_
  refine wp_seq ?_
  rcases Bool.eq_false_or_eq_true (decide (i6 < (l.length * 8 - p))) with hc8 | hc8
  ·
    rw [hc8]
    refine cond_true_rule (b := true) (by kernel_rfl) rfl ?_
    refine wp_skip ?_
    refine wp_seq ?_
    refine wp_block ?_
    refine wp_seq ?_
    refine region_rule ?_
    refine ops_rule (C := []) [(r, .cells #[.slice a l.length c, .int .i64 ((p : Nat) : Int), .int .i64 ((e : Nat) : Int)] 99)] [] 2 [] 0 (fun φ9 => [(3, .int .i64 ((i6 : Nat) : Int)), (8, .int .i64 ((i6 : Nat) : Int))]) (fun φ9 => [(r, .cells #[.slice a l.length c, .int .i64 ((p : Nat) : Int), .int .i64 ((e : Nat) : Int)] 99)]) (fun φ9 => []) s trivial (fun φ9 => by kernel_rfl) ?_
    intro φ9 w9 s
    refine ops_done (by kernel_rfl) ?_
    refine wp_seq ?_
    refine region_rule ?_
    refine ops_rule (C := []) [(r, .cells #[.slice a l.length c, .int .i64 ((p : Nat) : Int), .int .i64 ((e : Nat) : Int)] 99)] [] 7 [.o 0] 0 (fun φ10 => [(15, .int .i64 (IntKind.wrap .i64 (((p : Nat) : Int) + ((i6 : Nat) : Int)))), (14, .int .i64 ((i6 : Nat) : Int)), (13, .int .i64 ((p : Nat) : Int)), (12, .pointer (some ⟨r, 1, none⟩)), (11, .pointer (some ⟨r, 0, none⟩)), (10, .pointer (some ⟨r, 0, none⟩)), (9, .pointer (some ⟨r, 0, none⟩))]) (fun φ10 => [(r, .cells #[.slice a l.length c, .int .i64 ((p : Nat) : Int), .int .i64 ((e : Nat) : Int)] 99)]) (fun φ10 => [r]) s trivial (fun φ10 => by kernel_rfl) ?_
    intro φ10 w10 s
    rw [nat_addI (a := p) (b := i6) (by  have hq0 := of_decide_eq_true hc8; omega)]
    refine callB_rule (b := (r, .cells #[.slice a l.length c, .int .i64 ((p : Nat) : Int), .int .i64 ((e : Nat) : Int)] 99)) (H := [(r, .cells #[.slice a l.length c, .int .i64 ((p : Nat) : Int), .int .i64 ((e : Nat) : Int)] 99)]) (F := []) (Hr := []) (some 16) 0 s (by kernel_rfl) (by kernel_rfl) (bit_c (e := e) (r := r) (p := p) hl (hn9) (j := p + i6) (by have hq0 := of_decide_eq_true hc8; omega)) (by kernel_rfl) ?_
    rintro v11 I11 w11 b11 le11 - h11 s
    replace hl := BSl.mono le11 hl
    replace hle5 := leMono le11 hle5
    obtain ⟨rfl, rfl⟩ := h11
    refine ops_rule (C := []) [(r, .cells #[.slice a l.length c, .int .i64 ((p : Nat) : Int), .int .i64 ((e : Nat) : Int)] 99)] [] 1 [] 0 (fun φ12 => [(17, .bool ((((bitB l (p + i6)).toNat : Nat) : Int) == ((1 : Nat) : Int)))]) (fun φ12 => [(r, .cells #[.slice a l.length c, .int .i64 ((p : Nat) : Int), .int .i64 ((e : Nat) : Int)] 99)]) (fun φ12 => []) s trivial (fun φ12 => by kernel_rfl) ?_
    intro φ12 w12 s
    rw [nat_eql (a := ((bitB l (p + i6)).toNat)) (b := 1)]
    refine ops_done (by kernel_rfl) ?_
    rcases Bool.eq_false_or_eq_true (decide (((bitB l (p + i6)).toNat) = 1)) with hc13 | hc13
    ·
      rw [hc13]
      refine cond_true_rule (b := true) (by kernel_rfl) rfl ?_
      refine wp_seq ?_
      refine region_rule ?_
      refine ops_rule (C := []) [(r, .cells #[.slice a l.length c, .int .i64 ((p : Nat) : Int), .int .i64 ((e : Nat) : Int)] 99)] [] 1 [] 0 (fun φ14 => [(2, .bool true)]) (fun φ14 => [(r, .cells #[.slice a l.length c, .int .i64 ((p : Nat) : Int), .int .i64 ((e : Nat) : Int)] 99)]) (fun φ14 => []) s trivial (fun φ14 => by kernel_rfl) ?_
      intro φ14 w14 s
      refine ops_done (by kernel_rfl) ?_
      refine wp_ret ?_
      refine ret_rule (C := []) [(r, .cells #[.slice a l.length c, .int .i64 ((p : Nat) : Int), .int .i64 ((e : Nat) : Int)] 99)] [] (.bool true) [] [] s trivial (by kernel_rfl) ?_
      exact ⟨_, _, _, rfl, s, ⟨_, rfl, rfl, (by have hq9 := of_decide_eq_true hc8; have hb9 := of_decide_eq_true hc13; rw [oneL_true (i := i6) hq9 (by cases hbb : bitB l (p + i6) <;> simp [hbb] at hb9 ⊢)]), rfl⟩⟩
    ·
      rw [hc13]
      refine cond_false_rule (b := false) (by kernel_rfl) rfl ?_
      refine wp_skip ?_
      refine region_rule ?_
      refine ops_rule (C := []) [(r, .cells #[.slice a l.length c, .int .i64 ((p : Nat) : Int), .int .i64 ((e : Nat) : Int)] 99)] [] 2 [] 0 (fun φ15 => [(6, .int .i64 (IntKind.wrap .i64 (((i6 : Nat) : Int) + ((1 : Nat) : Int)))), (18, .int .i64 (IntKind.wrap .i64 (((i6 : Nat) : Int) + ((1 : Nat) : Int))))]) (fun φ15 => [(r, .cells #[.slice a l.length c, .int .i64 ((p : Nat) : Int), .int .i64 ((e : Nat) : Int)] 99)]) (fun φ15 => []) s trivial (fun φ15 => by kernel_rfl) ?_
      intro φ15 w15 s
      rw [nat_addI (a := i6) (b := 1) (by  have hq0 := of_decide_eq_true hc8; have hq1 := of_decide_eq_false hc13; omega)]
      refine ops_done (by kernel_rfl) ?_
      have hq9 := of_decide_eq_true hc8
      have hb9 := of_decide_eq_false hc13
      have hs9 := none_step hi6_1 hb9
      exact ⟨⟨m6 - 1, i6 + 1, _, _, _, by omega, rfl, s, (List.Sublist.cons₂ _ List.Sublist.slnil), by kernel_rfl, hle5, by show i6 + 1 + (m6 - 1) = l.length * 8 - p; omega, hs9⟩⟩
  ·
    rw [hc8]
    refine cond_false_rule (b := false) (by kernel_rfl) rfl ?_
    refine wp_exit ?_
    refine wp_seq ?_
    refine region_rule ?_
    refine ops_rule (C := []) [(r, .cells #[.slice a l.length c, .int .i64 ((p : Nat) : Int), .int .i64 ((e : Nat) : Int)] 99)] [] 1 [] 0 (fun φ16 => [(2, .bool false)]) (fun φ16 => [(r, .cells #[.slice a l.length c, .int .i64 ((p : Nat) : Int), .int .i64 ((e : Nat) : Int)] 99)]) (fun φ16 => []) s trivial (fun φ16 => by kernel_rfl) ?_
    intro φ16 w16 s
    refine ops_done (by kernel_rfl) ?_
    refine wp_ret ?_
    refine ret_rule (C := []) [(r, .cells #[.slice a l.length c, .int .i64 ((p : Nat) : Int), .int .i64 ((e : Nat) : Int)] 99)] [] (.bool false) [] [] s trivial (by kernel_rfl) ?_
    exact ⟨_, _, _, rfl, s, ⟨_, rfl, rfl, (by have hq9 := of_decide_eq_false hc8; have h9 := hi6_0; rw [oneL_false (fun i hi => hi6_1 i (by omega))]), rfl⟩⟩

set_option maxHeartbeats 2000000 in
theorem endR_c {I : IM} {l : List UInt8} {a : Option Addr} {n c : Nat} (hl : BSl I l (.slice a n c)) (hn9 : l.length ≤ 1000000) {r p : Nat} {e : Nat} (hp : p ≤ l.length * 8) : FunM Try.prog 29 #[.pointer (some ⟨r, 0, none⟩)] I [(r, .cells #[.slice a n c, .int .i64 ((p : Nat) : Int), .int .i64 ((e : Nat) : Int)] 99)] (fun v J H' => ∃ b' : OB, H' = [b'] ∧ b'.1 = r ∧ v = .int .i64 ((eoE l p e : Nat) : Int) ∧ b' = (r, .cells #[.slice a n c, .int .i64 ((p : Nat) : Int), .int .i64 ((eoE l p e : Nat) : Int)] 99)) := by
  obtain ⟨rfl, -⟩ := hl.cap
  refine enterM_rule 20 [(0, .pointer (some ⟨r, 0, none⟩))] Try.func29 rfl (by kernel_rfl) ?_
  intro w s
  refine wp_seq ?_
  refine region_rule ?_
  refine ops_rule (C := []) [(r, .cells #[.slice a l.length c, .int .i64 ((p : Nat) : Int), .int .i64 ((e : Nat) : Int)] 99)] [] 1 [] 0 (fun φ1 => [(2, .int .i64 0)]) (fun φ1 => [(r, .cells #[.slice a l.length c, .int .i64 ((p : Nat) : Int), .int .i64 ((e : Nat) : Int)] 99)]) (fun φ1 => []) s trivial (fun φ1 => by kernel_rfl) ?_
  intro φ1 w1 s
  refine ops_done (by kernel_rfl) ?_
  refine wp_seq ?_
  refine wp_seq ?_
  refine region_rule ?_
  refine ops_rule (C := []) [(r, .cells #[.slice a l.length c, .int .i64 ((p : Nat) : Int), .int .i64 ((e : Nat) : Int)] 99)] [] 1 [] 0 (fun φ2 => [(3, .pointer (some ⟨r, 0, none⟩))]) (fun φ2 => [(r, .cells #[.slice a l.length c, .int .i64 ((p : Nat) : Int), .int .i64 ((e : Nat) : Int)] 99)]) (fun φ2 => []) s trivial (fun φ2 => by kernel_rfl) ?_
  intro φ2 w2 s
  refine callB_rule (b := (r, .cells #[.slice a l.length c, .int .i64 ((p : Nat) : Int), .int .i64 ((e : Nat) : Int)] 99)) (H := [(r, .cells #[.slice a l.length c, .int .i64 ((p : Nat) : Int), .int .i64 ((e : Nat) : Int)] 99)]) (F := []) (Hr := []) (some 4) 0 s (by kernel_rfl) (by kernel_rfl) (err_c (r := r) (v0 := .slice a l.length c) (v1 := .int .i64 ((p : Nat) : Int)) (e := e)) (by kernel_rfl) ?_
  rintro v3 I3 w3 b3 le3 - h3 s
  replace hl := BSl.mono le3 hl
  obtain ⟨rfl, rfl⟩ := h3
  refine ops_rule (C := []) [(r, .cells #[.slice a l.length c, .int .i64 ((p : Nat) : Int), .int .i64 ((e : Nat) : Int)] 99)] [] 2 [] 0 (fun φ4 => [(6, .bool (((e : Nat) : Int) == ((0 : Nat) : Int))), (5, .bool (((e : Nat) : Int) == ((0 : Nat) : Int)))]) (fun φ4 => [(r, .cells #[.slice a l.length c, .int .i64 ((p : Nat) : Int), .int .i64 ((e : Nat) : Int)] 99)]) (fun φ4 => []) s trivial (fun φ4 => by kernel_rfl) ?_
  intro φ4 w4 s
  rw [nat_eql (a := e) (b := 0)]
  rcases Bool.eq_false_or_eq_true (decide (e = 0)) with hc5 | hc5
  ·
    rw [hc5]
    refine ops_rule (C := []) [(r, .cells #[.slice a l.length c, .int .i64 ((p : Nat) : Int), .int .i64 ((e : Nat) : Int)] 99)] [] 1 [] 0 (fun φ6 => [(7, .pointer (some ⟨r, 0, none⟩))]) (fun φ6 => [(r, .cells #[.slice a l.length c, .int .i64 ((p : Nat) : Int), .int .i64 ((e : Nat) : Int)] 99)]) (fun φ6 => []) s trivial (fun φ6 => by kernel_rfl) ?_
    intro φ6 w6 s
    refine callB_rule (b := (r, .cells #[.slice a l.length c, .int .i64 ((p : Nat) : Int), .int .i64 ((e : Nat) : Int)] 99)) (H := [(r, .cells #[.slice a l.length c, .int .i64 ((p : Nat) : Int), .int .i64 ((e : Nat) : Int)] 99)]) (F := []) (Hr := []) (some 8) 0 s (by kernel_rfl) (by kernel_rfl) (left_c (e := e) (r := r) (p := p) hl (hn9) (by omega)) (by kernel_rfl) ?_
    rintro v7 I7 w7 b7 le7 - h7 s
    replace hl := BSl.mono le7 hl
    obtain ⟨rfl, rfl⟩ := h7
    refine ops_rule (C := []) [(r, .cells #[.slice a l.length c, .int .i64 ((p : Nat) : Int), .int .i64 ((e : Nat) : Int)] 99)] [] 2 [] 0 (fun φ8 => [(10, .bool (decide (((l.length * 8 - p : Nat) : Int) ≥ ((8 : Nat) : Int)))), (9, .bool (decide (((l.length * 8 - p : Nat) : Int) ≥ ((8 : Nat) : Int))))]) (fun φ8 => [(r, .cells #[.slice a l.length c, .int .i64 ((p : Nat) : Int), .int .i64 ((e : Nat) : Int)] 99)]) (fun φ8 => []) s trivial (fun φ8 => by kernel_rfl) ?_
    intro φ8 w8 s
    rw [nat_geq (a := (l.length * 8 - p)) (b := 8)]
    rcases Bool.eq_false_or_eq_true (decide (8 ≤ (l.length * 8 - p))) with hc9 | hc9
    ·
      rw [hc9]
      refine ops_rule (C := []) [(r, .cells #[.slice a l.length c, .int .i64 ((p : Nat) : Int), .int .i64 ((e : Nat) : Int)] 99)] [] 4 [] 0 (fun φ10 => [(14, .bool true), (13, .bool true), (12, undef), (11, undef)]) (fun φ10 => [(r, .cells #[.slice a l.length c, .int .i64 ((p : Nat) : Int), .int .i64 ((e : Nat) : Int)] 99)]) (fun φ10 => []) s trivial (fun φ10 => by kernel_rfl) ?_
      intro φ10 w10 s
      refine ops_done (by kernel_rfl) ?_
      refine cond_true_rule (b := true) (by kernel_rfl) rfl ?_
      refine region_rule ?_
      refine ops_rule (C := []) [(r, .cells #[.slice a l.length c, .int .i64 ((p : Nat) : Int), .int .i64 ((e : Nat) : Int)] 99)] [] 4 [.o 0] 0 (fun φ11 => [(17, .pointer (some ⟨r, 2, none⟩)), (16, .pointer (some ⟨r, 0, none⟩)), (15, .pointer (some ⟨r, 0, none⟩))]) (fun φ11 => [(r, .cells #[.slice a l.length c, .int .i64 ((p : Nat) : Int), .int .i64 6] 99)]) (fun φ11 => [r]) s trivial (fun φ11 => by kernel_rfl) ?_
      intro φ11 w11 s
      refine ops_done (by kernel_rfl) ?_
      refine wp_seq ?_
      refine region_rule ?_
      refine ops_rule (C := []) [(r, .cells #[.slice a l.length c, .int .i64 ((p : Nat) : Int), .int .i64 6] 99)] [] 1 [] 0 (fun φ12 => [(18, .pointer (some ⟨r, 0, none⟩))]) (fun φ12 => [(r, .cells #[.slice a l.length c, .int .i64 ((p : Nat) : Int), .int .i64 6] 99)]) (fun φ12 => []) s trivial (fun φ12 => by kernel_rfl) ?_
      intro φ12 w12 s
      refine callB_rule (b := (r, .cells #[.slice a l.length c, .int .i64 ((p : Nat) : Int), .int .i64 6] 99)) (H := [(r, .cells #[.slice a l.length c, .int .i64 ((p : Nat) : Int), .int .i64 6] 99)]) (F := []) (Hr := []) (some 19) 0 s (by kernel_rfl) (by kernel_rfl) (err_c (r := r) (v0 := .slice a l.length c) (v1 := .int .i64 ((p : Nat) : Int)) (e := 6)) (by kernel_rfl) ?_
      rintro v13 I13 w13 b13 le13 - h13 s
      replace hl := BSl.mono le13 hl
      obtain ⟨rfl, rfl⟩ := h13
      refine ops_rule (C := []) [(r, .cells #[.slice a l.length c, .int .i64 ((p : Nat) : Int), .int .i64 6] 99)] [] 1 [] 0 (fun φ14 => [(2, .int .i64 6)]) (fun φ14 => [(r, .cells #[.slice a l.length c, .int .i64 ((p : Nat) : Int), .int .i64 6] 99)]) (fun φ14 => []) s trivial (fun φ14 => by kernel_rfl) ?_
      intro φ14 w14 s
      refine ops_done (by kernel_rfl) ?_
      refine wp_ret ?_
      refine ret_rule (C := []) [(r, .cells #[.slice a l.length c, .int .i64 ((p : Nat) : Int), .int .i64 6] 99)] [] (.int .i64 6) [] [] s trivial (by kernel_rfl) ?_
      exact ⟨_, _, _, rfl, s, (by have hq0 := of_decide_eq_true hc5; have hq1 := of_decide_eq_true hc9;  exact ⟨_, rfl, rfl, (by unfold eoE; first | (rw [if_pos (by simp_all)]; done) | (rw [if_neg (by simp_all)]; done) | (rw [if_pos (by simp_all)]; rfl) | (rw [if_neg (by simp_all)]; rfl) | (rw [if_neg (by simp_all; omega)]) | (rw [if_pos (by simp_all; omega)])), (by unfold eoE; first | (rw [if_pos (by simp_all)]; done) | (rw [if_neg (by simp_all)]; done) | (rw [if_pos (by simp_all)]; rfl) | (rw [if_neg (by simp_all)]; rfl) | (rw [if_neg (by simp_all; omega)]) | (rw [if_pos (by simp_all; omega)]))⟩)⟩
    ·
      rw [hc9]
      refine ops_rule (C := []) [(r, .cells #[.slice a l.length c, .int .i64 ((p : Nat) : Int), .int .i64 ((e : Nat) : Int)] 99)] [] 1 [] 0 (fun φ15 => [(11, .pointer (some ⟨r, 0, none⟩))]) (fun φ15 => [(r, .cells #[.slice a l.length c, .int .i64 ((p : Nat) : Int), .int .i64 ((e : Nat) : Int)] 99)]) (fun φ15 => []) s trivial (fun φ15 => by kernel_rfl) ?_
      intro φ15 w15 s
      refine callB_rule (b := (r, .cells #[.slice a l.length c, .int .i64 ((p : Nat) : Int), .int .i64 ((e : Nat) : Int)] 99)) (H := [(r, .cells #[.slice a l.length c, .int .i64 ((p : Nat) : Int), .int .i64 ((e : Nat) : Int)] 99)]) (F := []) (Hr := []) (some 12) 0 s (by kernel_rfl) (by kernel_rfl) (oneLeft_c (e := e) (r := r) (p := p) hl (hn9) (by omega)) (by kernel_rfl) ?_
      rintro v16 I16 w16 b16 le16 - h16 s
      replace hl := BSl.mono le16 hl
      obtain ⟨rfl, rfl⟩ := h16
      refine ops_rule (C := []) [(r, .cells #[.slice a l.length c, .int .i64 ((p : Nat) : Int), .int .i64 ((e : Nat) : Int)] 99)] [] 2 [] 0 (fun φ17 => [(14, .bool (oneL l p)), (13, .bool (oneL l p))]) (fun φ17 => [(r, .cells #[.slice a l.length c, .int .i64 ((p : Nat) : Int), .int .i64 ((e : Nat) : Int)] 99)]) (fun φ17 => []) s trivial (fun φ17 => by kernel_rfl) ?_
      intro φ17 w17 s
      refine ops_done (by kernel_rfl) ?_
      rcases Bool.eq_false_or_eq_true (oneL l p) with hc18 | hc18
      ·
        rw [hc18]
        refine cond_true_rule (b := true) (by kernel_rfl) rfl ?_
        refine region_rule ?_
        refine ops_rule (C := []) [(r, .cells #[.slice a l.length c, .int .i64 ((p : Nat) : Int), .int .i64 ((e : Nat) : Int)] 99)] [] 4 [.o 0] 0 (fun φ19 => [(17, .pointer (some ⟨r, 2, none⟩)), (16, .pointer (some ⟨r, 0, none⟩)), (15, .pointer (some ⟨r, 0, none⟩))]) (fun φ19 => [(r, .cells #[.slice a l.length c, .int .i64 ((p : Nat) : Int), .int .i64 6] 99)]) (fun φ19 => [r]) s trivial (fun φ19 => by kernel_rfl) ?_
        intro φ19 w19 s
        refine ops_done (by kernel_rfl) ?_
        refine wp_seq ?_
        refine region_rule ?_
        refine ops_rule (C := []) [(r, .cells #[.slice a l.length c, .int .i64 ((p : Nat) : Int), .int .i64 6] 99)] [] 1 [] 0 (fun φ20 => [(18, .pointer (some ⟨r, 0, none⟩))]) (fun φ20 => [(r, .cells #[.slice a l.length c, .int .i64 ((p : Nat) : Int), .int .i64 6] 99)]) (fun φ20 => []) s trivial (fun φ20 => by kernel_rfl) ?_
        intro φ20 w20 s
        refine callB_rule (b := (r, .cells #[.slice a l.length c, .int .i64 ((p : Nat) : Int), .int .i64 6] 99)) (H := [(r, .cells #[.slice a l.length c, .int .i64 ((p : Nat) : Int), .int .i64 6] 99)]) (F := []) (Hr := []) (some 19) 0 s (by kernel_rfl) (by kernel_rfl) (err_c (r := r) (v0 := .slice a l.length c) (v1 := .int .i64 ((p : Nat) : Int)) (e := 6)) (by kernel_rfl) ?_
        rintro v21 I21 w21 b21 le21 - h21 s
        replace hl := BSl.mono le21 hl
        obtain ⟨rfl, rfl⟩ := h21
        refine ops_rule (C := []) [(r, .cells #[.slice a l.length c, .int .i64 ((p : Nat) : Int), .int .i64 6] 99)] [] 1 [] 0 (fun φ22 => [(2, .int .i64 6)]) (fun φ22 => [(r, .cells #[.slice a l.length c, .int .i64 ((p : Nat) : Int), .int .i64 6] 99)]) (fun φ22 => []) s trivial (fun φ22 => by kernel_rfl) ?_
        intro φ22 w22 s
        refine ops_done (by kernel_rfl) ?_
        refine wp_ret ?_
        refine ret_rule (C := []) [(r, .cells #[.slice a l.length c, .int .i64 ((p : Nat) : Int), .int .i64 6] 99)] [] (.int .i64 6) [] [] s trivial (by kernel_rfl) ?_
        exact ⟨_, _, _, rfl, s, (by have hq0 := of_decide_eq_true hc5; have hq1 := of_decide_eq_false hc9; have ho2 := hc18; exact ⟨_, rfl, rfl, (by unfold eoE; first | (rw [if_pos (by simp_all)]; done) | (rw [if_neg (by simp_all)]; done) | (rw [if_pos (by simp_all)]; rfl) | (rw [if_neg (by simp_all)]; rfl) | (rw [if_neg (by simp_all; omega)]) | (rw [if_pos (by simp_all; omega)])), (by unfold eoE; first | (rw [if_pos (by simp_all)]; done) | (rw [if_neg (by simp_all)]; done) | (rw [if_pos (by simp_all)]; rfl) | (rw [if_neg (by simp_all)]; rfl) | (rw [if_neg (by simp_all; omega)]) | (rw [if_pos (by simp_all; omega)]))⟩)⟩
      ·
        rw [hc18]
        refine cond_false_rule (b := false) (by kernel_rfl) rfl ?_
        refine wp_skip ?_
        refine wp_seq ?_
        refine region_rule ?_
        refine ops_rule (C := []) [(r, .cells #[.slice a l.length c, .int .i64 ((p : Nat) : Int), .int .i64 ((e : Nat) : Int)] 99)] [] 1 [] 0 (fun φ23 => [(18, .pointer (some ⟨r, 0, none⟩))]) (fun φ23 => [(r, .cells #[.slice a l.length c, .int .i64 ((p : Nat) : Int), .int .i64 ((e : Nat) : Int)] 99)]) (fun φ23 => []) s trivial (fun φ23 => by kernel_rfl) ?_
        intro φ23 w23 s
        refine callB_rule (b := (r, .cells #[.slice a l.length c, .int .i64 ((p : Nat) : Int), .int .i64 ((e : Nat) : Int)] 99)) (H := [(r, .cells #[.slice a l.length c, .int .i64 ((p : Nat) : Int), .int .i64 ((e : Nat) : Int)] 99)]) (F := []) (Hr := []) (some 19) 0 s (by kernel_rfl) (by kernel_rfl) (err_c (r := r) (v0 := .slice a l.length c) (v1 := .int .i64 ((p : Nat) : Int)) (e := e)) (by kernel_rfl) ?_
        rintro v24 I24 w24 b24 le24 - h24 s
        replace hl := BSl.mono le24 hl
        obtain ⟨rfl, rfl⟩ := h24
        refine ops_rule (C := []) [(r, .cells #[.slice a l.length c, .int .i64 ((p : Nat) : Int), .int .i64 ((e : Nat) : Int)] 99)] [] 1 [] 0 (fun φ25 => [(2, .int .i64 ((e : Nat) : Int))]) (fun φ25 => [(r, .cells #[.slice a l.length c, .int .i64 ((p : Nat) : Int), .int .i64 ((e : Nat) : Int)] 99)]) (fun φ25 => []) s trivial (fun φ25 => by kernel_rfl) ?_
        intro φ25 w25 s
        refine ops_done (by kernel_rfl) ?_
        refine wp_ret ?_
        refine ret_rule (C := []) [(r, .cells #[.slice a l.length c, .int .i64 ((p : Nat) : Int), .int .i64 ((e : Nat) : Int)] 99)] [] (.int .i64 ((e : Nat) : Int)) [] [] s trivial (by kernel_rfl) ?_
        exact ⟨_, _, _, rfl, s, (by have hq0 := of_decide_eq_true hc5; have hq1 := of_decide_eq_false hc9; have ho2 := hc18; exact ⟨_, rfl, rfl, (by unfold eoE; first | (rw [if_pos (by simp_all)]; done) | (rw [if_neg (by simp_all)]; done) | (rw [if_pos (by simp_all)]; rfl) | (rw [if_neg (by simp_all)]; rfl) | (rw [if_neg (by simp_all; omega)]) | (rw [if_pos (by simp_all; omega)])), (by unfold eoE; first | (rw [if_pos (by simp_all)]; done) | (rw [if_neg (by simp_all)]; done) | (rw [if_pos (by simp_all)]; rfl) | (rw [if_neg (by simp_all)]; rfl) | (rw [if_neg (by simp_all; omega)]) | (rw [if_pos (by simp_all; omega)]))⟩)⟩
  ·
    rw [hc5]
    refine ops_rule (C := []) [(r, .cells #[.slice a l.length c, .int .i64 ((p : Nat) : Int), .int .i64 ((e : Nat) : Int)] 99)] [] 8 [] 0 (fun φ26 => [(14, .bool false), (13, undef), (12, undef), (11, undef), (10, undef), (9, undef), (8, undef), (7, undef)]) (fun φ26 => [(r, .cells #[.slice a l.length c, .int .i64 ((p : Nat) : Int), .int .i64 ((e : Nat) : Int)] 99)]) (fun φ26 => []) s trivial (fun φ26 => by kernel_rfl) ?_
    intro φ26 w26 s
    refine ops_done (by kernel_rfl) ?_
    refine cond_false_rule (b := false) (by kernel_rfl) rfl ?_
    refine wp_skip ?_
    refine wp_seq ?_
    refine region_rule ?_
    refine ops_rule (C := []) [(r, .cells #[.slice a l.length c, .int .i64 ((p : Nat) : Int), .int .i64 ((e : Nat) : Int)] 99)] [] 1 [] 0 (fun φ27 => [(18, .pointer (some ⟨r, 0, none⟩))]) (fun φ27 => [(r, .cells #[.slice a l.length c, .int .i64 ((p : Nat) : Int), .int .i64 ((e : Nat) : Int)] 99)]) (fun φ27 => []) s trivial (fun φ27 => by kernel_rfl) ?_
    intro φ27 w27 s
    refine callB_rule (b := (r, .cells #[.slice a l.length c, .int .i64 ((p : Nat) : Int), .int .i64 ((e : Nat) : Int)] 99)) (H := [(r, .cells #[.slice a l.length c, .int .i64 ((p : Nat) : Int), .int .i64 ((e : Nat) : Int)] 99)]) (F := []) (Hr := []) (some 19) 0 s (by kernel_rfl) (by kernel_rfl) (err_c (r := r) (v0 := .slice a l.length c) (v1 := .int .i64 ((p : Nat) : Int)) (e := e)) (by kernel_rfl) ?_
    rintro v28 I28 w28 b28 le28 - h28 s
    replace hl := BSl.mono le28 hl
    obtain ⟨rfl, rfl⟩ := h28
    refine ops_rule (C := []) [(r, .cells #[.slice a l.length c, .int .i64 ((p : Nat) : Int), .int .i64 ((e : Nat) : Int)] 99)] [] 1 [] 0 (fun φ29 => [(2, .int .i64 ((e : Nat) : Int))]) (fun φ29 => [(r, .cells #[.slice a l.length c, .int .i64 ((p : Nat) : Int), .int .i64 ((e : Nat) : Int)] 99)]) (fun φ29 => []) s trivial (fun φ29 => by kernel_rfl) ?_
    intro φ29 w29 s
    refine ops_done (by kernel_rfl) ?_
    refine wp_ret ?_
    refine ret_rule (C := []) [(r, .cells #[.slice a l.length c, .int .i64 ((p : Nat) : Int), .int .i64 ((e : Nat) : Int)] 99)] [] (.int .i64 ((e : Nat) : Int)) [] [] s trivial (by kernel_rfl) ?_
    exact ⟨_, _, _, rfl, s, (by have hq0 := of_decide_eq_false hc5;  exact ⟨_, rfl, rfl, (by unfold eoE; first | (rw [if_pos (by simp_all)]; done) | (rw [if_neg (by simp_all)]; done) | (rw [if_pos (by simp_all)]; rfl) | (rw [if_neg (by simp_all)]; rfl) | (rw [if_neg (by simp_all; omega)]) | (rw [if_pos (by simp_all; omega)])), (by unfold eoE; first | (rw [if_pos (by simp_all)]; done) | (rw [if_neg (by simp_all)]; done) | (rw [if_pos (by simp_all)]; rfl) | (rw [if_neg (by simp_all)]; rfl) | (rw [if_neg (by simp_all; omega)]) | (rw [if_pos (by simp_all; omega)]))⟩)⟩

end Go.Proofs.Ytpnlaeapnokipaa
