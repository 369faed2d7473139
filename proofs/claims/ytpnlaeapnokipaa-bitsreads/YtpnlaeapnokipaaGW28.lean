/- The document reads bits. -/
import Derived.Test.YtpnlaeapnokipaaGW27
import Derived.Test.YtpnlaeapnokipaaGC11
import Derived.Test.YtpnlaeapnokipaaGB5
import Derived.Test.YtpnlaeapnokipaaGW9
set_option linter.all false
set_option maxRecDepth 100000
namespace Go.Proofs.Ytpnlaeapnokipaa
open Go.RowKit Go.Sep
attribute [local irreducible] Go.wpList Go.Code.wp

set_option maxHeartbeats 400000 in
theorem withinA_c {I : IM} {z : Int} : Fun Try.prog 64 #[.int .i64 z] I (fun v J => v = .int .i64 ((clampN z : Nat) : Int)) := by
  refine enter_rule 8 [(0, .int .i64 z)] Try.func64 rfl (by kernel_rfl) ?_
  intro w s
  refine wp_seq ?_
  refine region_rule ?_
  refine ops_rule (C := []) [] [] 1 [] 0 (fun φ1 => [(2, .int .i64 0)]) (fun φ1 => []) (fun φ1 => []) s trivial (fun φ1 => by kernel_rfl) ?_
  intro φ1 w1 s
  refine ops_done (by kernel_rfl) ?_
  refine wp_seq ?_
  refine wp_seq ?_
  refine region_rule ?_
  refine ops_rule (C := []) [] [] 2 [] 0 (fun φ2 => [(4, .bool (decide (z < ((0 : Nat) : Int)))), (3, .int .i64 z)]) (fun φ2 => []) (fun φ2 => []) s trivial (fun φ2 => by kernel_rfl) ?_
  intro φ2 w2 s
  refine ops_done (by kernel_rfl) ?_
  rcases Bool.eq_false_or_eq_true (decide (z < ((0 : Nat) : Int))) with hc3 | hc3
  ·
    rw [hc3]
    refine cond_true_rule (b := true) (by kernel_rfl) rfl ?_
    refine wp_seq ?_
    refine region_rule ?_
    refine ops_rule (C := []) [] [] 1 [] 0 (fun φ4 => [(2, .int .i64 0)]) (fun φ4 => []) (fun φ4 => []) s trivial (fun φ4 => by kernel_rfl) ?_
    intro φ4 w4 s
    refine ops_done (by kernel_rfl) ?_
    refine wp_ret ?_
    refine ret_rule (C := []) [] [] (.int .i64 0) [] [] s trivial (by kernel_rfl) ?_
    exact ⟨_, _, _, rfl, s, congrArg (Value.int .i64) (by have hq0 := of_decide_eq_true hc3; unfold clampN; omega)⟩
  ·
    rw [hc3]
    refine cond_false_rule (b := false) (by kernel_rfl) rfl ?_
    refine wp_skip ?_
    refine wp_seq ?_
    refine wp_seq ?_
    refine region_rule ?_
    refine ops_rule (C := []) [] [] 2 [] 0 (fun φ5 => [(6, .bool (decide (z > ((64 : Nat) : Int)))), (5, .int .i64 z)]) (fun φ5 => []) (fun φ5 => []) s trivial (fun φ5 => by kernel_rfl) ?_
    intro φ5 w5 s
    refine ops_done (by kernel_rfl) ?_
    rcases Bool.eq_false_or_eq_true (decide (z > ((64 : Nat) : Int))) with hc6 | hc6
    ·
      rw [hc6]
      refine cond_true_rule (b := true) (by kernel_rfl) rfl ?_
      refine wp_seq ?_
      refine region_rule ?_
      refine ops_rule (C := []) [] [] 1 [] 0 (fun φ7 => [(2, .int .i64 64)]) (fun φ7 => []) (fun φ7 => []) s trivial (fun φ7 => by kernel_rfl) ?_
      intro φ7 w7 s
      refine ops_done (by kernel_rfl) ?_
      refine wp_ret ?_
      refine ret_rule (C := []) [] [] (.int .i64 64) [] [] s trivial (by kernel_rfl) ?_
      exact ⟨_, _, _, rfl, s, congrArg (Value.int .i64) (by have hq0 := of_decide_eq_false hc3; have hq1 := of_decide_eq_true hc6; unfold clampN; omega)⟩
    ·
      rw [hc6]
      refine cond_false_rule (b := false) (by kernel_rfl) rfl ?_
      refine wp_skip ?_
      refine wp_seq ?_
      refine region_rule ?_
      refine ops_rule (C := []) [] [] 2 [] 0 (fun φ8 => [(2, .int .i64 z), (7, .int .i64 z)]) (fun φ8 => []) (fun φ8 => []) s trivial (fun φ8 => by kernel_rfl) ?_
      intro φ8 w8 s
      refine ops_done (by kernel_rfl) ?_
      refine wp_ret ?_
      refine ret_rule (C := []) [] [] (.int .i64 z) [] [] s trivial (by kernel_rfl) ?_
      exact ⟨_, _, _, rfl, s, congrArg (Value.int .i64) (by have hq0 := of_decide_eq_false hc3; have hq1 := of_decide_eq_false hc6; unfold clampN; omega)⟩

set_option maxHeartbeats 2000000 in
theorem refGetB_c {I : IM} {bs : List Bool} {a : Option Addr} {n c y e : Nat} (hb : BoS I bs (.slice a n c)) (hn9 : bs.length ≤ 1000000) {z : Int} : FunM Try.prog 32 #[.pointer (some ⟨y, 0, none⟩), .int .i64 z] I [(y, .cells #[.slice a n c, .int .i64 ((e : Nat) : Int)] 50)] (fun v J H' => ∃ b' : OB, H' = [b'] ∧ b'.1 = y ∧ ∃ (a' : Option Addr) (n' c' : Nat), v = .int .u64 ((bgV bs e (clampN z) : Nat) : Int) ∧ b' = (y, .cells #[.slice a' n' c', .int .i64 ((bgE bs e (clampN z) : Nat) : Int)] 50) ∧ BoS J (bs.drop (bgD bs e (clampN z))) (.slice a' n' c')) := by
  obtain ⟨rfl, -⟩ := hb.cap
  refine enterM_rule 52 [(0, .pointer (some ⟨y, 0, none⟩)), (1, .int .i64 z)] Try.func32 rfl (by kernel_rfl) ?_
  intro w s
  refine wp_seq ?_
  refine region_rule ?_
  refine ops_rule (C := []) [(y, .cells #[.slice a bs.length c, .int .i64 ((e : Nat) : Int)] 50)] [] 1 [] 0 (fun φ1 => [(4, .int .u64 0)]) (fun φ1 => [(y, .cells #[.slice a bs.length c, .int .i64 ((e : Nat) : Int)] 50)]) (fun φ1 => []) s trivial (fun φ1 => by kernel_rfl) ?_
  intro φ1 w1 s
  refine ops_done (by kernel_rfl) ?_
  refine wp_seq ?_
  refine region_rule ?_
  refine ops_rule (C := []) [(y, .cells #[.slice a bs.length c, .int .i64 ((e : Nat) : Int)] 50)] [] 1 [] 0 (fun φ2 => [(8, .int .i64 z)]) (fun φ2 => [(y, .cells #[.slice a bs.length c, .int .i64 ((e : Nat) : Int)] 50)]) (fun φ2 => []) s trivial (fun φ2 => by kernel_rfl) ?_
  intro φ2 w2 s
  refine call_rule (some 9) s (withinA_c (z := z)) (by kernel_rfl) ?_
  intro v3 I3 w3 le3 h3 s
  replace hb := BoS.mono le3 hb
  obtain rfl := h3
  refine ops_rule (C := []) [(y, .cells #[.slice a bs.length c, .int .i64 ((e : Nat) : Int)] 50)] [] 1 [] 0 (fun φ4 => [(1, .int .i64 ((clampN z : Nat) : Int))]) (fun φ4 => [(y, .cells #[.slice a bs.length c, .int .i64 ((e : Nat) : Int)] 50)]) (fun φ4 => []) s trivial (fun φ4 => by kernel_rfl) ?_
  intro φ4 w4 s
  refine ops_done (by kernel_rfl) ?_
  refine wp_seq ?_
  refine wp_seq ?_
  refine region_rule ?_
  refine ops_rule (C := []) [(y, .cells #[.slice a bs.length c, .int .i64 ((e : Nat) : Int)] 50)] [] 5 [.o 0] 0 (fun φ5 => [(14, .bool (((e : Nat) : Int) != ((0 : Nat) : Int))), (13, .int .i64 ((e : Nat) : Int)), (12, .pointer (some ⟨y, 1, none⟩)), (11, .pointer (some ⟨y, 0, none⟩)), (10, .pointer (some ⟨y, 0, none⟩))]) (fun φ5 => [(y, .cells #[.slice a bs.length c, .int .i64 ((e : Nat) : Int)] 50)]) (fun φ5 => [y]) s trivial (fun φ5 => by kernel_rfl) ?_
  intro φ5 w5 s
  rw [nat_neq (a := e) (b := 0)]
  refine ops_done (by kernel_rfl) ?_
  rcases Bool.eq_false_or_eq_true (decide (e ≠ 0)) with hc6 | hc6
  ·
    rw [hc6]
    refine cond_true_rule (b := true) (by kernel_rfl) rfl ?_
    refine wp_seq ?_
    refine region_rule ?_
    refine ops_rule (C := []) [(y, .cells #[.slice a bs.length c, .int .i64 ((e : Nat) : Int)] 50)] [] 1 [] 0 (fun φ7 => [(4, .int .u64 0)]) (fun φ7 => [(y, .cells #[.slice a bs.length c, .int .i64 ((e : Nat) : Int)] 50)]) (fun φ7 => []) s trivial (fun φ7 => by kernel_rfl) ?_
    intro φ7 w7 s
    refine ops_done (by kernel_rfl) ?_
    refine wp_ret ?_
    refine ret_rule (C := []) [(y, .cells #[.slice a bs.length c, .int .i64 ((e : Nat) : Int)] 50)] [] (.int .u64 0) [] [] s trivial (by kernel_rfl) ?_
    exact ⟨_, _, _, rfl, s, (by have hq0 := of_decide_eq_true hc6; exact ⟨_, rfl, rfl, _, _, _, (by unfold bgV; rw [if_neg (by omega)]; rfl), (by (unfold bgE; first | rw [if_pos (by omega)] | rw [if_neg (by omega)]); try rfl), bos_eq hb (by unfold bgD; first | (rw [if_pos (by omega)]; done) | (rw [if_neg (by omega)]; rfl))⟩)⟩
  ·
    rw [hc6]
    refine cond_false_rule (b := false) (by kernel_rfl) rfl ?_
    refine wp_skip ?_
    refine wp_seq ?_
    refine wp_seq ?_
    refine region_rule ?_
    refine ops_rule (C := []) [(y, .cells #[.slice a bs.length c, .int .i64 ((e : Nat) : Int)] 50)] [] 7 [.o 0] 0 (fun φ8 => [(21, .bool (decide (((bs.length : Nat) : Int) < ((clampN z : Nat) : Int)))), (20, .int .i64 ((clampN z : Nat) : Int)), (19, .int .i64 ((bs.length : Nat) : Int)), (18, .slice a bs.length c), (17, .pointer (some ⟨y, 0, none⟩)), (16, .pointer (some ⟨y, 0, none⟩)), (15, .pointer (some ⟨y, 0, none⟩))]) (fun φ8 => [(y, .cells #[.slice a bs.length c, .int .i64 ((e : Nat) : Int)] 50)]) (fun φ8 => [y]) s trivial (fun φ8 => by kernel_rfl) ?_
    intro φ8 w8 s
    rw [nat_lss (a := bs.length) (b := (clampN z))]
    refine ops_done (by kernel_rfl) ?_
    rcases Bool.eq_false_or_eq_true (decide (bs.length < (clampN z))) with hc9 | hc9
    ·
      rw [hc9]
      refine cond_true_rule (b := true) (by kernel_rfl) rfl ?_
      refine wp_seq ?_
      refine region_rule ?_
      refine ops_rule (C := []) [(y, .cells #[.slice a bs.length c, .int .i64 ((e : Nat) : Int)] 50)] [] 4 [.o 0] 0 (fun φ10 => [(24, .pointer (some ⟨y, 1, none⟩)), (23, .pointer (some ⟨y, 0, none⟩)), (22, .pointer (some ⟨y, 0, none⟩))]) (fun φ10 => [(y, .cells #[.slice a bs.length c, .int .i64 6] 50)]) (fun φ10 => [y]) s trivial (fun φ10 => by kernel_rfl) ?_
      intro φ10 w10 s
      refine ops_done (by kernel_rfl) ?_
      refine wp_seq ?_
      refine region_rule ?_
      refine ops_rule (C := []) [(y, .cells #[.slice a bs.length c, .int .i64 6] 50)] [] 1 [] 0 (fun φ11 => [(4, .int .u64 0)]) (fun φ11 => [(y, .cells #[.slice a bs.length c, .int .i64 6] 50)]) (fun φ11 => []) s trivial (fun φ11 => by kernel_rfl) ?_
      intro φ11 w11 s
      refine ops_done (by kernel_rfl) ?_
      refine wp_ret ?_
      refine ret_rule (C := []) [(y, .cells #[.slice a bs.length c, .int .i64 6] 50)] [] (.int .u64 0) [] [] s trivial (by kernel_rfl) ?_
      exact ⟨_, _, _, rfl, s, (by have hq0 := of_decide_eq_false hc6; have hq1 := of_decide_eq_true hc9; exact ⟨_, rfl, rfl, _, _, _, (by unfold bgV; rw [if_neg (by omega)]; rfl), (by (unfold bgE; first | rw [if_pos (by omega)] | rw [if_neg (by omega)]); try rfl), bos_eq hb (by unfold bgD; first | (rw [if_pos (by omega)]; done) | (rw [if_neg (by omega)]; rfl))⟩)⟩
    ·
      rw [hc9]
      refine cond_false_rule (b := false) (by kernel_rfl) rfl ?_
      refine wp_skip ?_
      refine wp_seq ?_
      refine region_rule ?_
      refine ops_rule (C := []) [(y, .cells #[.slice a bs.length c, .int .i64 ((e : Nat) : Int)] 50)] [] 1 [] 0 (fun φ12 => [(5, .int .u64 0)]) (fun φ12 => [(y, .cells #[.slice a bs.length c, .int .i64 ((e : Nat) : Int)] 50)]) (fun φ12 => []) s trivial (fun φ12 => by kernel_rfl) ?_
      intro φ12 w12 s
      refine ops_done (by kernel_rfl) ?_
      refine wp_seq ?_
      refine wp_seq ?_
      refine region_rule ?_
      refine ops_rule (C := []) [(y, .cells #[.slice a bs.length c, .int .i64 ((e : Nat) : Int)] 50)] [] 5 [.o 0] 0 (fun φ13 => [(29, .int .i64 ((clampN z : Nat) : Int)), (28, .slice a bs.length c), (27, .pointer (some ⟨y, 0, none⟩)), (26, .pointer (some ⟨y, 0, none⟩)), (25, .pointer (some ⟨y, 0, none⟩))]) (fun φ13 => [(y, .cells #[.slice a bs.length c, .int .i64 ((e : Nat) : Int)] 50)]) (fun φ13 => [y]) s trivial (fun φ13 => by kernel_rfl) ?_
      intro φ13 w13 s
      refine sem_rule (Instr.sliceAt 26 (.slice a bs.length c) none (some (.int .i64 ((clampN z : Nat) : Int))) none) (some 30) (.slice a (clampN z) c) (by kernel_rfl) (run_toB (by have hcp := (BoS.cap hb).2; (try simp only [List.length_drop, List.length_take, List.length_append, List.length_cons, List.length_nil] at hcp ⊢); have hcl := clampN_le z; have htk : (bs.take (clampN z)).length = min (clampN z) bs.length := List.length_take; have hq0 := of_decide_eq_false hc6; have hq1 := of_decide_eq_false hc9; omega)) ?_
      refine ops_rule (C := []) [(y, .cells #[.slice a bs.length c, .int .i64 ((e : Nat) : Int)] 50)] [] 2 [] 0 (fun φ14 => [(32, .int .i64 0), (31, .int .i64 (((clampN z) : Nat) : Int))]) (fun φ14 => [(y, .cells #[.slice a bs.length c, .int .i64 ((e : Nat) : Int)] 50)]) (fun φ14 => []) s trivial (fun φ14 => by kernel_rfl) ?_
      intro φ14 w14 s
      refine ops_done (by kernel_rfl) ?_
      refine wp_block ?_
      have hle15 := IM.Le.refl I3
      refine loop_rule (fun (x : Nat) => [(0, .pointer (some ⟨y, 0, none⟩)), (1, .int .i64 ((clampN z : Nat) : Int)), (30, .slice a (clampN z) c), (31, .int .i64 (((clampN z) : Nat) : Int)), (5, .int .u64 ((rdB bs x : Nat) : Int)), (32, .int .i64 ((x : Nat) : Int))]) (fun (x : Nat) => [(y, .cells #[.slice a bs.length c, .int .i64 ((e : Nat) : Int)] 50)]) (fun m (x : Nat) J => IM.Le I3 J ∧ x + m = (clampN z)) ((clampN z)) 0 s (by kernel_rfl) (List.Sublist.cons₂ _ List.Sublist.slnil) ⟨IM.Le.refl _, Nat.zero_add _⟩ ?_
      rintro m16 i16 I16 w16 ev16 s ⟨le16, hi16_0⟩
      try dsimp only at s hi16_0 ⊢
      replace hb := BoS.mono le16 hb
      replace hle15 := leMono le16 hle15
      refine wp_seq ?_
      refine region_rule ?_
      refine ops_rule (C := []) [(y, .cells #[.slice a bs.length c, .int .i64 ((e : Nat) : Int)] 50)] [] 1 [] 0 (fun φ17 => [(33, .bool (decide (((i16 : Nat) : Int) < (((clampN z) : Nat) : Int))))]) (fun φ17 => [(y, .cells #[.slice a bs.length c, .int .i64 ((e : Nat) : Int)] 50)]) (fun φ17 => []) s trivial (fun φ17 => by kernel_rfl) ?_
      intro φ17 w17 s
      rw [nat_lss (a := i16) (b := (clampN z))]
      refine ops_done (by kernel_rfl) ?_
      refine wp_seq ?_
      rcases Bool.eq_false_or_eq_true (decide (i16 < (clampN z))) with hc18 | hc18
      ·
        rw [hc18]
        refine cond_true_rule (b := true) (by kernel_rfl) rfl ?_
        refine wp_skip ?_
        refine wp_seq ?_
        refine wp_block ?_
        refine wp_seq ?_
        refine region_rule ?_
        refine sem_rule (Instr.indexAt 26 (.slice a (clampN z) c) (.int .i64 ((i16 : Nat) : Int))) (some 34) (.pointer (pAt a i16)) (by kernel_rfl) (bos_idx (bos_to (hi := clampN z) hb (by have hcp := (BoS.cap hb).2; (try simp only [List.length_drop, List.length_take, List.length_append, List.length_cons, List.length_nil] at hcp ⊢); have hcl := clampN_le z; have htk : (bs.take (clampN z)).length = min (clampN z) bs.length := List.length_take; have hq0 := of_decide_eq_false hc6; have hq1 := of_decide_eq_false hc9; omega)) (by have hcl := clampN_le z; have htk : (bs.take (clampN z)).length = min (clampN z) bs.length := List.length_take; have hr9 := rdB_63 (bs := bs) (of_decide_eq_true hc18) (clampN_le z); have hq0 := of_decide_eq_false hc6; have hq1 := of_decide_eq_false hc9; have hq2 := of_decide_eq_true hc18; omega)) ?_
        refine sem_rule (Instr.loadAt 4 (.pointer (pAt a i16))) (some 35) (.bool ((bs.take (clampN z)).getD i16 false)) (by kernel_rfl) (bos_ld s.sub (bos_to (hi := clampN z) hb (by have hcp := (BoS.cap hb).2; (try simp only [List.length_drop, List.length_take, List.length_append, List.length_cons, List.length_nil] at hcp ⊢); have hcl := clampN_le z; have htk : (bs.take (clampN z)).length = min (clampN z) bs.length := List.length_take; have hq0 := of_decide_eq_false hc6; have hq1 := of_decide_eq_false hc9; omega)) (by have hcl := clampN_le z; have htk : (bs.take (clampN z)).length = min (clampN z) bs.length := List.length_take; have hr9 := rdB_63 (bs := bs) (of_decide_eq_true hc18) (clampN_le z); have hq0 := of_decide_eq_false hc6; have hq1 := of_decide_eq_false hc9; have hq2 := of_decide_eq_true hc18; omega)) ?_
        refine ops_rule (C := []) [(y, .cells #[.slice a bs.length c, .int .i64 ((e : Nat) : Int)] 50)] [] 1 [] 0 (fun φ19 => [(7, .bool ((bs.take (clampN z)).getD i16 false))]) (fun φ19 => [(y, .cells #[.slice a bs.length c, .int .i64 ((e : Nat) : Int)] 50)]) (fun φ19 => []) s trivial (fun φ19 => by kernel_rfl) ?_
        intro φ19 w19 s
        refine ops_done (by kernel_rfl) ?_
        refine wp_seq ?_
        refine region_rule ?_
        refine ops_rule (C := []) [(y, .cells #[.slice a bs.length c, .int .i64 ((e : Nat) : Int)] 50)] [] 3 [] 0 (fun φ20 => [(5, .int .u64 (IntKind.wrap .u64 (((rdB bs i16 : Nat) : Int) * ((2 : Nat) : Int)))), (37, .int .u64 (IntKind.wrap .u64 (((rdB bs i16 : Nat) : Int) * ((2 : Nat) : Int)))), (36, .int .u64 ((rdB bs i16 : Nat) : Int))]) (fun φ20 => [(y, .cells #[.slice a bs.length c, .int .i64 ((e : Nat) : Int)] 50)]) (fun φ20 => []) s trivial (fun φ20 => by kernel_rfl) ?_
        intro φ20 w20 s
        rw [nat_mulU (a := (rdB bs i16)) (b := 2) (by have hcl := clampN_le z; have htk : (bs.take (clampN z)).length = min (clampN z) bs.length := List.length_take; have hr9 := rdB_63 (bs := bs) (of_decide_eq_true hc18) (clampN_le z); have hq0 := of_decide_eq_false hc6; have hq1 := of_decide_eq_false hc9; have hq2 := of_decide_eq_true hc18; omega)]
        refine ops_done (by kernel_rfl) ?_
        refine wp_seq ?_
        refine region_rule ?_
        refine ops_rule (C := []) [(y, .cells #[.slice a bs.length c, .int .i64 ((e : Nat) : Int)] 50)] [] 1 [] 0 (fun φ21 => [(38, .bool ((bs.take (clampN z)).getD i16 false))]) (fun φ21 => [(y, .cells #[.slice a bs.length c, .int .i64 ((e : Nat) : Int)] 50)]) (fun φ21 => []) s trivial (fun φ21 => by kernel_rfl) ?_
        intro φ21 w21 s
        refine ops_done (by kernel_rfl) ?_
        rcases Bool.eq_false_or_eq_true ((bs.take (clampN z)).getD i16 false) with hc22 | hc22
        ·
          rw [hc22]
          refine cond_true_rule (b := true) (by kernel_rfl) rfl ?_
          refine region_rule ?_
          refine ops_rule (C := []) [(y, .cells #[.slice a bs.length c, .int .i64 ((e : Nat) : Int)] 50)] [] 3 [] 0 (fun φ23 => [(5, .int .u64 (IntKind.wrap .u64 ((((rdB bs i16) * 2 : Nat) : Int) + ((1 : Nat) : Int)))), (40, .int .u64 (IntKind.wrap .u64 ((((rdB bs i16) * 2 : Nat) : Int) + ((1 : Nat) : Int)))), (39, .int .u64 (((rdB bs i16) * 2 : Nat) : Int))]) (fun φ23 => [(y, .cells #[.slice a bs.length c, .int .i64 ((e : Nat) : Int)] 50)]) (fun φ23 => []) s trivial (fun φ23 => by kernel_rfl) ?_
          intro φ23 w23 s
          rw [nat_addU (a := ((rdB bs i16) * 2)) (b := 1) (by have hcl := clampN_le z; have htk : (bs.take (clampN z)).length = min (clampN z) bs.length := List.length_take; have hr9 := rdB_63 (bs := bs) (of_decide_eq_true hc18) (clampN_le z); have hq0 := of_decide_eq_false hc6; have hq1 := of_decide_eq_false hc9; have hq2 := of_decide_eq_true hc18; omega)]
          refine ops_done (by kernel_rfl) ?_
          refine region_rule ?_
          refine ops_rule (C := []) [(y, .cells #[.slice a bs.length c, .int .i64 ((e : Nat) : Int)] 50)] [] 2 [] 0 (fun φ24 => [(32, .int .i64 (IntKind.wrap .i64 (((i16 : Nat) : Int) + ((1 : Nat) : Int)))), (41, .int .i64 (IntKind.wrap .i64 (((i16 : Nat) : Int) + ((1 : Nat) : Int))))]) (fun φ24 => [(y, .cells #[.slice a bs.length c, .int .i64 ((e : Nat) : Int)] 50)]) (fun φ24 => []) s trivial (fun φ24 => by kernel_rfl) ?_
          intro φ24 w24 s
          rw [nat_addI (a := i16) (b := 1) (by have hcl := clampN_le z; have htk : (bs.take (clampN z)).length = min (clampN z) bs.length := List.length_take; have hr9 := rdB_63 (bs := bs) (of_decide_eq_true hc18) (clampN_le z); have hq0 := of_decide_eq_false hc6; have hq1 := of_decide_eq_false hc9; have hq2 := of_decide_eq_true hc18; omega)]
          refine ops_done (by kernel_rfl) ?_
          have hq9 := of_decide_eq_true hc18
          rw [rdB_one hq9 hc22]
          exact ⟨⟨m16 - 1, i16 + 1, _, _, _, by omega, rfl, s, (List.Sublist.cons₂ _ List.Sublist.slnil), by kernel_rfl, hle15, by show i16 + 1 + (m16 - 1) = (clampN z); omega⟩⟩
        ·
          rw [hc22]
          refine cond_false_rule (b := false) (by kernel_rfl) rfl ?_
          refine wp_skip ?_
          refine region_rule ?_
          refine ops_rule (C := []) [(y, .cells #[.slice a bs.length c, .int .i64 ((e : Nat) : Int)] 50)] [] 2 [] 0 (fun φ25 => [(32, .int .i64 (IntKind.wrap .i64 (((i16 : Nat) : Int) + ((1 : Nat) : Int)))), (41, .int .i64 (IntKind.wrap .i64 (((i16 : Nat) : Int) + ((1 : Nat) : Int))))]) (fun φ25 => [(y, .cells #[.slice a bs.length c, .int .i64 ((e : Nat) : Int)] 50)]) (fun φ25 => []) s trivial (fun φ25 => by kernel_rfl) ?_
          intro φ25 w25 s
          rw [nat_addI (a := i16) (b := 1) (by have hcl := clampN_le z; have htk : (bs.take (clampN z)).length = min (clampN z) bs.length := List.length_take; have hr9 := rdB_63 (bs := bs) (of_decide_eq_true hc18) (clampN_le z); have hq0 := of_decide_eq_false hc6; have hq1 := of_decide_eq_false hc9; have hq2 := of_decide_eq_true hc18; omega)]
          refine ops_done (by kernel_rfl) ?_
          have hq9 := of_decide_eq_true hc18
          rw [rdB_nil hq9 hc22]
          exact ⟨⟨m16 - 1, i16 + 1, _, _, _, by omega, rfl, s, (List.Sublist.cons₂ _ List.Sublist.slnil), by kernel_rfl, hle15, by show i16 + 1 + (m16 - 1) = (clampN z); omega⟩⟩
      ·
        rw [hc18]
        refine cond_false_rule (b := false) (by kernel_rfl) rfl ?_
        refine wp_exit ?_
        refine wp_seq ?_
        refine region_rule ?_
        refine ops_rule (C := []) [(y, .cells #[.slice a bs.length c, .int .i64 ((e : Nat) : Int)] 50)] [] 6 [.o 0] 0 (fun φ26 => [(47, .int .i64 ((clampN z : Nat) : Int)), (46, .slice a bs.length c), (45, .pointer (some ⟨y, 0, none⟩)), (44, .pointer (some ⟨y, 0, none⟩)), (43, .pointer (some ⟨y, 0, none⟩)), (42, .pointer (some ⟨y, 0, none⟩))]) (fun φ26 => [(y, .cells #[.slice a bs.length c, .int .i64 ((e : Nat) : Int)] 50)]) (fun φ26 => [y]) s trivial (fun φ26 => by kernel_rfl) ?_
        intro φ26 w26 s
        refine sem_rule (Instr.sliceAt 26 (.slice a bs.length c) (some (.int .i64 ((clampN z : Nat) : Int))) none none) (some 48) (.slice (subA a (clampN z) c) (bs.length - (clampN z)) (c - (clampN z))) (by kernel_rfl) (run_fromB (by have hcp := (BoS.cap hb).2; (try simp only [List.length_drop, List.length_take, List.length_append, List.length_cons, List.length_nil] at hcp ⊢); have hcl := clampN_le z; have htk : (bs.take (clampN z)).length = min (clampN z) bs.length := List.length_take; have hq0 := of_decide_eq_false hc6; have hq1 := of_decide_eq_false hc9; have hq2 := of_decide_eq_false hc18; omega)) ?_
        refine ops_rule (C := []) [(y, .cells #[.slice a bs.length c, .int .i64 ((e : Nat) : Int)] 50)] [] 3 [.o 0] 0 (fun φ27 => [(50, .pointer (some ⟨y, 0, none⟩)), (49, .pointer (some ⟨y, 0, none⟩))]) (fun φ27 => [(y, .cells #[.slice (subA a (clampN z) c) (bs.length - (clampN z)) (c - (clampN z)), .int .i64 ((e : Nat) : Int)] 50)]) (fun φ27 => [y]) s trivial (fun φ27 => by kernel_rfl) ?_
        intro φ27 w27 s
        refine ops_done (by kernel_rfl) ?_
        refine wp_seq ?_
        refine region_rule ?_
        refine ops_rule (C := []) [(y, .cells #[.slice (subA a (clampN z) c) (bs.length - (clampN z)) (c - (clampN z)), .int .i64 ((e : Nat) : Int)] 50)] [] 2 [] 0 (fun φ28 => [(4, .int .u64 ((rdB bs i16 : Nat) : Int)), (51, .int .u64 ((rdB bs i16 : Nat) : Int))]) (fun φ28 => [(y, .cells #[.slice (subA a (clampN z) c) (bs.length - (clampN z)) (c - (clampN z)), .int .i64 ((e : Nat) : Int)] 50)]) (fun φ28 => []) s trivial (fun φ28 => by kernel_rfl) ?_
        intro φ28 w28 s
        refine ops_done (by kernel_rfl) ?_
        refine wp_ret ?_
        refine ret_rule (C := []) [(y, .cells #[.slice (subA a (clampN z) c) (bs.length - (clampN z)) (c - (clampN z)), .int .i64 ((e : Nat) : Int)] 50)] [] (.int .u64 ((rdB bs i16 : Nat) : Int)) [] [] s trivial (by kernel_rfl) ?_
        exact ⟨_, _, _, rfl, s, (by have hq0 := of_decide_eq_false hc6; have hq1 := of_decide_eq_false hc9; have hq2 := of_decide_eq_false hc18; have hq9 := of_decide_eq_false hc18; have hi9 := hi16_0; have hg9 : i16 = (clampN z) := (by omega); exact ⟨_, rfl, rfl, _, _, _, (by unfold bgV; rw [if_pos (by omega), hg9]), (by (unfold bgE; first | rw [if_pos (by omega)] | rw [if_neg (by omega)]); try rfl), bos_eq (bos_from (lo := clampN z) hb (by have hcp := (BoS.cap hb).2; (try simp only [List.length_drop, List.length_take, List.length_append, List.length_cons, List.length_nil] at hcp ⊢); have hcl := clampN_le z; have htk : (bs.take (clampN z)).length = min (clampN z) bs.length := List.length_take; have hq0 := of_decide_eq_false hc6; have hq1 := of_decide_eq_false hc9; have hq2 := of_decide_eq_false hc18; omega)) (by unfold bgD; first | (rw [if_pos (by omega)]; done) | (rw [if_neg (by omega)]; rfl))⟩)⟩

end Go.Proofs.Ytpnlaeapnokipaa
