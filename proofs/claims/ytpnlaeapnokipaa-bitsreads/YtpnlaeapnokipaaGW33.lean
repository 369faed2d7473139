/- BitsReads. -/
import Derived.Test.YtpnlaeapnokipaaGW32
import Derived.Test.YtpnlaeapnokipaaGB10
import Derived.Test.YtpnlaeapnokipaaGW15
import Derived.Test.YtpnlaeapnokipaaGS12
set_option linter.all false
set_option maxRecDepth 100000
namespace Go.Proofs.Ytpnlaeapnokipaa
open Go.RowKit Go.Sep
attribute [local irreducible] Go.wpList Go.Code.wp

theorem bnD_le (bs : List Bool) (e : Nat) : bnD bs e ≤ bs.length := by
  unfold bnD; split
  · rename_i h; have := h.2; unfold fewBad at this; omega
  · omega
theorem bnD_pos {l : List UInt8} {p e : Nat} (hp : p ≤ l.length * 8) : p + bnD ((bitsL l).drop p) e ≤ l.length * 8 := by
  have := bnD_le ((bitsL l).drop p) e; rw [dropB_len] at this; omega
section
variable {I : IM} {l : List UInt8} {a : Option Addr} {n c y e p : Nat}
theorem refGetL_c {z : Int} (hb : BoS I ((bitsL l).drop p) (.slice a n c)) (hn9 : l.length ≤ 100000) (hp : p ≤ l.length * 8) : FunM Try.prog 32 #[.pointer (some ⟨y, 0, none⟩), .int .i64 z] I [(y, .cells #[.slice a n c, .int .i64 ((e : Nat) : Int)] 50)] (fun v J H' => ∃ b' : OB, H' = [b'] ∧ b'.1 = y ∧ ∃ (a' : Option Addr) (n' c' : Nat), v = .int .u64 ((geV l p e (clampN z) : Nat) : Int) ∧ b' = (y, .cells #[.slice a' n' c', .int .i64 ((geE l p e (clampN z) : Nat) : Int)] 50) ∧ BoS J ((bitsL l).drop (p + geD l p e (clampN z))) (.slice a' n' c')) := by
  have h := refGetB_c (z := z) (e := e) (y := y) hb (by rw [dropB_len]; omega)
  rw [(bg_ge hp).1, (bg_ge hp).2.1, (bg_ge hp).2.2, List.drop_drop] at h
  exact h
theorem refNumL_c (hb : BoS I ((bitsL l).drop p) (.slice a n c)) (hn9 : l.length ≤ 100000) : FunM Try.prog 33 #[.pointer (some ⟨y, 0, none⟩)] I [(y, .cells #[.slice a n c, .int .i64 ((e : Nat) : Int)] 50)] (fun v J H' => ∃ b' : OB, H' = [b'] ∧ b'.1 = y ∧ ∃ (a' : Option Addr) (n' c' : Nat), v = .int .u64 ((bnV ((bitsL l).drop p) e : Nat) : Int) ∧ b' = (y, .cells #[.slice a' n' c', .int .i64 ((bnE ((bitsL l).drop p) e : Nat) : Int)] 50) ∧ BoS J ((bitsL l).drop (p + bnD ((bitsL l).drop p) e)) (.slice a' n' c')) := by
  have h := refNumB_c (e := e) (y := y) hb (by rw [dropB_len]; omega)
  rw [List.drop_drop] at h
  exact h
theorem refEndL_c (hb : BoS I ((bitsL l).drop p) (.slice a n c)) (hn9 : l.length ≤ 100000) : FunM Try.prog 34 #[.pointer (some ⟨y, 0, none⟩)] I [(y, .cells #[.slice a n c, .int .i64 ((e : Nat) : Int)] 50)] (fun v J H' => ∃ b' : OB, H' = [b'] ∧ b'.1 = y ∧ v = .int .i64 ((eoE l p e : Nat) : Int) ∧ b' = (y, .cells #[.slice a n c, .int .i64 ((eoE l p e : Nat) : Int)] 50)) := by
  have h := refEndB_c (e := e) (y := y) hb (by rw [dropB_len]; omega)
  rw [be_eo] at h
  exact h
theorem numRA_c {r : Nat} (hl : BSl I l (.slice a n c)) (hn9 : l.length ≤ 1000000) (hp : p ≤ l.length * 8) : FunM Try.prog 25 #[.pointer (some ⟨r, 0, none⟩)] I [(r, .cells #[.slice a n c, .int .i64 ((p : Nat) : Int), .int .i64 ((e : Nat) : Int)] 99)] (fun v J H' => ∃ b' : OB, H' = [b'] ∧ b'.1 = r ∧ v = .int .u64 ((bnV ((bitsL l).drop p) e : Nat) : Int) ∧ b' = (r, .cells #[.slice a n c, .int .i64 ((p + bnD ((bitsL l).drop p) e : Nat) : Int), .int .i64 ((bnE ((bitsL l).drop p) e : Nat) : Int)] 99)) := by
  by_cases he : e = 0
  · subst he; exact numR_c hl hn9 hp
  · have h := bn_err (bs := (bitsL l).drop p) he
    rw [h.1, h.2.1, h.2.2]
    exact numR_err (p := p) hl hn9 he
end

set_option maxHeartbeats 8000000 in
theorem bitsReads_c {I : IM} {l : List UInt8} {L : List Tri} {a a2 : Option Addr} {n c n2 c2 : Nat} (hl : BSl I l (.slice a n c)) (hA : TSl I L (.slice a2 n2 c2)) : Fun Try.prog 4 #[.slice a n c, .slice a2 n2 c2] I (fun v J => v = .bool true) := by
  obtain ⟨rfl, -⟩ := hl.cap
  obtain ⟨rfl, -⟩ := hA.cap
  refine enter_rule 81 [(0, .slice a l.length c), (1, .slice a2 L.length c2)] Try.func4 rfl (by kernel_rfl) ?_
  intro w s
  refine wp_seq ?_
  refine region_rule ?_
  refine ops_rule (C := []) [] [] 1 [] 0 (fun φ1 => [(4, .bool false)]) (fun φ1 => []) (fun φ1 => []) s trivial (fun φ1 => by kernel_rfl) ?_
  intro φ1 w1 s
  refine ops_done (by kernel_rfl) ?_
  refine wp_seq ?_
  refine wp_seq ?_
  refine region_rule ?_
  refine call_rule (some 10) s (awake5_c) (by kernel_rfl) ?_
  intro v2 I2 w2 le2 h2 s
  replace hl := BSl.mono le2 hl
  replace hA := TSl.mono le2 hA
  obtain rfl := h2
  refine ops_rule (C := []) [] [] 1 [] 0 (fun φ3 => [(11, .bool false)]) (fun φ3 => []) (fun φ3 => []) s trivial (fun φ3 => by kernel_rfl) ?_
  intro φ3 w3 s
  refine ops_done (by kernel_rfl) ?_
  refine cond_false_rule (b := false) (by kernel_rfl) rfl ?_
  refine wp_skip ?_
  refine wp_seq ?_
  refine region_rule ?_
  refine ops_rule (C := []) [] [] 4 [] 0 (fun φ4 => [(15, .int .i64 (if ((60 : Nat) : Int) < ((l.length : Nat) : Int) then ((60 : Nat) : Int) else ((l.length : Nat) : Int))), (14, .int .i64 ((l.length : Nat) : Int)), (13, .slice a l.length c), (12, .slice a l.length c)]) (fun φ4 => []) (fun φ4 => []) s trivial (fun φ4 => by kernel_rfl) ?_
  intro φ4 w4 s
  rw [nat_min (a := l.length) (b := 60)]
  refine sem_rule (Instr.sliceAt 34 (.slice a l.length c) none (some (.int .i64 ((min l.length 60 : Nat) : Int))) none) (some 16) (.slice a (min l.length 60) c) (by kernel_rfl) (run_to (by have hcp := (BSl.cap hl).2; (try simp only [List.length_drop, List.length_take, List.length_append, List.length_cons, List.length_nil] at hcp ⊢);   (try simp only [List.length_drop, List.length_take, List.length_append, List.length_cons, List.length_nil]); omega)) ?_
  refine callF_rule (H := []) (F := []) (some 17) s (bclone_r (bsl_to (hi := min l.length 60) hl (by have hcp := (BSl.cap hl).2; (try simp only [List.length_drop, List.length_take, List.length_append, List.length_cons, List.length_nil] at hcp ⊢);   (try simp only [List.length_drop, List.length_take, List.length_append, List.length_cons, List.length_nil]); omega)) (by simp only [List.length_take]; omega)) (by kernel_rfl) ?_
  intro v5 I5 w5 F5 le5 h5 s
  replace hl := BSl.mono le5 hl
  replace hA := TSl.mono le5 hA
  obtain ⟨I6, le6, hb6, s⟩ := freeze_row (H := []) (F := F5) s h5
  replace hl := BSl.mono le6 hl
  replace hA := TSl.mono le6 hA
  obtain ⟨a6, c6, hv6, hc6, hb6⟩ := hb6.open
  subst hv6
  refine ops_rule (C := []) [] [] 1 [] 0 (fun φ7 => [(0, .slice a6 (((l.take (min l.length 60))).length) c6)]) (fun φ7 => []) (fun φ7 => []) s trivial (fun φ7 => by kernel_rfl) ?_
  intro φ7 w7 s
  refine ops_done (by kernel_rfl) ?_
  refine wp_seq ?_
  refine region_rule ?_
  refine ops_rule (C := []) [] [] 1 [] 0 (fun φ8 => [(18, .slice a6 (((l.take (min l.length 60))).length) c6)]) (fun φ8 => []) (fun φ8 => []) s trivial (fun φ8 => by kernel_rfl) ?_
  intro φ8 w8 s
  refine callF_rule (H := []) (F := []) (some 19) s (newReader_c hb6 (by simp only [List.length_take]; omega)) (by kernel_rfl) ?_
  rintro v9 I9 w9 F9 le9 ⟨b9, a9, c9, rfl, rfl, hb9⟩ s
  replace hl := BSl.mono le9 hl
  replace hA := TSl.mono le9 hA
  replace hb6 := BSl.mono le9 hb6
  refine ops_rule (C := []) [(b9, .cells #[.slice a9 (List.length (l.take (min l.length 60))) c9, .int .i64 0, .int .i64 0] 99)] [] 1 [] 0 (fun φ10 => [(20, .slice a6 (((l.take (min l.length 60))).length) c6)]) (fun φ10 => [(b9, .cells #[.slice a9 (List.length (l.take (min l.length 60))) c9, .int .i64 0, .int .i64 0] 99)]) (fun φ10 => []) s trivial (fun φ10 => by kernel_rfl) ?_
  intro φ10 w10 s
  refine call_rule (some 21) s (refBits_c hb6 (by simp only [List.length_take]; omega)) (by kernel_rfl) ?_
  intro v11 I11 w11 le11 h11 s
  replace hl := BSl.mono le11 hl
  replace hA := TSl.mono le11 hA
  replace hb6 := BSl.mono le11 hb6
  replace hb9 := BSl.mono le11 hb9
  obtain ⟨a11, c11, rfl, h11_0⟩ := h11
  refine ops_rule (C := []) [(b9, .cells #[.slice a9 (List.length (l.take (min l.length 60))) c9, .int .i64 0, .int .i64 0] 99)] [] 4 [] 1 (fun φ12 => [(6, .pointer (some ⟨(φ12 0), 0, none⟩)), (5, .pointer (some ⟨b9, 0, none⟩)), (23, .pointer (some ⟨(φ12 0), 0, none⟩)), (22, .agg #[.slice a11 (List.length (bitsL (l.take (min l.length 60)))) c11, .int .i64 0])]) (fun φ12 => [(b9, .cells #[.slice a9 (List.length (l.take (min l.length 60))) c9, .int .i64 0, .int .i64 0] 99), ((φ12 0), .cells #[.slice a11 (List.length (bitsL (l.take (min l.length 60)))) c11, .int .i64 0] 50)]) (fun φ12 => []) s trivial (fun φ12 => by kernel_rfl) ?_
  intro φ12 w12 s
  refine ops_done (by kernel_rfl) ?_
  refine wp_seq ?_
  refine wp_seq ?_
  refine region_rule ?_
  refine ops_rule (C := []) [(b9, .cells #[.slice a9 (List.length (l.take (min l.length 60))) c9, .int .i64 0, .int .i64 0] 99), ((φ12 0), .cells #[.slice a11 (List.length (bitsL (l.take (min l.length 60)))) c11, .int .i64 0] 50)] [] 3 [] 0 (fun φ13 => [(26, .int .i64 0), (25, .int .i64 ((L.length : Nat) : Int)), (24, .slice a2 L.length c2)]) (fun φ13 => [(b9, .cells #[.slice a9 (List.length (l.take (min l.length 60))) c9, .int .i64 0, .int .i64 0] 99), ((φ12 0), .cells #[.slice a11 (List.length (bitsL (l.take (min l.length 60)))) c11, .int .i64 0] 50)]) (fun φ13 => []) s trivial (fun φ13 => by kernel_rfl) ?_
  intro φ13 w13 s
  refine ops_done (by kernel_rfl) ?_
  refine wp_block ?_
  replace s := St.perm (H' := [((φ12 0), .cells #[.slice a11 (List.length (bitsL (l.take (min l.length 60)))) c11, .int .i64 0] 50)] ++ [(b9, .cells #[.slice a9 (List.length (l.take (min l.length 60))) c9, .int .i64 0, .int .i64 0] 99)]) s (move_last 0 (by kernel_rfl) (by kernel_rfl))
  have hle14 := IM.Le.refl I11
  refine loop_rule (fun (x : Nat × Nat × Nat × Option Addr × Nat × Nat) => [(0, .slice a6 (((l.take (min l.length 60))).length) c6), (1, .slice a2 L.length c2), (5, .pointer (some ⟨b9, 0, none⟩)), (6, .pointer (some ⟨(φ12 0), 0, none⟩)), (24, .slice a2 L.length c2), (25, .int .i64 ((L.length : Nat) : Int)), (26, .int .i64 ((x.1 : Nat) : Int))]) (fun (x : Nat × Nat × Nat × Option Addr × Nat × Nat) => [((φ12 0), .cells #[.slice x.2.2.2.1 x.2.2.2.2.1 x.2.2.2.2.2, .int .i64 ((x.2.2.1 : Nat) : Int)] 50), (b9, .cells #[.slice a9 (List.length (l.take (min l.length 60))) c9, .int .i64 ((x.2.1 : Nat) : Int), .int .i64 ((x.2.2.1 : Nat) : Int)] 99)]) (fun m (x : Nat × Nat × Nat × Option Addr × Nat × Nat) J => IM.Le I11 J ∧ x.1 + m = L.length ∧ x.2.1 ≤ List.length (l.take (min l.length 60)) * 8 ∧ BoS J ((bitsL (l.take (min l.length 60))).drop x.2.1) (.slice x.2.2.2.1 x.2.2.2.2.1 x.2.2.2.2.2)) (L.length) (0, 0, 0, a11, (List.length (bitsL (l.take (min l.length 60)))), c11) s (by kernel_rfl) (List.Sublist.cons₂ _ (List.Sublist.cons₂ _ List.Sublist.slnil)) ⟨IM.Le.refl _, Nat.zero_add _, Nat.zero_le _, h11_0⟩ ?_
  rintro m15 ⟨i15, p15, e15, a15, n15, c15⟩ I15 w15 ev15 s ⟨le15, hi15_0, hi15_1, hi15_2⟩
  try dsimp only at s hi15_0 hi15_1 hi15_2 ⊢
  replace hl := BSl.mono le15 hl
  replace hA := TSl.mono le15 hA
  replace hb6 := BSl.mono le15 hb6
  replace hb9 := BSl.mono le15 hb9
  replace h11_0 := BoS.mono le15 h11_0
  replace hle14 := leMono le15 hle14
  refine wp_seq ?_
  refine region_rule ?_
  refine ops_rule (C := []) [((φ12 0), .cells #[.slice a15 n15 c15, .int .i64 ((e15 : Nat) : Int)] 50), (b9, .cells #[.slice a9 (List.length (l.take (min l.length 60))) c9, .int .i64 ((p15 : Nat) : Int), .int .i64 ((e15 : Nat) : Int)] 99)] [] 1 [] 0 (fun φ16 => [(27, .bool (decide (((i15 : Nat) : Int) < ((L.length : Nat) : Int))))]) (fun φ16 => [((φ12 0), .cells #[.slice a15 n15 c15, .int .i64 ((e15 : Nat) : Int)] 50), (b9, .cells #[.slice a9 (List.length (l.take (min l.length 60))) c9, .int .i64 ((p15 : Nat) : Int), .int .i64 ((e15 : Nat) : Int)] 99)]) (fun φ16 => []) s trivial (fun φ16 => by kernel_rfl) ?_
  intro φ16 w16 s
  rw [nat_lss (a := i15) (b := L.length)]
  refine ops_done (by kernel_rfl) ?_
  refine wp_seq ?_
  rcases Bool.eq_false_or_eq_true (decide (i15 < L.length)) with hc17 | hc17
  ·
    rw [hc17]
    refine cond_true_rule (b := true) (by kernel_rfl) rfl ?_
    refine wp_skip ?_
    refine wp_seq ?_
    refine wp_block ?_
    refine wp_seq ?_
    refine region_rule ?_
    refine ops_rule (C := []) [((φ12 0), .cells #[.slice a15 n15 c15, .int .i64 ((e15 : Nat) : Int)] 50), (b9, .cells #[.slice a9 (List.length (l.take (min l.length 60))) c9, .int .i64 ((p15 : Nat) : Int), .int .i64 ((e15 : Nat) : Int)] 99)] [] 1 [] 0 (fun φ18 => [(28, .int .i64 ((i15 : Nat) : Int))]) (fun φ18 => [((φ12 0), .cells #[.slice a15 n15 c15, .int .i64 ((e15 : Nat) : Int)] 50), (b9, .cells #[.slice a9 (List.length (l.take (min l.length 60))) c9, .int .i64 ((p15 : Nat) : Int), .int .i64 ((e15 : Nat) : Int)] 99)]) (fun φ18 => []) s trivial (fun φ18 => by kernel_rfl) ?_
    intro φ18 w18 s
    refine sem_rule (Instr.indexAt 22 (.slice a2 L.length c2) (.int .i64 ((i15 : Nat) : Int))) (some 29) (.pointer (pAt a2 (i15 * 3))) (by kernel_rfl) (tsl_idx hA (by have hb1 := hi15_1; have hD1 := geD_le (e := e15) (k := clampN (L.getD i15 (0, 0, 0)).2.2) hi15_1; have hD2 := bnD_pos (e := e15) hi15_1; (simp only [List.length_take] at hb1 hD1 hD2); have hq0 := of_decide_eq_true hc17; omega)) ?_
    refine sem_rule (Instr.loadAt 29 (.pointer (pAt a2 (i15 * 3)))) (some 30) (.agg #[.int .u8 (((L.getD i15 (0, 0, 0)).1 : Nat) : Int), .int .u64 (((L.getD i15 (0, 0, 0)).2.1 : Nat) : Int), .int .i64 ((L.getD i15 (0, 0, 0)).2.2)]) (by kernel_rfl) (tsl_ld s.sub hA (by have hb1 := hi15_1; have hD1 := geD_le (e := e15) (k := clampN (L.getD i15 (0, 0, 0)).2.2) hi15_1; have hD2 := bnD_pos (e := e15) hi15_1; (simp only [List.length_take] at hb1 hD1 hD2); have hq0 := of_decide_eq_true hc17; omega)) ?_
    refine ops_rule (C := []) [((φ12 0), .cells #[.slice a15 n15 c15, .int .i64 ((e15 : Nat) : Int)] 50), (b9, .cells #[.slice a9 (List.length (l.take (min l.length 60))) c9, .int .i64 ((p15 : Nat) : Int), .int .i64 ((e15 : Nat) : Int)] 99)] [] 3 [.o 2, .o 2, .o 2] 1 (fun φ19 => [(7, .int .i64 ((i15 : Nat) : Int)), (8, .pointer (some ⟨(φ19 0), 0, none⟩))]) (fun φ19 => [((φ12 0), .cells #[.slice a15 n15 c15, .int .i64 ((e15 : Nat) : Int)] 50), (b9, .cells #[.slice a9 (List.length (l.take (min l.length 60))) c9, .int .i64 ((p15 : Nat) : Int), .int .i64 ((e15 : Nat) : Int)] 99), ((φ19 0), .cells #[.int .u8 (((L.getD i15 (0, 0, 0)).1 : Nat) : Int), .int .u64 (((L.getD i15 (0, 0, 0)).2.1 : Nat) : Int), .int .i64 ((L.getD i15 (0, 0, 0)).2.2)] 29)]) (fun φ19 => [(φ19 0), (φ19 0), (φ19 0)]) s trivial (fun φ19 => by kernel_rfl) ?_
    intro φ19 w19 s
    obtain ⟨I20, le20, hk20, s⟩ := s.freezeAt 2 (φ19 0) (.cells #[.int .u8 (((L.getD i15 (0, 0, 0)).1 : Nat) : Int), .int .u64 (((L.getD i15 (0, 0, 0)).2.1 : Nat) : Int), .int .i64 ((L.getD i15 (0, 0, 0)).2.2)] 29) [((φ12 0), .cells #[.slice a15 n15 c15, .int .i64 ((e15 : Nat) : Int)] 50), (b9, .cells #[.slice a9 (List.length (l.take (min l.length 60))) c9, .int .i64 ((p15 : Nat) : Int), .int .i64 ((e15 : Nat) : Int)] 99)] (by kernel_rfl) (by kernel_rfl)
    replace hl := BSl.mono le20 hl
    replace hA := TSl.mono le20 hA
    replace hb6 := BSl.mono le20 hb6
    replace hb9 := BSl.mono le20 hb9
    replace h11_0 := BoS.mono le20 h11_0
    replace hle14 := leMono le20 hle14
    replace hi15_2 := BoS.mono le20 hi15_2
    refine ops_done (by kernel_rfl) ?_
    refine wp_seq ?_
    refine wp_seq ?_
    refine region_rule ?_
    refine ops_rule (C := []) [((φ12 0), .cells #[.slice a15 n15 c15, .int .i64 ((e15 : Nat) : Int)] 50), (b9, .cells #[.slice a9 (List.length (l.take (min l.length 60))) c9, .int .i64 ((p15 : Nat) : Int), .int .i64 ((e15 : Nat) : Int)] 99)] [] 2 [] 0 (fun φ21 => [(32, .bool (decide (((i15 : Nat) : Int) ≥ ((40 : Nat) : Int)))), (31, .int .i64 ((i15 : Nat) : Int))]) (fun φ21 => [((φ12 0), .cells #[.slice a15 n15 c15, .int .i64 ((e15 : Nat) : Int)] 50), (b9, .cells #[.slice a9 (List.length (l.take (min l.length 60))) c9, .int .i64 ((p15 : Nat) : Int), .int .i64 ((e15 : Nat) : Int)] 99)]) (fun φ21 => []) s trivial (fun φ21 => by kernel_rfl) ?_
    intro φ21 w21 s
    rw [nat_geq (a := i15) (b := 40)]
    refine ops_done (by kernel_rfl) ?_
    rcases Bool.eq_false_or_eq_true (decide (40 ≤ i15)) with hc22 | hc22
    ·
      rw [hc22]
      refine cond_true_rule (b := true) (by kernel_rfl) rfl ?_
      refine wp_exit ?_
      refine wp_seq ?_
      refine region_rule ?_
      refine ops_rule (C := []) [((φ12 0), .cells #[.slice a15 n15 c15, .int .i64 ((e15 : Nat) : Int)] 50), (b9, .cells #[.slice a9 (List.length (l.take (min l.length 60))) c9, .int .i64 ((p15 : Nat) : Int), .int .i64 ((e15 : Nat) : Int)] 99)] [] 1 [] 0 (fun φ23 => [(4, .bool true)]) (fun φ23 => [((φ12 0), .cells #[.slice a15 n15 c15, .int .i64 ((e15 : Nat) : Int)] 50), (b9, .cells #[.slice a9 (List.length (l.take (min l.length 60))) c9, .int .i64 ((p15 : Nat) : Int), .int .i64 ((e15 : Nat) : Int)] 99)]) (fun φ23 => []) s trivial (fun φ23 => by kernel_rfl) ?_
      intro φ23 w23 s
      refine ops_done (by kernel_rfl) ?_
      refine wp_ret ?_
      refine ret_rule (C := []) [((φ12 0), .cells #[.slice a15 n15 c15, .int .i64 ((e15 : Nat) : Int)] 50), (b9, .cells #[.slice a9 (List.length (l.take (min l.length 60))) c9, .int .i64 ((p15 : Nat) : Int), .int .i64 ((e15 : Nat) : Int)] 99)] [] (.bool true) [] [] s trivial (by kernel_rfl) ?_
      exact ⟨_, _, _, rfl, s, rfl⟩
    ·
      rw [hc22]
      refine cond_false_rule (b := false) (by kernel_rfl) rfl ?_
      refine wp_skip ?_
      refine wp_seq ?_
      refine region_rule ?_
      refine ops_rule (C := []) [((φ12 0), .cells #[.slice a15 n15 c15, .int .i64 ((e15 : Nat) : Int)] 50), (b9, .cells #[.slice a9 (List.length (l.take (min l.length 60))) c9, .int .i64 ((p15 : Nat) : Int), .int .i64 ((e15 : Nat) : Int)] 99)] [] 1 [] 0 (fun φ24 => [(9, .bool true)]) (fun φ24 => [((φ12 0), .cells #[.slice a15 n15 c15, .int .i64 ((e15 : Nat) : Int)] 50), (b9, .cells #[.slice a9 (List.length (l.take (min l.length 60))) c9, .int .i64 ((p15 : Nat) : Int), .int .i64 ((e15 : Nat) : Int)] 99)]) (fun φ24 => []) s trivial (fun φ24 => by kernel_rfl) ?_
      intro φ24 w24 s
      refine ops_done (by kernel_rfl) ?_
      refine wp_seq ?_
      refine wp_seq ?_
      refine region_rule ?_
      refine ops_rule (C := [((φ19 0), .cells #[.int .u8 (((L.getD i15 (0, 0, 0)).1 : Nat) : Int), .int .u64 (((L.getD i15 (0, 0, 0)).2.1 : Nat) : Int), .int .i64 ((L.getD i15 (0, 0, 0)).2.2)] 29)]) [((φ12 0), .cells #[.slice a15 n15 c15, .int .i64 ((e15 : Nat) : Int)] 50), (b9, .cells #[.slice a9 (List.length (l.take (min l.length 60))) c9, .int .i64 ((p15 : Nat) : Int), .int .i64 ((e15 : Nat) : Int)] 99)] [] 3 [.c 0] 0 (fun φ25 => [(35, .int .u8 (Int.tmod (((L.getD i15 (0, 0, 0)).1 : Nat) : Int) ((3 : Nat) : Int))), (34, .int .u8 (((L.getD i15 (0, 0, 0)).1 : Nat) : Int)), (33, .pointer (some ⟨(φ19 0), 0, none⟩))]) (fun φ25 => [((φ12 0), .cells #[.slice a15 n15 c15, .int .i64 ((e15 : Nat) : Int)] 50), (b9, .cells #[.slice a9 (List.length (l.take (min l.length 60))) c9, .int .i64 ((p15 : Nat) : Int), .int .i64 ((e15 : Nat) : Int)] 99)]) (fun φ25 => [(φ19 0)]) s ⟨hk20, trivial⟩ (fun φ25 => by kernel_rfl) ?_
      intro φ25 w25 s
      rw [nat_rem (a := ((L.getD i15 (0, 0, 0)).1)) (b := 3)]
      refine ops_done (by kernel_rfl) ?_
      refine wp_block ?_
      refine wp_seq ?_
      refine region_rule ?_
      refine ops_rule (C := []) [((φ12 0), .cells #[.slice a15 n15 c15, .int .i64 ((e15 : Nat) : Int)] 50), (b9, .cells #[.slice a9 (List.length (l.take (min l.length 60))) c9, .int .i64 ((p15 : Nat) : Int), .int .i64 ((e15 : Nat) : Int)] 99)] [] 2 [] 0 (fun φ26 => [(41, .bool (((((L.getD i15 (0, 0, 0)).1) % 3 : Nat) : Int) == ((0 : Nat) : Int))), (42, .bool (((((L.getD i15 (0, 0, 0)).1) % 3 : Nat) : Int) == ((0 : Nat) : Int)))]) (fun φ26 => [((φ12 0), .cells #[.slice a15 n15 c15, .int .i64 ((e15 : Nat) : Int)] 50), (b9, .cells #[.slice a9 (List.length (l.take (min l.length 60))) c9, .int .i64 ((p15 : Nat) : Int), .int .i64 ((e15 : Nat) : Int)] 99)]) (fun φ26 => []) s trivial (fun φ26 => by kernel_rfl) ?_
      intro φ26 w26 s
      rw [nat_eql (a := (((L.getD i15 (0, 0, 0)).1) % 3)) (b := 0)]
      refine ops_done (by kernel_rfl) ?_
      rcases Bool.eq_false_or_eq_true (decide ((((L.getD i15 (0, 0, 0)).1) % 3) = 0)) with hc27 | hc27
      ·
        rw [hc27]
        refine cond_true_rule (b := true) (by kernel_rfl) rfl ?_
        have hH28 := IM.Le.refl I20
        refine held_begin (n := 10) (SubS I20) (by kernel_rfl) (by kernel_rfl) ?_
        replace s := St.drew s
        refine held_take (fuel := 9) [] [] 0 (.pointer (some ⟨b9, 0, none⟩)) (some 43) [] (I := I20) trivial (by kernel_rfl) (by kernel_rfl) (by kernel_rfl) (by kernel_rfl) (by kernel_rfl) (fun _ d' _ _ _ h => by cases d' <;> exact h) (by kernel_rfl) (by kernel_rfl) s.sub ?_
        refine held_take (fuel := 8) [] [] 1 (.pointer (some ⟨(φ19 0), 2, none⟩)) (some 44) [] (I := I20) trivial (by kernel_rfl) (by kernel_rfl) (by kernel_rfl) (by kernel_rfl) (by kernel_rfl) (fun _ d' _ _ _ h => by cases d' <;> exact h) (by kernel_rfl) (by kernel_rfl) s.sub ?_
        refine held_take (fuel := 7) [((φ19 0), .cells #[.int .u8 (((L.getD i15 (0, 0, 0)).1 : Nat) : Int), .int .u64 (((L.getD i15 (0, 0, 0)).2.1 : Nat) : Int), .int .i64 ((L.getD i15 (0, 0, 0)).2.2)] 29)] [.c 0] 2 (.int .i64 ((L.getD i15 (0, 0, 0)).2.2)) (some 45) [(φ19 0)] (I := I20) ⟨hk20, trivial⟩ (by kernel_rfl) (by kernel_rfl) (by kernel_rfl) (by kernel_rfl) (by kernel_rfl) (fun _ d' _ _ _ h => by cases d' <;> exact h) (by kernel_rfl) (by kernel_rfl) s.sub ?_
        refine held_take (fuel := 6) [] [] 4 (.pointer (some ⟨(φ12 0), 0, none⟩)) (some 47) [] (I := I20) trivial (by kernel_rfl) (by kernel_rfl) (by kernel_rfl) (by kernel_rfl) (by kernel_rfl) (fun _ d' _ _ _ h => by cases d' <;> exact h) (by kernel_rfl) (by kernel_rfl) s.sub ?_
        refine held_take (fuel := 5) [] [] 5 (.pointer (some ⟨(φ19 0), 2, none⟩)) (some 48) [] (I := I20) trivial (by kernel_rfl) (by kernel_rfl) (by kernel_rfl) (by kernel_rfl) (by kernel_rfl) (fun _ d' _ _ _ h => by cases d' <;> exact h) (by kernel_rfl) (by kernel_rfl) s.sub ?_
        refine held_take (fuel := 4) [((φ19 0), .cells #[.int .u8 (((L.getD i15 (0, 0, 0)).1 : Nat) : Int), .int .u64 (((L.getD i15 (0, 0, 0)).2.1 : Nat) : Int), .int .i64 ((L.getD i15 (0, 0, 0)).2.2)] 29)] [.c 0] 6 (.int .i64 ((L.getD i15 (0, 0, 0)).2.2)) (some 49) [(φ19 0)] (I := I20) ⟨hk20, trivial⟩ (by kernel_rfl) (by kernel_rfl) (by kernel_rfl) (by kernel_rfl) (by kernel_rfl) (fun _ d' _ _ _ h => by cases d' <;> exact h) (by kernel_rfl) (by kernel_rfl) s.sub ?_
        refine held_one (fuel := 3) 3 (by kernel_rfl) (by kernel_rfl) ?_
        refine callB_rule (b := (b9, .cells #[.slice a9 (List.length (l.take (min l.length 60))) c9, .int .i64 ((p15 : Nat) : Int), .int .i64 ((e15 : Nat) : Int)] 99)) (H := [((φ12 0), .cells #[.slice a15 n15 c15, .int .i64 ((e15 : Nat) : Int)] 50), (b9, .cells #[.slice a9 (List.length (l.take (min l.length 60))) c9, .int .i64 ((p15 : Nat) : Int), .int .i64 ((e15 : Nat) : Int)] 99)]) (F := []) (Hr := [((φ12 0), .cells #[.slice a15 n15 c15, .int .i64 ((e15 : Nat) : Int)] 50)]) (some 46) 1 s (by kernel_rfl) (by kernel_rfl) (getG_c (r := b9) (p := p15) (e := e15) (z := (L.getD i15 (0, 0, 0)).2.2) hb9 (by simp only [List.length_take]; omega) hi15_1) (by kernel_rfl) ?_
        rintro v29 I29 w29 b29 le29 - h29 s
        replace hl := BSl.mono le29 hl
        replace hA := TSl.mono le29 hA
        replace hb6 := BSl.mono le29 hb6
        replace hb9 := BSl.mono le29 hb9
        replace h11_0 := BoS.mono le29 h11_0
        replace hle14 := leMono le29 hle14
        replace hi15_2 := BoS.mono le29 hi15_2
        replace hH28 := leMono le29 hH28
        replace hk20 := le29 _ _ hk20
        obtain ⟨rfl, rfl⟩ := h29
        refine ops_done (by kernel_rfl) ?_
        refine held_next s hH28 ?_
        refine held_one (fuel := 2) 7 (by kernel_rfl) (by kernel_rfl) ?_
        refine callB_rule (b := ((φ12 0), .cells #[.slice a15 n15 c15, .int .i64 ((e15 : Nat) : Int)] 50)) (H := [(b9, .cells #[.slice a9 (List.length (l.take (min l.length 60))) c9, .int .i64 ((p15 + geD (l.take (min l.length 60)) p15 e15 (clampN ((L.getD i15 (0, 0, 0)).2.2)) : Nat) : Int), .int .i64 ((geE (l.take (min l.length 60)) p15 e15 (clampN ((L.getD i15 (0, 0, 0)).2.2)) : Nat) : Int)] 99), ((φ12 0), .cells #[.slice a15 n15 c15, .int .i64 ((e15 : Nat) : Int)] 50)]) (F := []) (Hr := [(b9, .cells #[.slice a9 (List.length (l.take (min l.length 60))) c9, .int .i64 ((p15 + geD (l.take (min l.length 60)) p15 e15 (clampN ((L.getD i15 (0, 0, 0)).2.2)) : Nat) : Int), .int .i64 ((geE (l.take (min l.length 60)) p15 e15 (clampN ((L.getD i15 (0, 0, 0)).2.2)) : Nat) : Int)] 99)]) (some 50) 1 s (by kernel_rfl) (by kernel_rfl) (refGetL_c (y := (φ12 0)) (p := p15) (e := e15) (z := (L.getD i15 (0, 0, 0)).2.2) hi15_2 (by simp only [List.length_take]; omega) hi15_1) (by kernel_rfl) ?_
        rintro v30 I30 w30 b30 le30 - h30 s
        replace hl := BSl.mono le30 hl
        replace hA := TSl.mono le30 hA
        replace hb6 := BSl.mono le30 hb6
        replace hb9 := BSl.mono le30 hb9
        replace h11_0 := BoS.mono le30 h11_0
        replace hle14 := leMono le30 hle14
        replace hi15_2 := BoS.mono le30 hi15_2
        replace hH28 := leMono le30 hH28
        replace hk20 := le30 _ _ hk20
        obtain ⟨a30, n30, c30, rfl, rfl, h30_0⟩ := h30
        refine ops_done (by kernel_rfl) ?_
        refine held_next s hH28 ?_
        refine held_one (fuel := 1) 8 (by kernel_rfl) (by kernel_rfl) ?_
        refine ops_rule (C := []) [((φ12 0), .cells #[.slice a30 n30 c30, .int .i64 ((geE (l.take (min l.length 60)) p15 e15 (clampN ((L.getD i15 (0, 0, 0)).2.2)) : Nat) : Int)] 50), (b9, .cells #[.slice a9 (List.length (l.take (min l.length 60))) c9, .int .i64 ((p15 + geD (l.take (min l.length 60)) p15 e15 (clampN ((L.getD i15 (0, 0, 0)).2.2)) : Nat) : Int), .int .i64 ((geE (l.take (min l.length 60)) p15 e15 (clampN ((L.getD i15 (0, 0, 0)).2.2)) : Nat) : Int)] 99)] [] 1 [] 0 (fun φ31 => [(51, .bool (((geV (l.take (min l.length 60)) p15 e15 (clampN ((L.getD i15 (0, 0, 0)).2.2)) : Nat) : Int) == ((geV (l.take (min l.length 60)) p15 e15 (clampN ((L.getD i15 (0, 0, 0)).2.2)) : Nat) : Int)))]) (fun φ31 => [((φ12 0), .cells #[.slice a30 n30 c30, .int .i64 ((geE (l.take (min l.length 60)) p15 e15 (clampN ((L.getD i15 (0, 0, 0)).2.2)) : Nat) : Int)] 50), (b9, .cells #[.slice a9 (List.length (l.take (min l.length 60))) c9, .int .i64 ((p15 + geD (l.take (min l.length 60)) p15 e15 (clampN ((L.getD i15 (0, 0, 0)).2.2)) : Nat) : Int), .int .i64 ((geE (l.take (min l.length 60)) p15 e15 (clampN ((L.getD i15 (0, 0, 0)).2.2)) : Nat) : Int)] 99)]) (fun φ31 => []) s trivial (fun φ31 => by kernel_rfl) ?_
        intro φ31 w31 s
        rw [(nat_eql (a := (geV (l.take (min l.length 60)) p15 e15 (clampN ((L.getD i15 (0, 0, 0)).2.2)))) (b := (geV (l.take (min l.length 60)) p15 e15 (clampN ((L.getD i15 (0, 0, 0)).2.2))))).trans (decide_eq_true rfl)]
        refine ops_done (by kernel_rfl) ?_
        refine held_next s hH28 ?_
        refine held_one (fuel := 0) 9 (by kernel_rfl) (by kernel_rfl) ?_
        refine ops_rule (C := []) [((φ12 0), .cells #[.slice a30 n30 c30, .int .i64 ((geE (l.take (min l.length 60)) p15 e15 (clampN ((L.getD i15 (0, 0, 0)).2.2)) : Nat) : Int)] 50), (b9, .cells #[.slice a9 (List.length (l.take (min l.length 60))) c9, .int .i64 ((p15 + geD (l.take (min l.length 60)) p15 e15 (clampN ((L.getD i15 (0, 0, 0)).2.2)) : Nat) : Int), .int .i64 ((geE (l.take (min l.length 60)) p15 e15 (clampN ((L.getD i15 (0, 0, 0)).2.2)) : Nat) : Int)] 99)] [] 1 [] 0 (fun φ32 => [(9, .bool true)]) (fun φ32 => [((φ12 0), .cells #[.slice a30 n30 c30, .int .i64 ((geE (l.take (min l.length 60)) p15 e15 (clampN ((L.getD i15 (0, 0, 0)).2.2)) : Nat) : Int)] 50), (b9, .cells #[.slice a9 (List.length (l.take (min l.length 60))) c9, .int .i64 ((p15 + geD (l.take (min l.length 60)) p15 e15 (clampN ((L.getD i15 (0, 0, 0)).2.2)) : Nat) : Int), .int .i64 ((geE (l.take (min l.length 60)) p15 e15 (clampN ((L.getD i15 (0, 0, 0)).2.2)) : Nat) : Int)] 99)]) (fun φ32 => []) s trivial (fun φ32 => by kernel_rfl) ?_
        intro φ32 w32 s
        refine ops_done (by kernel_rfl) ?_
        refine held_next s hH28 ?_
        refine Go.wpAnyH_done (by kernel_rfl) ?_ _
        refine wp_seq ?_
        have hz33 := St.none0 s (g := b9) (o := .cells #[.slice a9 (List.length (l.take (min l.length 60))) c9, .int .i64 ((p15 + geD (l.take (min l.length 60)) p15 e15 (clampN ((L.getD i15 (0, 0, 0)).2.2)) : Nat) : Int), .int .i64 ((geE (l.take (min l.length 60)) p15 e15 (clampN ((L.getD i15 (0, 0, 0)).2.2)) : Nat) : Int)] 99) (by simp)
        have hT33 := IM.Le.refl I30
        have hlK33 := hl
        have hAK33 := hA
        have hb6K33 := hb6
        have hb9K33 := hb9
        have h11_0K33 := h11_0
        have hle14K33 := hle14
        have hi15_2K33 := hi15_2
        have hH28K33 := hH28
        have h30_0K33 := h30_0
        have hk20K33 := hk20
        obtain ⟨I34, le34, hk34, s⟩ := s.freezeAt 1 b9 (.cells #[.slice a9 (List.length (l.take (min l.length 60))) c9, .int .i64 ((p15 + geD (l.take (min l.length 60)) p15 e15 (clampN ((L.getD i15 (0, 0, 0)).2.2)) : Nat) : Int), .int .i64 ((geE (l.take (min l.length 60)) p15 e15 (clampN ((L.getD i15 (0, 0, 0)).2.2)) : Nat) : Int)] 99) [((φ12 0), .cells #[.slice a30 n30 c30, .int .i64 ((geE (l.take (min l.length 60)) p15 e15 (clampN ((L.getD i15 (0, 0, 0)).2.2)) : Nat) : Int)] 50)] (by kernel_rfl) (by kernel_rfl)
        replace hl := BSl.mono le34 hl
        replace hA := TSl.mono le34 hA
        replace hb6 := BSl.mono le34 hb6
        replace hb9 := BSl.mono le34 hb9
        replace h11_0 := BoS.mono le34 h11_0
        replace hle14 := leMono le34 hle14
        replace hi15_2 := BoS.mono le34 hi15_2
        replace hH28 := leMono le34 hH28
        replace h30_0 := BoS.mono le34 h30_0
        replace hT33 := leMono le34 hT33
        replace hk20 := le34 _ _ hk20
        refine draw_rule (C := []) ⟨(fun φ35 xs35 => [.look 0 [] [], .look 0 [] [], .look 0 [] [], .look 0 [] [], .call 27 #[.pointer (some ⟨b9, 0, none⟩)], .look 0 [] [], .look 0 [] [], .look 0 [] [], .look 0 [.o 0] [(φ12 0)], .sub 0 [] [] (.bool (((geE (l.take (min l.length 60)) p15 e15 (clampN ((L.getD i15 (0, 0, 0)).2.2)) : Nat) : Int) != ((geE (l.take (min l.length 60)) p15 e15 (clampN ((L.getD i15 (0, 0, 0)).2.2)) : Nat) : Int))), .look 0 [] [], .look 0 [] [], .look 0 [] [], .call 28 #[.pointer (some ⟨b9, 0, none⟩)], .look 0 [] [], .look 0 [] [], .look 0 [] [], .look 0 [.o 0] [(φ12 0)], .look 0 [] [], .sub 0 [] [] (.bool ((((l.take (min l.length 60)).length * 8 - (p15 + geD (l.take (min l.length 60)) p15 e15 (clampN ((L.getD i15 (0, 0, 0)).2.2))) : Nat) : Int) != ((n30 : Nat) : Int))), .look 0 [] []]), (fun φ35 xs35 => [.bool true, .bool false, .bool false, .pointer (some ⟨b9, 0, none⟩), .int .i64 ((geE (l.take (min l.length 60)) p15 e15 (clampN ((L.getD i15 (0, 0, 0)).2.2)) : Nat) : Int), .pointer (some ⟨(φ12 0), 0, none⟩), .pointer (some ⟨(φ12 0), 0, none⟩), .pointer (some ⟨(φ12 0), 1, none⟩), .int .i64 ((geE (l.take (min l.length 60)) p15 e15 (clampN ((L.getD i15 (0, 0, 0)).2.2)) : Nat) : Int), .bool false, .bool false, .bool false, .pointer (some ⟨b9, 0, none⟩), .int .i64 (((l.take (min l.length 60)).length * 8 - (p15 + geD (l.take (min l.length 60)) p15 e15 (clampN ((L.getD i15 (0, 0, 0)).2.2))) : Nat) : Int), .pointer (some ⟨(φ12 0), 0, none⟩), .pointer (some ⟨(φ12 0), 0, none⟩), .pointer (some ⟨(φ12 0), 0, none⟩), .slice a30 n30 c30, .int .i64 ((n30 : Nat) : Int), .bool (decide (((l.take (min l.length 60)).length * 8 - (p15 + geD (l.take (min l.length 60)) p15 e15 (clampN ((L.getD i15 (0, 0, 0)).2.2)))) ≠ n30)), .bool (decide (((l.take (min l.length 60)).length * 8 - (p15 + geD (l.take (min l.length 60)) p15 e15 (clampN ((L.getD i15 (0, 0, 0)).2.2)))) ≠ n30))]), (fun φ35 xs35 => [[((φ12 0), .cells #[.slice a30 n30 c30, .int .i64 ((geE (l.take (min l.length 60)) p15 e15 (clampN ((L.getD i15 (0, 0, 0)).2.2)) : Nat) : Int)] 50)]]), (fun φ35 xs35 => [[default, default, default, default, default, default, default, default, default, default, default, default, default, default, default, default, default, default, default, default, default]]), [], [1, 1, 1, 1, 3, 1, 1, 1, 1, 5, 1, 1, 1, 3, 1, 1, 1, 1, 1, 5, 1]⟩ (fun j => ([MP.any, MP.any, MP.any, MP.any, MP.any, MP.any, MP.any, MP.any, MP.any, MP.any, MP.any, MP.any, MP.any, MP.any, MP.any, MP.any, MP.any, MP.any, MP.any, MP.any, MP.any] : List MP).getD j MP.any) [4, 13] [9, 19] [] (fun φ35 xs35 => []) (fun φ35 xs35 => [(59, .bool true), (60, .bool false), (61, .bool false), (62, .pointer (some ⟨b9, 0, none⟩)), (63, .int .i64 ((geE (l.take (min l.length 60)) p15 e15 (clampN ((L.getD i15 (0, 0, 0)).2.2)) : Nat) : Int)), (64, .pointer (some ⟨(φ12 0), 0, none⟩)), (65, .pointer (some ⟨(φ12 0), 0, none⟩)), (66, .pointer (some ⟨(φ12 0), 1, none⟩)), (67, .int .i64 ((geE (l.take (min l.length 60)) p15 e15 (clampN ((L.getD i15 (0, 0, 0)).2.2)) : Nat) : Int)), (68, .bool false), (69, .bool false), (70, .bool false), (71, .pointer (some ⟨b9, 0, none⟩)), (72, .int .i64 (((l.take (min l.length 60)).length * 8 - (p15 + geD (l.take (min l.length 60)) p15 e15 (clampN ((L.getD i15 (0, 0, 0)).2.2))) : Nat) : Int)), (73, .pointer (some ⟨(φ12 0), 0, none⟩)), (74, .pointer (some ⟨(φ12 0), 0, none⟩)), (75, .pointer (some ⟨(φ12 0), 0, none⟩)), (76, .slice a30 n30 c30), (77, .int .i64 ((n30 : Nat) : Int)), (78, .bool (decide (((l.take (min l.length 60)).length * 8 - (p15 + geD (l.take (min l.length 60)) p15 e15 (clampN ((L.getD i15 (0, 0, 0)).2.2)))) ≠ n30))), (79, .bool (decide (((l.take (min l.length 60)).length * 8 - (p15 + geD (l.take (min l.length 60)) p15 e15 (clampN ((L.getD i15 (0, 0, 0)).2.2)))) ≠ n30)))]) (fun φ35 xs35 => [((φ12 0), .cells #[.slice a30 n30 c30, .int .i64 ((geE (l.take (min l.length 60)) p15 e15 (clampN ((L.getD i15 (0, 0, 0)).2.2)) : Nat) : Int)] 50)]) s trivial (by kernel_rfl) (by kernel_rfl) (fun _ _ => by kernel_rfl) (fun _ _ => by kernel_rfl) ⟨fun _ _ => by kernel_rfl, fun _ _ => by kernel_rfl, fun _ _ => by kernel_rfl, fun _ _ => by kernel_rfl⟩ (fun _ _ _ => by kernel_rfl) (fun _ _ => by kernel_rfl) (fun _ _ => by kernel_rfl) (fun _ _ => by kernel_rfl) (fun _ _ => by kernel_rfl) (fun _ _ => by kernel_rfl) ⟨kcast (A := ∀ (φ35 : Nat → Nat) (xs35 : Xs), (.bool (((geE (l.take (min l.length 60)) p15 e15 (clampN ((L.getD i15 (0, 0, 0)).2.2)) : Nat) : Int) != ((geE (l.take (min l.length 60)) p15 e15 (clampN ((L.getD i15 (0, 0, 0)).2.2)) : Nat) : Int)) : Value) = .bool false) (by kernel_rfl) (fun φ35 xs35 => congrArg Value.bool (((nat_neq (a := (geE (l.take (min l.length 60)) p15 e15 (clampN ((L.getD i15 (0, 0, 0)).2.2)))) (b := (geE (l.take (min l.length 60)) p15 e15 (clampN ((L.getD i15 (0, 0, 0)).2.2))))).trans (decide_eq_false (fun q => q rfl))))), ⟨kcast (A := ∀ (φ35 : Nat → Nat) (xs35 : Xs), (.bool ((((l.take (min l.length 60)).length * 8 - (p15 + geD (l.take (min l.length 60)) p15 e15 (clampN ((L.getD i15 (0, 0, 0)).2.2))) : Nat) : Int) != ((n30 : Nat) : Int)) : Value) = .bool (decide (((l.take (min l.length 60)).length * 8 - (p15 + geD (l.take (min l.length 60)) p15 e15 (clampN ((L.getD i15 (0, 0, 0)).2.2)))) ≠ n30))) (by kernel_rfl) (fun φ35 xs35 => congrArg Value.bool ((nat_neq (a := ((l.take (min l.length 60)).length * 8 - (p15 + geD (l.take (min l.length 60)) p15 e15 (clampN ((L.getD i15 (0, 0, 0)).2.2))))) (b := n30)))), trivial⟩⟩ trivial (by kernel_rfl) ⟨?c35_4, ?c35_13, trivial⟩ ?k35
        case c35_4 =>
          refine kcast (A := ∀ (φ35 : Nat → Nat) (xs35 : Xs) (J4_35 : IM), I34.Le J4_35 → Fun Try.prog 27 #[.pointer (some ⟨b9, 0, none⟩)] J4_35 (fun v J' => ∃ x : UX, v = .int .i64 ((geE (l.take (min l.length 60)) p15 e15 (clampN ((L.getD i15 (0, 0, 0)).2.2)) : Nat) : Int) ∧ (True))) (by kernel_rfl) ?_
          intro φ35 xs35 J4_35 leJ
          have hk34 := leJ _ _ hk34
          exact Fun.mono (errZ_c (l := (l.take (min l.length 60))) (n := 0) (by simp only [List.length_take]; omega) (by have hb1 := hi15_1; have hD1 := geD_le (e := e15) (k := clampN (L.getD i15 (0, 0, 0)).2.2) hi15_1; have hD2 := bnD_pos (e := e15) hi15_1; (simp only [List.length_take] at hb1 hD1 hD2); (simp only [List.length_take]); omega) hk34) (fun v J' _ h => ⟨UX.d, h, trivial⟩)
        case c35_13 =>
          refine kcast (A := ∀ (φ35 : Nat → Nat) (xs35 : Xs) (J13_35 : IM), I34.Le J13_35 → (True) → Fun Try.prog 28 #[.pointer (some ⟨b9, 0, none⟩)] J13_35 (fun v J' => ∃ x : UX, v = .int .i64 (((l.take (min l.length 60)).length * 8 - (p15 + geD (l.take (min l.length 60)) p15 e15 (clampN ((L.getD i15 (0, 0, 0)).2.2))) : Nat) : Int) ∧ (True))) (by kernel_rfl) ?_
          intro φ35 xs35 J13_35 leJ
          rintro _
          have hk34 := leJ _ _ hk34
          exact Fun.mono (leftZ_c (l := (l.take (min l.length 60))) (n := 0) (by simp only [List.length_take]; omega) (by have hb1 := hi15_1; have hD1 := geD_le (e := e15) (k := clampN (L.getD i15 (0, 0, 0)).2.2) hi15_1; have hD2 := bnD_pos (e := e15) hi15_1; (simp only [List.length_take] at hb1 hD1 hD2); (simp only [List.length_take]); omega) hk34) (fun v J' _ h => ⟨UX.d, h, trivial⟩)
        case k35 =>
          rintro φ35 xs35 I35 w35 le35 s _ _
          replace hl := BSl.mono le35 hl
          replace hA := TSl.mono le35 hA
          replace hb6 := BSl.mono le35 hb6
          replace hb9 := BSl.mono le35 hb9
          replace h11_0 := BoS.mono le35 h11_0
          replace hle14 := leMono le35 hle14
          replace hi15_2 := BoS.mono le35 hi15_2
          replace hH28 := leMono le35 hH28
          replace h30_0 := BoS.mono le35 h30_0
          replace hT33 := leMono le35 hT33
          replace hk20 := le35 _ _ hk20
          replace hk34 := le35 _ _ hk34
          replace s := St.thaw s hk34 hz33.2.1 hz33.2.2
          have leT33 := IM.le_del (g := b9) hT33 hz33.1
          generalize IM.del I35 b9 = J33 at s leT33
          replace hl := BSl.mono leT33 hlK33
          replace hA := TSl.mono leT33 hAK33
          replace hb6 := BSl.mono leT33 hb6K33
          replace hb9 := BSl.mono leT33 hb9K33
          replace h11_0 := BoS.mono leT33 h11_0K33
          replace hle14 := leMono leT33 hle14K33
          replace hi15_2 := BoS.mono leT33 hi15_2K33
          replace hH28 := leMono leT33 hH28K33
          replace h30_0 := BoS.mono leT33 h30_0K33
          replace hk20 := leT33 _ _ hk20K33
          rcases Bool.eq_false_or_eq_true (decide (((l.take (min l.length 60)).length * 8 - (p15 + geD (l.take (min l.length 60)) p15 e15 (clampN ((L.getD i15 (0, 0, 0)).2.2)))) ≠ n30)) with hc36 | hc36
          ·
            exact absurd (of_decide_eq_true hc36) (by have hk9 := (h30_0).cap.1; rw [List.length_drop, bitsL_len] at hk9; have hb1 := hi15_1; have hD1 := geD_le (e := e15) (k := clampN (L.getD i15 (0, 0, 0)).2.2) hi15_1; have hD2 := bnD_pos (e := e15) hi15_1; (simp only [List.length_take] at hb1 hD1 hD2); simp only [List.length_take] at hk9 ⊢; omega)
          ·
            rw [hc36]
            refine cond_false_rule (b := false) (by kernel_rfl) rfl ?_
            refine wp_skip ?_
            refine region_rule ?_
            refine ops_rule (C := []) [((φ12 0), .cells #[.slice a30 n30 c30, .int .i64 ((geE (l.take (min l.length 60)) p15 e15 (clampN ((L.getD i15 (0, 0, 0)).2.2)) : Nat) : Int)] 50), (b9, .cells #[.slice a9 (List.length (l.take (min l.length 60))) c9, .int .i64 ((p15 + geD (l.take (min l.length 60)) p15 e15 (clampN ((L.getD i15 (0, 0, 0)).2.2)) : Nat) : Int), .int .i64 ((geE (l.take (min l.length 60)) p15 e15 (clampN ((L.getD i15 (0, 0, 0)).2.2)) : Nat) : Int)] 99)] [] 2 [] 0 (fun φ37 => [(26, .int .i64 (IntKind.wrap .i64 (((i15 : Nat) : Int) + ((1 : Nat) : Int)))), (80, .int .i64 (IntKind.wrap .i64 (((i15 : Nat) : Int) + ((1 : Nat) : Int))))]) (fun φ37 => [((φ12 0), .cells #[.slice a30 n30 c30, .int .i64 ((geE (l.take (min l.length 60)) p15 e15 (clampN ((L.getD i15 (0, 0, 0)).2.2)) : Nat) : Int)] 50), (b9, .cells #[.slice a9 (List.length (l.take (min l.length 60))) c9, .int .i64 ((p15 + geD (l.take (min l.length 60)) p15 e15 (clampN ((L.getD i15 (0, 0, 0)).2.2)) : Nat) : Int), .int .i64 ((geE (l.take (min l.length 60)) p15 e15 (clampN ((L.getD i15 (0, 0, 0)).2.2)) : Nat) : Int)] 99)]) (fun φ37 => []) s trivial (fun φ37 => by kernel_rfl) ?_
            intro φ37 w37 s
            rw [nat_addI (a := i15) (b := 1) (by have hb1 := hi15_1; have hD1 := geD_le (e := e15) (k := clampN (L.getD i15 (0, 0, 0)).2.2) hi15_1; have hD2 := bnD_pos (e := e15) hi15_1; (simp only [List.length_take] at hb1 hD1 hD2); have hq0 := of_decide_eq_true hc17; have hq1 := of_decide_eq_false hc22; have hq2 := of_decide_eq_true hc27; have hq3 := of_decide_eq_false hc36; omega)]
            refine ops_done (by kernel_rfl) ?_
            exact ⟨⟨m15 - 1, (i15 + 1, p15 + geD (l.take (min l.length 60)) p15 e15 (clampN ((L.getD i15 (0, 0, 0)).2.2)), geE (l.take (min l.length 60)) p15 e15 (clampN ((L.getD i15 (0, 0, 0)).2.2)), a30, n30, c30), _, _, _, by have hq0 := of_decide_eq_true hc17; have hq1 := of_decide_eq_false hc22; have hq2 := of_decide_eq_true hc27; have hq3 := of_decide_eq_false hc36; have := hi15_0; omega, rfl, s, (List.Sublist.cons₂ _ (List.Sublist.cons₂ _ List.Sublist.slnil)), by kernel_rfl, hle14, by have hq0 := of_decide_eq_true hc17; have hq1 := of_decide_eq_false hc22; have hq2 := of_decide_eq_true hc27; have hq3 := of_decide_eq_false hc36; have := hi15_0; show i15 + 1 + (m15 - 1) = L.length; omega, by have hb1 := hi15_1; have hD1 := geD_le (e := e15) (k := clampN (L.getD i15 (0, 0, 0)).2.2) hi15_1; have hD2 := bnD_pos (e := e15) hi15_1; (simp only [List.length_take] at hb1 hD1 hD2); show _ ≤ _; (simp only [List.length_take]); omega, h30_0⟩⟩
      ·
        rw [hc27]
        refine cond_false_rule (b := false) (by kernel_rfl) rfl ?_
        refine wp_seq ?_
        refine region_rule ?_
        refine ops_rule (C := []) [((φ12 0), .cells #[.slice a15 n15 c15, .int .i64 ((e15 : Nat) : Int)] 50), (b9, .cells #[.slice a9 (List.length (l.take (min l.length 60))) c9, .int .i64 ((p15 : Nat) : Int), .int .i64 ((e15 : Nat) : Int)] 99)] [] 2 [] 0 (fun φ38 => [(52, .bool (((((L.getD i15 (0, 0, 0)).1) % 3 : Nat) : Int) == ((1 : Nat) : Int))), (53, .bool (((((L.getD i15 (0, 0, 0)).1) % 3 : Nat) : Int) == ((1 : Nat) : Int)))]) (fun φ38 => [((φ12 0), .cells #[.slice a15 n15 c15, .int .i64 ((e15 : Nat) : Int)] 50), (b9, .cells #[.slice a9 (List.length (l.take (min l.length 60))) c9, .int .i64 ((p15 : Nat) : Int), .int .i64 ((e15 : Nat) : Int)] 99)]) (fun φ38 => []) s trivial (fun φ38 => by kernel_rfl) ?_
        intro φ38 w38 s
        rw [nat_eql (a := (((L.getD i15 (0, 0, 0)).1) % 3)) (b := 1)]
        refine ops_done (by kernel_rfl) ?_
        rcases Bool.eq_false_or_eq_true (decide ((((L.getD i15 (0, 0, 0)).1) % 3) = 1)) with hc39 | hc39
        ·
          rw [hc39]
          refine cond_true_rule (b := true) (by kernel_rfl) rfl ?_
          refine region_rule ?_
          refine ops_rule (C := []) [((φ12 0), .cells #[.slice a15 n15 c15, .int .i64 ((e15 : Nat) : Int)] 50), (b9, .cells #[.slice a9 (List.length (l.take (min l.length 60))) c9, .int .i64 ((p15 : Nat) : Int), .int .i64 ((e15 : Nat) : Int)] 99)] [] 1 [] 0 (fun φ40 => [(54, .pointer (some ⟨b9, 0, none⟩))]) (fun φ40 => [((φ12 0), .cells #[.slice a15 n15 c15, .int .i64 ((e15 : Nat) : Int)] 50), (b9, .cells #[.slice a9 (List.length (l.take (min l.length 60))) c9, .int .i64 ((p15 : Nat) : Int), .int .i64 ((e15 : Nat) : Int)] 99)]) (fun φ40 => []) s trivial (fun φ40 => by kernel_rfl) ?_
          intro φ40 w40 s
          refine callB_rule (b := (b9, .cells #[.slice a9 (List.length (l.take (min l.length 60))) c9, .int .i64 ((p15 : Nat) : Int), .int .i64 ((e15 : Nat) : Int)] 99)) (H := [((φ12 0), .cells #[.slice a15 n15 c15, .int .i64 ((e15 : Nat) : Int)] 50), (b9, .cells #[.slice a9 (List.length (l.take (min l.length 60))) c9, .int .i64 ((p15 : Nat) : Int), .int .i64 ((e15 : Nat) : Int)] 99)]) (F := []) (Hr := [((φ12 0), .cells #[.slice a15 n15 c15, .int .i64 ((e15 : Nat) : Int)] 50)]) (some 55) 1 s (by kernel_rfl) (by kernel_rfl) (numRA_c (r := b9) (p := p15) (e := e15) hb9 (by simp only [List.length_take]; omega) hi15_1) (by kernel_rfl) ?_
          rintro v41 I41 w41 b41 le41 - h41 s
          replace hl := BSl.mono le41 hl
          replace hA := TSl.mono le41 hA
          replace hb6 := BSl.mono le41 hb6
          replace hb9 := BSl.mono le41 hb9
          replace h11_0 := BoS.mono le41 h11_0
          replace hle14 := leMono le41 hle14
          replace hi15_2 := BoS.mono le41 hi15_2
          replace hk20 := le41 _ _ hk20
          obtain ⟨rfl, rfl⟩ := h41
          refine ops_rule (C := []) [(b9, .cells #[.slice a9 (List.length (l.take (min l.length 60))) c9, .int .i64 ((p15 + bnD ((bitsL (l.take (min l.length 60))).drop p15) e15 : Nat) : Int), .int .i64 ((bnE ((bitsL (l.take (min l.length 60))).drop p15) e15 : Nat) : Int)] 99), ((φ12 0), .cells #[.slice a15 n15 c15, .int .i64 ((e15 : Nat) : Int)] 50)] [] 1 [] 0 (fun φ42 => [(56, .pointer (some ⟨(φ12 0), 0, none⟩))]) (fun φ42 => [(b9, .cells #[.slice a9 (List.length (l.take (min l.length 60))) c9, .int .i64 ((p15 + bnD ((bitsL (l.take (min l.length 60))).drop p15) e15 : Nat) : Int), .int .i64 ((bnE ((bitsL (l.take (min l.length 60))).drop p15) e15 : Nat) : Int)] 99), ((φ12 0), .cells #[.slice a15 n15 c15, .int .i64 ((e15 : Nat) : Int)] 50)]) (fun φ42 => []) s trivial (fun φ42 => by kernel_rfl) ?_
          intro φ42 w42 s
          refine callB_rule (b := ((φ12 0), .cells #[.slice a15 n15 c15, .int .i64 ((e15 : Nat) : Int)] 50)) (H := [(b9, .cells #[.slice a9 (List.length (l.take (min l.length 60))) c9, .int .i64 ((p15 + bnD ((bitsL (l.take (min l.length 60))).drop p15) e15 : Nat) : Int), .int .i64 ((bnE ((bitsL (l.take (min l.length 60))).drop p15) e15 : Nat) : Int)] 99), ((φ12 0), .cells #[.slice a15 n15 c15, .int .i64 ((e15 : Nat) : Int)] 50)]) (F := []) (Hr := [(b9, .cells #[.slice a9 (List.length (l.take (min l.length 60))) c9, .int .i64 ((p15 + bnD ((bitsL (l.take (min l.length 60))).drop p15) e15 : Nat) : Int), .int .i64 ((bnE ((bitsL (l.take (min l.length 60))).drop p15) e15 : Nat) : Int)] 99)]) (some 57) 1 s (by kernel_rfl) (by kernel_rfl) (refNumL_c (y := (φ12 0)) (p := p15) (e := e15) hi15_2 (by simp only [List.length_take]; omega)) (by kernel_rfl) ?_
          rintro v43 I43 w43 b43 le43 - h43 s
          replace hl := BSl.mono le43 hl
          replace hA := TSl.mono le43 hA
          replace hb6 := BSl.mono le43 hb6
          replace hb9 := BSl.mono le43 hb9
          replace h11_0 := BoS.mono le43 h11_0
          replace hle14 := leMono le43 hle14
          replace hi15_2 := BoS.mono le43 hi15_2
          replace hk20 := le43 _ _ hk20
          obtain ⟨a43, n43, c43, rfl, rfl, h43_0⟩ := h43
          refine ops_rule (C := []) [((φ12 0), .cells #[.slice a43 n43 c43, .int .i64 ((bnE ((bitsL (l.take (min l.length 60))).drop p15) e15 : Nat) : Int)] 50), (b9, .cells #[.slice a9 (List.length (l.take (min l.length 60))) c9, .int .i64 ((p15 + bnD ((bitsL (l.take (min l.length 60))).drop p15) e15 : Nat) : Int), .int .i64 ((bnE ((bitsL (l.take (min l.length 60))).drop p15) e15 : Nat) : Int)] 99)] [] 2 [] 0 (fun φ44 => [(9, .bool (((bnV ((bitsL (l.take (min l.length 60))).drop p15) e15 : Nat) : Int) == ((bnV ((bitsL (l.take (min l.length 60))).drop p15) e15 : Nat) : Int))), (58, .bool (((bnV ((bitsL (l.take (min l.length 60))).drop p15) e15 : Nat) : Int) == ((bnV ((bitsL (l.take (min l.length 60))).drop p15) e15 : Nat) : Int)))]) (fun φ44 => [((φ12 0), .cells #[.slice a43 n43 c43, .int .i64 ((bnE ((bitsL (l.take (min l.length 60))).drop p15) e15 : Nat) : Int)] 50), (b9, .cells #[.slice a9 (List.length (l.take (min l.length 60))) c9, .int .i64 ((p15 + bnD ((bitsL (l.take (min l.length 60))).drop p15) e15 : Nat) : Int), .int .i64 ((bnE ((bitsL (l.take (min l.length 60))).drop p15) e15 : Nat) : Int)] 99)]) (fun φ44 => []) s trivial (fun φ44 => by kernel_rfl) ?_
          intro φ44 w44 s
          rw [(nat_eql (a := (bnV ((bitsL (l.take (min l.length 60))).drop p15) e15)) (b := (bnV ((bitsL (l.take (min l.length 60))).drop p15) e15))).trans (decide_eq_true rfl)]
          refine ops_done (by kernel_rfl) ?_
          refine wp_seq ?_
          have hz45 := St.none0 s (g := b9) (o := .cells #[.slice a9 (List.length (l.take (min l.length 60))) c9, .int .i64 ((p15 + bnD ((bitsL (l.take (min l.length 60))).drop p15) e15 : Nat) : Int), .int .i64 ((bnE ((bitsL (l.take (min l.length 60))).drop p15) e15 : Nat) : Int)] 99) (by simp)
          have hT45 := IM.Le.refl I43
          have hlK45 := hl
          have hAK45 := hA
          have hb6K45 := hb6
          have hb9K45 := hb9
          have h11_0K45 := h11_0
          have hle14K45 := hle14
          have hi15_2K45 := hi15_2
          have h43_0K45 := h43_0
          have hk20K45 := hk20
          obtain ⟨I46, le46, hk46, s⟩ := s.freezeAt 1 b9 (.cells #[.slice a9 (List.length (l.take (min l.length 60))) c9, .int .i64 ((p15 + bnD ((bitsL (l.take (min l.length 60))).drop p15) e15 : Nat) : Int), .int .i64 ((bnE ((bitsL (l.take (min l.length 60))).drop p15) e15 : Nat) : Int)] 99) [((φ12 0), .cells #[.slice a43 n43 c43, .int .i64 ((bnE ((bitsL (l.take (min l.length 60))).drop p15) e15 : Nat) : Int)] 50)] (by kernel_rfl) (by kernel_rfl)
          replace hl := BSl.mono le46 hl
          replace hA := TSl.mono le46 hA
          replace hb6 := BSl.mono le46 hb6
          replace hb9 := BSl.mono le46 hb9
          replace h11_0 := BoS.mono le46 h11_0
          replace hle14 := leMono le46 hle14
          replace hi15_2 := BoS.mono le46 hi15_2
          replace h43_0 := BoS.mono le46 h43_0
          replace hT45 := leMono le46 hT45
          replace hk20 := le46 _ _ hk20
          refine draw_rule (C := []) ⟨(fun φ47 xs47 => [.look 0 [] [], .look 0 [] [], .look 0 [] [], .look 0 [] [], .call 27 #[.pointer (some ⟨b9, 0, none⟩)], .look 0 [] [], .look 0 [] [], .look 0 [] [], .look 0 [.o 0] [(φ12 0)], .sub 0 [] [] (.bool (((bnE ((bitsL (l.take (min l.length 60))).drop p15) e15 : Nat) : Int) != ((bnE ((bitsL (l.take (min l.length 60))).drop p15) e15 : Nat) : Int))), .look 0 [] [], .look 0 [] [], .look 0 [] [], .call 28 #[.pointer (some ⟨b9, 0, none⟩)], .look 0 [] [], .look 0 [] [], .look 0 [] [], .look 0 [.o 0] [(φ12 0)], .look 0 [] [], .sub 0 [] [] (.bool ((((l.take (min l.length 60)).length * 8 - (p15 + bnD ((bitsL (l.take (min l.length 60))).drop p15) e15) : Nat) : Int) != ((n43 : Nat) : Int))), .look 0 [] []]), (fun φ47 xs47 => [.bool true, .bool false, .bool false, .pointer (some ⟨b9, 0, none⟩), .int .i64 ((bnE ((bitsL (l.take (min l.length 60))).drop p15) e15 : Nat) : Int), .pointer (some ⟨(φ12 0), 0, none⟩), .pointer (some ⟨(φ12 0), 0, none⟩), .pointer (some ⟨(φ12 0), 1, none⟩), .int .i64 ((bnE ((bitsL (l.take (min l.length 60))).drop p15) e15 : Nat) : Int), .bool false, .bool false, .bool false, .pointer (some ⟨b9, 0, none⟩), .int .i64 (((l.take (min l.length 60)).length * 8 - (p15 + bnD ((bitsL (l.take (min l.length 60))).drop p15) e15) : Nat) : Int), .pointer (some ⟨(φ12 0), 0, none⟩), .pointer (some ⟨(φ12 0), 0, none⟩), .pointer (some ⟨(φ12 0), 0, none⟩), .slice a43 n43 c43, .int .i64 ((n43 : Nat) : Int), .bool (decide (((l.take (min l.length 60)).length * 8 - (p15 + bnD ((bitsL (l.take (min l.length 60))).drop p15) e15)) ≠ n43)), .bool (decide (((l.take (min l.length 60)).length * 8 - (p15 + bnD ((bitsL (l.take (min l.length 60))).drop p15) e15)) ≠ n43))]), (fun φ47 xs47 => [[((φ12 0), .cells #[.slice a43 n43 c43, .int .i64 ((bnE ((bitsL (l.take (min l.length 60))).drop p15) e15 : Nat) : Int)] 50)]]), (fun φ47 xs47 => [[default, default, default, default, default, default, default, default, default, default, default, default, default, default, default, default, default, default, default, default, default]]), [], [1, 1, 1, 1, 3, 1, 1, 1, 1, 5, 1, 1, 1, 3, 1, 1, 1, 1, 1, 5, 1]⟩ (fun j => ([MP.any, MP.any, MP.any, MP.any, MP.any, MP.any, MP.any, MP.any, MP.any, MP.any, MP.any, MP.any, MP.any, MP.any, MP.any, MP.any, MP.any, MP.any, MP.any, MP.any, MP.any] : List MP).getD j MP.any) [4, 13] [9, 19] [] (fun φ47 xs47 => []) (fun φ47 xs47 => [(59, .bool true), (60, .bool false), (61, .bool false), (62, .pointer (some ⟨b9, 0, none⟩)), (63, .int .i64 ((bnE ((bitsL (l.take (min l.length 60))).drop p15) e15 : Nat) : Int)), (64, .pointer (some ⟨(φ12 0), 0, none⟩)), (65, .pointer (some ⟨(φ12 0), 0, none⟩)), (66, .pointer (some ⟨(φ12 0), 1, none⟩)), (67, .int .i64 ((bnE ((bitsL (l.take (min l.length 60))).drop p15) e15 : Nat) : Int)), (68, .bool false), (69, .bool false), (70, .bool false), (71, .pointer (some ⟨b9, 0, none⟩)), (72, .int .i64 (((l.take (min l.length 60)).length * 8 - (p15 + bnD ((bitsL (l.take (min l.length 60))).drop p15) e15) : Nat) : Int)), (73, .pointer (some ⟨(φ12 0), 0, none⟩)), (74, .pointer (some ⟨(φ12 0), 0, none⟩)), (75, .pointer (some ⟨(φ12 0), 0, none⟩)), (76, .slice a43 n43 c43), (77, .int .i64 ((n43 : Nat) : Int)), (78, .bool (decide (((l.take (min l.length 60)).length * 8 - (p15 + bnD ((bitsL (l.take (min l.length 60))).drop p15) e15)) ≠ n43))), (79, .bool (decide (((l.take (min l.length 60)).length * 8 - (p15 + bnD ((bitsL (l.take (min l.length 60))).drop p15) e15)) ≠ n43)))]) (fun φ47 xs47 => [((φ12 0), .cells #[.slice a43 n43 c43, .int .i64 ((bnE ((bitsL (l.take (min l.length 60))).drop p15) e15 : Nat) : Int)] 50)]) s trivial (by kernel_rfl) (by kernel_rfl) (fun _ _ => by kernel_rfl) (fun _ _ => by kernel_rfl) ⟨fun _ _ => by kernel_rfl, fun _ _ => by kernel_rfl, fun _ _ => by kernel_rfl, fun _ _ => by kernel_rfl⟩ (fun _ _ _ => by kernel_rfl) (fun _ _ => by kernel_rfl) (fun _ _ => by kernel_rfl) (fun _ _ => by kernel_rfl) (fun _ _ => by kernel_rfl) (fun _ _ => by kernel_rfl) ⟨kcast (A := ∀ (φ47 : Nat → Nat) (xs47 : Xs), (.bool (((bnE ((bitsL (l.take (min l.length 60))).drop p15) e15 : Nat) : Int) != ((bnE ((bitsL (l.take (min l.length 60))).drop p15) e15 : Nat) : Int)) : Value) = .bool false) (by kernel_rfl) (fun φ47 xs47 => congrArg Value.bool (((nat_neq (a := (bnE ((bitsL (l.take (min l.length 60))).drop p15) e15)) (b := (bnE ((bitsL (l.take (min l.length 60))).drop p15) e15))).trans (decide_eq_false (fun q => q rfl))))), ⟨kcast (A := ∀ (φ47 : Nat → Nat) (xs47 : Xs), (.bool ((((l.take (min l.length 60)).length * 8 - (p15 + bnD ((bitsL (l.take (min l.length 60))).drop p15) e15) : Nat) : Int) != ((n43 : Nat) : Int)) : Value) = .bool (decide (((l.take (min l.length 60)).length * 8 - (p15 + bnD ((bitsL (l.take (min l.length 60))).drop p15) e15)) ≠ n43))) (by kernel_rfl) (fun φ47 xs47 => congrArg Value.bool ((nat_neq (a := ((l.take (min l.length 60)).length * 8 - (p15 + bnD ((bitsL (l.take (min l.length 60))).drop p15) e15))) (b := n43)))), trivial⟩⟩ trivial (by kernel_rfl) ⟨?c47_4, ?c47_13, trivial⟩ ?k47
          case c47_4 =>
            refine kcast (A := ∀ (φ47 : Nat → Nat) (xs47 : Xs) (J4_47 : IM), I46.Le J4_47 → Fun Try.prog 27 #[.pointer (some ⟨b9, 0, none⟩)] J4_47 (fun v J' => ∃ x : UX, v = .int .i64 ((bnE ((bitsL (l.take (min l.length 60))).drop p15) e15 : Nat) : Int) ∧ (True))) (by kernel_rfl) ?_
            intro φ47 xs47 J4_47 leJ
            have hk46 := leJ _ _ hk46
            exact Fun.mono (errZ_c (l := (l.take (min l.length 60))) (n := 0) (by simp only [List.length_take]; omega) (by have hb1 := hi15_1; have hD1 := geD_le (e := e15) (k := clampN (L.getD i15 (0, 0, 0)).2.2) hi15_1; have hD2 := bnD_pos (e := e15) hi15_1; (simp only [List.length_take] at hb1 hD1 hD2); (simp only [List.length_take]); omega) hk46) (fun v J' _ h => ⟨UX.d, h, trivial⟩)
          case c47_13 =>
            refine kcast (A := ∀ (φ47 : Nat → Nat) (xs47 : Xs) (J13_47 : IM), I46.Le J13_47 → (True) → Fun Try.prog 28 #[.pointer (some ⟨b9, 0, none⟩)] J13_47 (fun v J' => ∃ x : UX, v = .int .i64 (((l.take (min l.length 60)).length * 8 - (p15 + bnD ((bitsL (l.take (min l.length 60))).drop p15) e15) : Nat) : Int) ∧ (True))) (by kernel_rfl) ?_
            intro φ47 xs47 J13_47 leJ
            rintro _
            have hk46 := leJ _ _ hk46
            exact Fun.mono (leftZ_c (l := (l.take (min l.length 60))) (n := 0) (by simp only [List.length_take]; omega) (by have hb1 := hi15_1; have hD1 := geD_le (e := e15) (k := clampN (L.getD i15 (0, 0, 0)).2.2) hi15_1; have hD2 := bnD_pos (e := e15) hi15_1; (simp only [List.length_take] at hb1 hD1 hD2); (simp only [List.length_take]); omega) hk46) (fun v J' _ h => ⟨UX.d, h, trivial⟩)
          case k47 =>
            rintro φ47 xs47 I47 w47 le47 s _ _
            replace hl := BSl.mono le47 hl
            replace hA := TSl.mono le47 hA
            replace hb6 := BSl.mono le47 hb6
            replace hb9 := BSl.mono le47 hb9
            replace h11_0 := BoS.mono le47 h11_0
            replace hle14 := leMono le47 hle14
            replace hi15_2 := BoS.mono le47 hi15_2
            replace h43_0 := BoS.mono le47 h43_0
            replace hT45 := leMono le47 hT45
            replace hk20 := le47 _ _ hk20
            replace hk46 := le47 _ _ hk46
            replace s := St.thaw s hk46 hz45.2.1 hz45.2.2
            have leT45 := IM.le_del (g := b9) hT45 hz45.1
            generalize IM.del I47 b9 = J45 at s leT45
            replace hl := BSl.mono leT45 hlK45
            replace hA := TSl.mono leT45 hAK45
            replace hb6 := BSl.mono leT45 hb6K45
            replace hb9 := BSl.mono leT45 hb9K45
            replace h11_0 := BoS.mono leT45 h11_0K45
            replace hle14 := leMono leT45 hle14K45
            replace hi15_2 := BoS.mono leT45 hi15_2K45
            replace h43_0 := BoS.mono leT45 h43_0K45
            replace hk20 := leT45 _ _ hk20K45
            rcases Bool.eq_false_or_eq_true (decide (((l.take (min l.length 60)).length * 8 - (p15 + bnD ((bitsL (l.take (min l.length 60))).drop p15) e15)) ≠ n43)) with hc48 | hc48
            ·
              exact absurd (of_decide_eq_true hc48) (by have hk9 := (h43_0).cap.1; rw [List.length_drop, bitsL_len] at hk9; have hb1 := hi15_1; have hD1 := geD_le (e := e15) (k := clampN (L.getD i15 (0, 0, 0)).2.2) hi15_1; have hD2 := bnD_pos (e := e15) hi15_1; (simp only [List.length_take] at hb1 hD1 hD2); simp only [List.length_take] at hk9 ⊢; omega)
            ·
              rw [hc48]
              refine cond_false_rule (b := false) (by kernel_rfl) rfl ?_
              refine wp_skip ?_
              refine region_rule ?_
              refine ops_rule (C := []) [((φ12 0), .cells #[.slice a43 n43 c43, .int .i64 ((bnE ((bitsL (l.take (min l.length 60))).drop p15) e15 : Nat) : Int)] 50), (b9, .cells #[.slice a9 (List.length (l.take (min l.length 60))) c9, .int .i64 ((p15 + bnD ((bitsL (l.take (min l.length 60))).drop p15) e15 : Nat) : Int), .int .i64 ((bnE ((bitsL (l.take (min l.length 60))).drop p15) e15 : Nat) : Int)] 99)] [] 2 [] 0 (fun φ49 => [(26, .int .i64 (IntKind.wrap .i64 (((i15 : Nat) : Int) + ((1 : Nat) : Int)))), (80, .int .i64 (IntKind.wrap .i64 (((i15 : Nat) : Int) + ((1 : Nat) : Int))))]) (fun φ49 => [((φ12 0), .cells #[.slice a43 n43 c43, .int .i64 ((bnE ((bitsL (l.take (min l.length 60))).drop p15) e15 : Nat) : Int)] 50), (b9, .cells #[.slice a9 (List.length (l.take (min l.length 60))) c9, .int .i64 ((p15 + bnD ((bitsL (l.take (min l.length 60))).drop p15) e15 : Nat) : Int), .int .i64 ((bnE ((bitsL (l.take (min l.length 60))).drop p15) e15 : Nat) : Int)] 99)]) (fun φ49 => []) s trivial (fun φ49 => by kernel_rfl) ?_
              intro φ49 w49 s
              rw [nat_addI (a := i15) (b := 1) (by have hb1 := hi15_1; have hD1 := geD_le (e := e15) (k := clampN (L.getD i15 (0, 0, 0)).2.2) hi15_1; have hD2 := bnD_pos (e := e15) hi15_1; (simp only [List.length_take] at hb1 hD1 hD2); have hq0 := of_decide_eq_true hc17; have hq1 := of_decide_eq_false hc22; have hq2 := of_decide_eq_false hc27; have hq3 := of_decide_eq_true hc39; have hq4 := of_decide_eq_false hc48; omega)]
              refine ops_done (by kernel_rfl) ?_
              exact ⟨⟨m15 - 1, (i15 + 1, p15 + bnD ((bitsL (l.take (min l.length 60))).drop p15) e15, bnE ((bitsL (l.take (min l.length 60))).drop p15) e15, a43, n43, c43), _, _, _, by have hq0 := of_decide_eq_true hc17; have hq1 := of_decide_eq_false hc22; have hq2 := of_decide_eq_false hc27; have hq3 := of_decide_eq_true hc39; have hq4 := of_decide_eq_false hc48; have := hi15_0; omega, rfl, s, (List.Sublist.cons₂ _ (List.Sublist.cons₂ _ List.Sublist.slnil)), by kernel_rfl, hle14, by have hq0 := of_decide_eq_true hc17; have hq1 := of_decide_eq_false hc22; have hq2 := of_decide_eq_false hc27; have hq3 := of_decide_eq_true hc39; have hq4 := of_decide_eq_false hc48; have := hi15_0; show i15 + 1 + (m15 - 1) = L.length; omega, by have hb1 := hi15_1; have hD1 := geD_le (e := e15) (k := clampN (L.getD i15 (0, 0, 0)).2.2) hi15_1; have hD2 := bnD_pos (e := e15) hi15_1; (simp only [List.length_take] at hb1 hD1 hD2); show _ ≤ _; (simp only [List.length_take]); omega, h43_0⟩⟩
        ·
          rw [hc39]
          refine cond_false_rule (b := false) (by kernel_rfl) rfl ?_
          refine region_rule ?_
          refine ops_rule (C := []) [((φ12 0), .cells #[.slice a15 n15 c15, .int .i64 ((e15 : Nat) : Int)] 50), (b9, .cells #[.slice a9 (List.length (l.take (min l.length 60))) c9, .int .i64 ((p15 : Nat) : Int), .int .i64 ((e15 : Nat) : Int)] 99)] [] 1 [] 0 (fun φ50 => [(36, .pointer (some ⟨b9, 0, none⟩))]) (fun φ50 => [((φ12 0), .cells #[.slice a15 n15 c15, .int .i64 ((e15 : Nat) : Int)] 50), (b9, .cells #[.slice a9 (List.length (l.take (min l.length 60))) c9, .int .i64 ((p15 : Nat) : Int), .int .i64 ((e15 : Nat) : Int)] 99)]) (fun φ50 => []) s trivial (fun φ50 => by kernel_rfl) ?_
          intro φ50 w50 s
          refine callB_rule (b := (b9, .cells #[.slice a9 (List.length (l.take (min l.length 60))) c9, .int .i64 ((p15 : Nat) : Int), .int .i64 ((e15 : Nat) : Int)] 99)) (H := [((φ12 0), .cells #[.slice a15 n15 c15, .int .i64 ((e15 : Nat) : Int)] 50), (b9, .cells #[.slice a9 (List.length (l.take (min l.length 60))) c9, .int .i64 ((p15 : Nat) : Int), .int .i64 ((e15 : Nat) : Int)] 99)]) (F := []) (Hr := [((φ12 0), .cells #[.slice a15 n15 c15, .int .i64 ((e15 : Nat) : Int)] 50)]) (some 37) 1 s (by kernel_rfl) (by kernel_rfl) (endR_c (r := b9) (p := p15) (e := e15) hb9 (by simp only [List.length_take]; omega) hi15_1) (by kernel_rfl) ?_
          rintro v51 I51 w51 b51 le51 - h51 s
          replace hl := BSl.mono le51 hl
          replace hA := TSl.mono le51 hA
          replace hb6 := BSl.mono le51 hb6
          replace hb9 := BSl.mono le51 hb9
          replace h11_0 := BoS.mono le51 h11_0
          replace hle14 := leMono le51 hle14
          replace hi15_2 := BoS.mono le51 hi15_2
          replace hk20 := le51 _ _ hk20
          obtain ⟨rfl, rfl⟩ := h51
          refine ops_rule (C := []) [(b9, .cells #[.slice a9 (List.length (l.take (min l.length 60))) c9, .int .i64 ((p15 : Nat) : Int), .int .i64 ((eoE (l.take (min l.length 60)) p15 e15 : Nat) : Int)] 99), ((φ12 0), .cells #[.slice a15 n15 c15, .int .i64 ((e15 : Nat) : Int)] 50)] [] 1 [] 0 (fun φ52 => [(38, .pointer (some ⟨(φ12 0), 0, none⟩))]) (fun φ52 => [(b9, .cells #[.slice a9 (List.length (l.take (min l.length 60))) c9, .int .i64 ((p15 : Nat) : Int), .int .i64 ((eoE (l.take (min l.length 60)) p15 e15 : Nat) : Int)] 99), ((φ12 0), .cells #[.slice a15 n15 c15, .int .i64 ((e15 : Nat) : Int)] 50)]) (fun φ52 => []) s trivial (fun φ52 => by kernel_rfl) ?_
          intro φ52 w52 s
          refine callB_rule (b := ((φ12 0), .cells #[.slice a15 n15 c15, .int .i64 ((e15 : Nat) : Int)] 50)) (H := [(b9, .cells #[.slice a9 (List.length (l.take (min l.length 60))) c9, .int .i64 ((p15 : Nat) : Int), .int .i64 ((eoE (l.take (min l.length 60)) p15 e15 : Nat) : Int)] 99), ((φ12 0), .cells #[.slice a15 n15 c15, .int .i64 ((e15 : Nat) : Int)] 50)]) (F := []) (Hr := [(b9, .cells #[.slice a9 (List.length (l.take (min l.length 60))) c9, .int .i64 ((p15 : Nat) : Int), .int .i64 ((eoE (l.take (min l.length 60)) p15 e15 : Nat) : Int)] 99)]) (some 39) 1 s (by kernel_rfl) (by kernel_rfl) (refEndL_c (y := (φ12 0)) (p := p15) (e := e15) hi15_2 (by simp only [List.length_take]; omega)) (by kernel_rfl) ?_
          rintro v53 I53 w53 b53 le53 - h53 s
          replace hl := BSl.mono le53 hl
          replace hA := TSl.mono le53 hA
          replace hb6 := BSl.mono le53 hb6
          replace hb9 := BSl.mono le53 hb9
          replace h11_0 := BoS.mono le53 h11_0
          replace hle14 := leMono le53 hle14
          replace hi15_2 := BoS.mono le53 hi15_2
          replace hk20 := le53 _ _ hk20
          obtain ⟨rfl, rfl⟩ := h53
          refine ops_rule (C := []) [((φ12 0), .cells #[.slice a15 n15 c15, .int .i64 ((eoE (l.take (min l.length 60)) p15 e15 : Nat) : Int)] 50), (b9, .cells #[.slice a9 (List.length (l.take (min l.length 60))) c9, .int .i64 ((p15 : Nat) : Int), .int .i64 ((eoE (l.take (min l.length 60)) p15 e15 : Nat) : Int)] 99)] [] 2 [] 0 (fun φ54 => [(9, .bool (((eoE (l.take (min l.length 60)) p15 e15 : Nat) : Int) == ((eoE (l.take (min l.length 60)) p15 e15 : Nat) : Int))), (40, .bool (((eoE (l.take (min l.length 60)) p15 e15 : Nat) : Int) == ((eoE (l.take (min l.length 60)) p15 e15 : Nat) : Int)))]) (fun φ54 => [((φ12 0), .cells #[.slice a15 n15 c15, .int .i64 ((eoE (l.take (min l.length 60)) p15 e15 : Nat) : Int)] 50), (b9, .cells #[.slice a9 (List.length (l.take (min l.length 60))) c9, .int .i64 ((p15 : Nat) : Int), .int .i64 ((eoE (l.take (min l.length 60)) p15 e15 : Nat) : Int)] 99)]) (fun φ54 => []) s trivial (fun φ54 => by kernel_rfl) ?_
          intro φ54 w54 s
          rw [(nat_eql (a := (eoE (l.take (min l.length 60)) p15 e15)) (b := (eoE (l.take (min l.length 60)) p15 e15))).trans (decide_eq_true rfl)]
          refine ops_done (by kernel_rfl) ?_
          refine wp_seq ?_
          have hz55 := St.none0 s (g := b9) (o := .cells #[.slice a9 (List.length (l.take (min l.length 60))) c9, .int .i64 ((p15 : Nat) : Int), .int .i64 ((eoE (l.take (min l.length 60)) p15 e15 : Nat) : Int)] 99) (by simp)
          have hT55 := IM.Le.refl I53
          have hlK55 := hl
          have hAK55 := hA
          have hb6K55 := hb6
          have hb9K55 := hb9
          have h11_0K55 := h11_0
          have hle14K55 := hle14
          have hi15_2K55 := hi15_2
          have hk20K55 := hk20
          obtain ⟨I56, le56, hk56, s⟩ := s.freezeAt 1 b9 (.cells #[.slice a9 (List.length (l.take (min l.length 60))) c9, .int .i64 ((p15 : Nat) : Int), .int .i64 ((eoE (l.take (min l.length 60)) p15 e15 : Nat) : Int)] 99) [((φ12 0), .cells #[.slice a15 n15 c15, .int .i64 ((eoE (l.take (min l.length 60)) p15 e15 : Nat) : Int)] 50)] (by kernel_rfl) (by kernel_rfl)
          replace hl := BSl.mono le56 hl
          replace hA := TSl.mono le56 hA
          replace hb6 := BSl.mono le56 hb6
          replace hb9 := BSl.mono le56 hb9
          replace h11_0 := BoS.mono le56 h11_0
          replace hle14 := leMono le56 hle14
          replace hi15_2 := BoS.mono le56 hi15_2
          replace hT55 := leMono le56 hT55
          replace hk20 := le56 _ _ hk20
          refine draw_rule (C := []) ⟨(fun φ57 xs57 => [.look 0 [] [], .look 0 [] [], .look 0 [] [], .look 0 [] [], .call 27 #[.pointer (some ⟨b9, 0, none⟩)], .look 0 [] [], .look 0 [] [], .look 0 [] [], .look 0 [.o 0] [(φ12 0)], .sub 0 [] [] (.bool (((eoE (l.take (min l.length 60)) p15 e15 : Nat) : Int) != ((eoE (l.take (min l.length 60)) p15 e15 : Nat) : Int))), .look 0 [] [], .look 0 [] [], .look 0 [] [], .call 28 #[.pointer (some ⟨b9, 0, none⟩)], .look 0 [] [], .look 0 [] [], .look 0 [] [], .look 0 [.o 0] [(φ12 0)], .look 0 [] [], .sub 0 [] [] (.bool ((((l.take (min l.length 60)).length * 8 - p15 : Nat) : Int) != ((n15 : Nat) : Int))), .look 0 [] []]), (fun φ57 xs57 => [.bool true, .bool false, .bool false, .pointer (some ⟨b9, 0, none⟩), .int .i64 ((eoE (l.take (min l.length 60)) p15 e15 : Nat) : Int), .pointer (some ⟨(φ12 0), 0, none⟩), .pointer (some ⟨(φ12 0), 0, none⟩), .pointer (some ⟨(φ12 0), 1, none⟩), .int .i64 ((eoE (l.take (min l.length 60)) p15 e15 : Nat) : Int), .bool false, .bool false, .bool false, .pointer (some ⟨b9, 0, none⟩), .int .i64 (((l.take (min l.length 60)).length * 8 - p15 : Nat) : Int), .pointer (some ⟨(φ12 0), 0, none⟩), .pointer (some ⟨(φ12 0), 0, none⟩), .pointer (some ⟨(φ12 0), 0, none⟩), .slice a15 n15 c15, .int .i64 ((n15 : Nat) : Int), .bool (decide (((l.take (min l.length 60)).length * 8 - p15) ≠ n15)), .bool (decide (((l.take (min l.length 60)).length * 8 - p15) ≠ n15))]), (fun φ57 xs57 => [[((φ12 0), .cells #[.slice a15 n15 c15, .int .i64 ((eoE (l.take (min l.length 60)) p15 e15 : Nat) : Int)] 50)]]), (fun φ57 xs57 => [[default, default, default, default, default, default, default, default, default, default, default, default, default, default, default, default, default, default, default, default, default]]), [], [1, 1, 1, 1, 3, 1, 1, 1, 1, 5, 1, 1, 1, 3, 1, 1, 1, 1, 1, 5, 1]⟩ (fun j => ([MP.any, MP.any, MP.any, MP.any, MP.any, MP.any, MP.any, MP.any, MP.any, MP.any, MP.any, MP.any, MP.any, MP.any, MP.any, MP.any, MP.any, MP.any, MP.any, MP.any, MP.any] : List MP).getD j MP.any) [4, 13] [9, 19] [] (fun φ57 xs57 => []) (fun φ57 xs57 => [(59, .bool true), (60, .bool false), (61, .bool false), (62, .pointer (some ⟨b9, 0, none⟩)), (63, .int .i64 ((eoE (l.take (min l.length 60)) p15 e15 : Nat) : Int)), (64, .pointer (some ⟨(φ12 0), 0, none⟩)), (65, .pointer (some ⟨(φ12 0), 0, none⟩)), (66, .pointer (some ⟨(φ12 0), 1, none⟩)), (67, .int .i64 ((eoE (l.take (min l.length 60)) p15 e15 : Nat) : Int)), (68, .bool false), (69, .bool false), (70, .bool false), (71, .pointer (some ⟨b9, 0, none⟩)), (72, .int .i64 (((l.take (min l.length 60)).length * 8 - p15 : Nat) : Int)), (73, .pointer (some ⟨(φ12 0), 0, none⟩)), (74, .pointer (some ⟨(φ12 0), 0, none⟩)), (75, .pointer (some ⟨(φ12 0), 0, none⟩)), (76, .slice a15 n15 c15), (77, .int .i64 ((n15 : Nat) : Int)), (78, .bool (decide (((l.take (min l.length 60)).length * 8 - p15) ≠ n15))), (79, .bool (decide (((l.take (min l.length 60)).length * 8 - p15) ≠ n15)))]) (fun φ57 xs57 => [((φ12 0), .cells #[.slice a15 n15 c15, .int .i64 ((eoE (l.take (min l.length 60)) p15 e15 : Nat) : Int)] 50)]) s trivial (by kernel_rfl) (by kernel_rfl) (fun _ _ => by kernel_rfl) (fun _ _ => by kernel_rfl) ⟨fun _ _ => by kernel_rfl, fun _ _ => by kernel_rfl, fun _ _ => by kernel_rfl, fun _ _ => by kernel_rfl⟩ (fun _ _ _ => by kernel_rfl) (fun _ _ => by kernel_rfl) (fun _ _ => by kernel_rfl) (fun _ _ => by kernel_rfl) (fun _ _ => by kernel_rfl) (fun _ _ => by kernel_rfl) ⟨kcast (A := ∀ (φ57 : Nat → Nat) (xs57 : Xs), (.bool (((eoE (l.take (min l.length 60)) p15 e15 : Nat) : Int) != ((eoE (l.take (min l.length 60)) p15 e15 : Nat) : Int)) : Value) = .bool false) (by kernel_rfl) (fun φ57 xs57 => congrArg Value.bool (((nat_neq (a := (eoE (l.take (min l.length 60)) p15 e15)) (b := (eoE (l.take (min l.length 60)) p15 e15))).trans (decide_eq_false (fun q => q rfl))))), ⟨kcast (A := ∀ (φ57 : Nat → Nat) (xs57 : Xs), (.bool ((((l.take (min l.length 60)).length * 8 - p15 : Nat) : Int) != ((n15 : Nat) : Int)) : Value) = .bool (decide (((l.take (min l.length 60)).length * 8 - p15) ≠ n15))) (by kernel_rfl) (fun φ57 xs57 => congrArg Value.bool ((nat_neq (a := ((l.take (min l.length 60)).length * 8 - p15)) (b := n15)))), trivial⟩⟩ trivial (by kernel_rfl) ⟨?c57_4, ?c57_13, trivial⟩ ?k57
          case c57_4 =>
            refine kcast (A := ∀ (φ57 : Nat → Nat) (xs57 : Xs) (J4_57 : IM), I56.Le J4_57 → Fun Try.prog 27 #[.pointer (some ⟨b9, 0, none⟩)] J4_57 (fun v J' => ∃ x : UX, v = .int .i64 ((eoE (l.take (min l.length 60)) p15 e15 : Nat) : Int) ∧ (True))) (by kernel_rfl) ?_
            intro φ57 xs57 J4_57 leJ
            have hk56 := leJ _ _ hk56
            exact Fun.mono (errZ_c (l := (l.take (min l.length 60))) (n := 0) (by simp only [List.length_take]; omega) (by have hb1 := hi15_1; have hD1 := geD_le (e := e15) (k := clampN (L.getD i15 (0, 0, 0)).2.2) hi15_1; have hD2 := bnD_pos (e := e15) hi15_1; (simp only [List.length_take] at hb1 hD1 hD2); (simp only [List.length_take]); omega) hk56) (fun v J' _ h => ⟨UX.d, h, trivial⟩)
          case c57_13 =>
            refine kcast (A := ∀ (φ57 : Nat → Nat) (xs57 : Xs) (J13_57 : IM), I56.Le J13_57 → (True) → Fun Try.prog 28 #[.pointer (some ⟨b9, 0, none⟩)] J13_57 (fun v J' => ∃ x : UX, v = .int .i64 (((l.take (min l.length 60)).length * 8 - p15 : Nat) : Int) ∧ (True))) (by kernel_rfl) ?_
            intro φ57 xs57 J13_57 leJ
            rintro _
            have hk56 := leJ _ _ hk56
            exact Fun.mono (leftZ_c (l := (l.take (min l.length 60))) (n := 0) (by simp only [List.length_take]; omega) (by have hb1 := hi15_1; have hD1 := geD_le (e := e15) (k := clampN (L.getD i15 (0, 0, 0)).2.2) hi15_1; have hD2 := bnD_pos (e := e15) hi15_1; (simp only [List.length_take] at hb1 hD1 hD2); (simp only [List.length_take]); omega) hk56) (fun v J' _ h => ⟨UX.d, h, trivial⟩)
          case k57 =>
            rintro φ57 xs57 I57 w57 le57 s _ _
            replace hl := BSl.mono le57 hl
            replace hA := TSl.mono le57 hA
            replace hb6 := BSl.mono le57 hb6
            replace hb9 := BSl.mono le57 hb9
            replace h11_0 := BoS.mono le57 h11_0
            replace hle14 := leMono le57 hle14
            replace hi15_2 := BoS.mono le57 hi15_2
            replace hT55 := leMono le57 hT55
            replace hk20 := le57 _ _ hk20
            replace hk56 := le57 _ _ hk56
            replace s := St.thaw s hk56 hz55.2.1 hz55.2.2
            have leT55 := IM.le_del (g := b9) hT55 hz55.1
            generalize IM.del I57 b9 = J55 at s leT55
            replace hl := BSl.mono leT55 hlK55
            replace hA := TSl.mono leT55 hAK55
            replace hb6 := BSl.mono leT55 hb6K55
            replace hb9 := BSl.mono leT55 hb9K55
            replace h11_0 := BoS.mono leT55 h11_0K55
            replace hle14 := leMono leT55 hle14K55
            replace hi15_2 := BoS.mono leT55 hi15_2K55
            replace hk20 := leT55 _ _ hk20K55
            rcases Bool.eq_false_or_eq_true (decide (((l.take (min l.length 60)).length * 8 - p15) ≠ n15)) with hc58 | hc58
            ·
              exact absurd (of_decide_eq_true hc58) (by have hk9 := (hi15_2).cap.1; rw [List.length_drop, bitsL_len] at hk9; have hb1 := hi15_1; have hD1 := geD_le (e := e15) (k := clampN (L.getD i15 (0, 0, 0)).2.2) hi15_1; have hD2 := bnD_pos (e := e15) hi15_1; (simp only [List.length_take] at hb1 hD1 hD2); simp only [List.length_take] at hk9 ⊢; omega)
            ·
              rw [hc58]
              refine cond_false_rule (b := false) (by kernel_rfl) rfl ?_
              refine wp_skip ?_
              refine region_rule ?_
              refine ops_rule (C := []) [((φ12 0), .cells #[.slice a15 n15 c15, .int .i64 ((eoE (l.take (min l.length 60)) p15 e15 : Nat) : Int)] 50), (b9, .cells #[.slice a9 (List.length (l.take (min l.length 60))) c9, .int .i64 ((p15 : Nat) : Int), .int .i64 ((eoE (l.take (min l.length 60)) p15 e15 : Nat) : Int)] 99)] [] 2 [] 0 (fun φ59 => [(26, .int .i64 (IntKind.wrap .i64 (((i15 : Nat) : Int) + ((1 : Nat) : Int)))), (80, .int .i64 (IntKind.wrap .i64 (((i15 : Nat) : Int) + ((1 : Nat) : Int))))]) (fun φ59 => [((φ12 0), .cells #[.slice a15 n15 c15, .int .i64 ((eoE (l.take (min l.length 60)) p15 e15 : Nat) : Int)] 50), (b9, .cells #[.slice a9 (List.length (l.take (min l.length 60))) c9, .int .i64 ((p15 : Nat) : Int), .int .i64 ((eoE (l.take (min l.length 60)) p15 e15 : Nat) : Int)] 99)]) (fun φ59 => []) s trivial (fun φ59 => by kernel_rfl) ?_
              intro φ59 w59 s
              rw [nat_addI (a := i15) (b := 1) (by have hb1 := hi15_1; have hD1 := geD_le (e := e15) (k := clampN (L.getD i15 (0, 0, 0)).2.2) hi15_1; have hD2 := bnD_pos (e := e15) hi15_1; (simp only [List.length_take] at hb1 hD1 hD2); have hq0 := of_decide_eq_true hc17; have hq1 := of_decide_eq_false hc22; have hq2 := of_decide_eq_false hc27; have hq3 := of_decide_eq_false hc39; have hq4 := of_decide_eq_false hc58; omega)]
              refine ops_done (by kernel_rfl) ?_
              exact ⟨⟨m15 - 1, (i15 + 1, p15, eoE (l.take (min l.length 60)) p15 e15, a15, n15, c15), _, _, _, by have hq0 := of_decide_eq_true hc17; have hq1 := of_decide_eq_false hc22; have hq2 := of_decide_eq_false hc27; have hq3 := of_decide_eq_false hc39; have hq4 := of_decide_eq_false hc58; have := hi15_0; omega, rfl, s, (List.Sublist.cons₂ _ (List.Sublist.cons₂ _ List.Sublist.slnil)), by kernel_rfl, hle14, by have hq0 := of_decide_eq_true hc17; have hq1 := of_decide_eq_false hc22; have hq2 := of_decide_eq_false hc27; have hq3 := of_decide_eq_false hc39; have hq4 := of_decide_eq_false hc58; have := hi15_0; show i15 + 1 + (m15 - 1) = L.length; omega, by have hb1 := hi15_1; have hD1 := geD_le (e := e15) (k := clampN (L.getD i15 (0, 0, 0)).2.2) hi15_1; have hD2 := bnD_pos (e := e15) hi15_1; (simp only [List.length_take] at hb1 hD1 hD2); show _ ≤ _; (simp only [List.length_take]); omega, hi15_2⟩⟩
  ·
    rw [hc17]
    refine cond_false_rule (b := false) (by kernel_rfl) rfl ?_
    refine wp_exit ?_
    refine wp_seq ?_
    refine region_rule ?_
    refine ops_rule (C := []) [((φ12 0), .cells #[.slice a15 n15 c15, .int .i64 ((e15 : Nat) : Int)] 50), (b9, .cells #[.slice a9 (List.length (l.take (min l.length 60))) c9, .int .i64 ((p15 : Nat) : Int), .int .i64 ((e15 : Nat) : Int)] 99)] [] 1 [] 0 (fun φ60 => [(4, .bool true)]) (fun φ60 => [((φ12 0), .cells #[.slice a15 n15 c15, .int .i64 ((e15 : Nat) : Int)] 50), (b9, .cells #[.slice a9 (List.length (l.take (min l.length 60))) c9, .int .i64 ((p15 : Nat) : Int), .int .i64 ((e15 : Nat) : Int)] 99)]) (fun φ60 => []) s trivial (fun φ60 => by kernel_rfl) ?_
    intro φ60 w60 s
    refine ops_done (by kernel_rfl) ?_
    refine wp_ret ?_
    refine ret_rule (C := []) [((φ12 0), .cells #[.slice a15 n15 c15, .int .i64 ((e15 : Nat) : Int)] 50), (b9, .cells #[.slice a9 (List.length (l.take (min l.length 60))) c9, .int .i64 ((p15 : Nat) : Int), .int .i64 ((e15 : Nat) : Int)] 99)] [] (.bool true) [] [] s trivial (by kernel_rfl) ?_
    exact ⟨_, _, _, rfl, s, rfl⟩

end Go.Proofs.Ytpnlaeapnokipaa
