/- BitsNil. -/
import Derived.Test.YtpnlaeapnokipaaIW15
set_option linter.all false
set_option maxRecDepth 100000
namespace Go.Proofs.Ytpnlaeapnokipaa
open Go.RowKit Go.Sep
attribute [local irreducible] Go.wpList Go.Code.wp

theorem bytes_h {I : IM} {b cnt : Nat} {bs : List Bool} {v0 : Value} {F : List OB} (hp : 0 < bs.length) (hl9 : bs.length ≤ 1000000) (h : RowH 5 1 v0 (pk bs).length ((pk bs).map bV) F) : FunM Try.prog 20 #[.pointer (some ⟨b, 0, none⟩)] I ((b, .cells #[v0, .int .i64 ((cnt : Nat) : Int)] 96) :: F) (fun v J H' => ∃ (b' : OB) (F' : List OB), H' = b' :: F' ∧ b'.1 = b ∧ ∃ (g cap : Nat) (cur : Array Value) (g2 cap2 : Nat) (cur2 : Array Value), v = .slice (some ⟨g2, 0, none⟩) (pk bs).length cap2 ∧ v0 = .slice (some ⟨g, 0, none⟩) (pk bs).length cap ∧ b' = (b, .cells #[v0, .int .i64 ((cnt : Nat) : Int)] 96) ∧ F' = [(g, .cells cur 5), (g2, .cells cur2 5)] ∧ RowH 5 1 (.slice (some ⟨g, 0, none⟩) (pk bs).length cap) (pk bs).length ((pk bs).map bV) [(g, .cells cur 5)] ∧ RowH 5 1 (.slice (some ⟨g2, 0, none⟩) (pk bs).length cap2) (pk bs).length ((pk bs).map bV) [(g2, .cells cur2 5)]) := fun w hw ho => by
  refine (bytes_r hp hl9 h w hw ho).mono ?_
  rintro e w' ⟨v, I', H', he, s, g, cap, cur, g2, cap2, cur2, h1, h2, h3, h4, h5⟩
  exact ⟨v, I', H', he, s, _, _, h3, rfl, g, cap, cur, g2, cap2, cur2, h1, h2, rfl, rfl, h4, h5⟩
theorem rdN {n : Nat} (hn : n < 18446744073709551616) : rd (pk (putBits n 64)) 0 64 = n := by
  have := rd_put [] [] n 64
  rw [List.append_nil, List.nil_append] at this
  rw [show rd (pk (putBits n 64)) 0 64 = n % 2 ^ 64 from this]
  exact Nat.mod_eq_of_lt hn

set_option maxHeartbeats 4000000 in
theorem bitsNil_long {I : IM} {l : List UInt8} {a : Option Addr} {c : Nat} (hl : BSl I l (.slice a l.length c)) {n0 : Nat} (hn : n0 < 18446744073709551616) (h8 : 8 ≤ ((l.take (min l.length 20))).length) : Fun Try.prog 6 #[.slice a l.length c, .int .u64 ((n0 : Nat) : Int)] I (fun v J => v = .bool true) := by
  refine enter_rule 104 [(0, .slice a l.length c), (1, .int .u64 ((n0 : Nat) : Int))] Try.func6 rfl (by kernel_rfl) ?_
  intro w s
  refine wp_seq ?_
  refine region_rule ?_
  refine ops_rule (C := []) [] [] 1 [] 0 (fun φ1 => [(4, .bool false)]) (fun φ1 => []) (fun φ1 => []) s trivial (fun φ1 => by kernel_rfl) ?_
  intro φ1 w1 s
  refine ops_done (by kernel_rfl) ?_
  refine wp_seq ?_
  refine wp_seq ?_
  refine region_rule ?_
  refine call_rule (some 13) s (awake5_c) (by kernel_rfl) ?_
  intro v2 I2 w2 le2 h2 s
  replace hl := BSl.mono le2 hl
  obtain rfl := h2
  refine ops_rule (C := []) [] [] 1 [] 0 (fun φ3 => [(14, .bool false)]) (fun φ3 => []) (fun φ3 => []) s trivial (fun φ3 => by kernel_rfl) ?_
  intro φ3 w3 s
  refine ops_done (by kernel_rfl) ?_
  refine cond_false_rule (b := false) (by kernel_rfl) rfl ?_
  refine wp_skip ?_
  refine wp_seq ?_
  refine region_rule ?_
  refine ops_rule (C := []) [] [] 4 [] 0 (fun φ4 => [(18, .int .i64 (if ((20 : Nat) : Int) < ((l.length : Nat) : Int) then ((20 : Nat) : Int) else ((l.length : Nat) : Int))), (17, .int .i64 ((l.length : Nat) : Int)), (16, .slice a l.length c), (15, .slice a l.length c)]) (fun φ4 => []) (fun φ4 => []) s trivial (fun φ4 => by kernel_rfl) ?_
  intro φ4 w4 s
  rw [nat_min (a := l.length) (b := 20)]
  refine sem_rule (Instr.sliceAt 34 (.slice a l.length c) none (some (.int .i64 ((min l.length 20 : Nat) : Int))) none) (some 19) (.slice a (min l.length 20) c) (by kernel_rfl) (run_to (by have hcp := (BSl.cap hl).2; (try simp only [List.length_drop, List.length_take, List.length_append, List.length_cons, List.length_nil] at hcp ⊢); have hP20 : ((l.take (min l.length 20))).length ≤ 20 := (by simp only [List.length_take]; omega); have hpk8 : (pk (putBits n0 64)).length = 8 := (by rw [pk_len, putBits_len]);   omega)) ?_
  refine callF_rule (H := []) (F := []) (some 20) s (bclone_r (bsl_to (hi := min l.length 20) hl (by have hcp := (BSl.cap hl).2; (try simp only [List.length_drop, List.length_take, List.length_append, List.length_cons, List.length_nil] at hcp ⊢); have hP20 : ((l.take (min l.length 20))).length ≤ 20 := (by simp only [List.length_take]; omega); have hpk8 : (pk (putBits n0 64)).length = 8 := (by rw [pk_len, putBits_len]);   omega)) (by simp only [List.length_take]; omega)) (by kernel_rfl) ?_
  intro v5 I5 w5 F5 le5 h5 s
  replace hl := BSl.mono le5 hl
  refine ops_rule (C := []) [] F5 1 [] 0 (fun φ6 => [(0, v5)]) (fun φ6 => []) (fun φ6 => []) s trivial (fun φ6 => by kernel_rfl) ?_
  intro φ6 w6 s
  refine ops_done (by kernel_rfl) ?_
  refine wp_seq ?_
  refine region_rule ?_
  refine ops_rule (C := []) [] F5 1 [] 0 (fun φ7 => [(21, v5)]) (fun φ7 => []) (fun φ7 => []) s trivial (fun φ7 => by kernel_rfl) ?_
  intro φ7 w7 s
  obtain ⟨Ip8, hle8, hsub8, a8, c8, hv8, hB8⟩ := row_lendF (H := []) (F := F5) s h5
  subst hv8
  refine callLF_rule (H := ([] ++ F5)) (R := fun v F' => ∃ b v' F2, v = .pointer (some ⟨b, 0, none⟩) ∧ F' = (b, .cells #[v', .int .i64 0, .int .i64 0] 99) :: F2 ∧ RowH 5 1 v' ((l.take (min l.length 20))).length (((l.take (min l.length 20))).map bV) F2) (some 22) s (Ip8) hle8 hsub8 (newReader_r hB8 (by (try simp only [List.length_take, pk_len, putBits_len]); omega)) (by kernel_rfl) ?_
  rintro v9 w9 F9 ⟨b9, vv9, FF9, rfl, rfl, hr9⟩ s
  obtain ⟨I9, le9, hb9, s⟩ := freeze_row (H := [] ++ ((b9, .cells #[vv9, .int .i64 0, .int .i64 0] 99) :: F5)) (F := FF9) (s.perm perm_ins) hr9
  replace hl := BSl.mono le9 hl
  obtain ⟨a9, c9, hv9, hc9, hb9⟩ := hb9.open
  subst hv9
  refine ops_rule (C := []) [(b9, .cells #[.slice a9 (((l.take (min l.length 20))).length) c9, .int .i64 0, .int .i64 0] 99)] F5 1 [] 0 (fun φ10 => [(5, .pointer (some ⟨b9, 0, none⟩))]) (fun φ10 => [(b9, .cells #[.slice a9 (((l.take (min l.length 20))).length) c9, .int .i64 0, .int .i64 0] 99)]) (fun φ10 => []) s trivial (fun φ10 => by kernel_rfl) ?_
  intro φ10 w10 s
  refine ops_done (by kernel_rfl) ?_
  refine wp_seq ?_
  refine region_rule ?_
  refine ops_rule (C := []) [(b9, .cells #[.slice a9 (((l.take (min l.length 20))).length) c9, .int .i64 0, .int .i64 0] 99)] F5 1 [] 0 (fun φ11 => [(23, .slice a8 (((l.take (min l.length 20))).length) c8)]) (fun φ11 => [(b9, .cells #[.slice a9 (((l.take (min l.length 20))).length) c9, .int .i64 0, .int .i64 0] 99)]) (fun φ11 => []) s trivial (fun φ11 => by kernel_rfl) ?_
  intro φ11 w11 s
  obtain ⟨Ip12, hle12, hsub12, a12, c12, hv12, hB12⟩ := row_lendF (H := [(b9, .cells #[.slice a9 (((l.take (min l.length 20))).length) c9, .int .i64 0, .int .i64 0] 99)]) (F := F5) s h5
  cases hv12
  refine callLF_rule (H := ([(b9, .cells #[.slice a9 (((l.take (min l.length 20))).length) c9, .int .i64 0, .int .i64 0] 99)] ++ F5)) (R := fun v F' => ∃ b v' F2, v = .pointer (some ⟨b, 0, none⟩) ∧ F' = (b, .cells #[v', .int .i64 0, .int .i64 0] 99) :: F2 ∧ RowH 5 1 v' ((l.take (min l.length 20))).length (((l.take (min l.length 20))).map bV) F2) (some 24) s (Ip12) hle12 hsub12 (newReader_r hB12 (by (try simp only [List.length_take, pk_len, putBits_len]); omega)) (by kernel_rfl) ?_
  rintro v13 w13 F13 ⟨b13, vv13, FF13, rfl, rfl, hr13⟩ s
  obtain ⟨I13, le13, hb13, s⟩ := freeze_row (H := [(b9, .cells #[.slice a9 (((l.take (min l.length 20))).length) c9, .int .i64 0, .int .i64 0] 99)] ++ ((b13, .cells #[vv13, .int .i64 0, .int .i64 0] 99) :: F5)) (F := FF13) (s.perm perm_ins) hr13
  replace hl := BSl.mono le13 hl
  replace hb9 := BSl.mono le13 hb9
  obtain ⟨a13, c13, hv13, hc13, hb13⟩ := hb13.open
  subst hv13
  refine callB_rule (b := (b13, .cells #[.slice a13 (((l.take (min l.length 20))).length) c13, .int .i64 0, .int .i64 0] 99)) (H := [(b9, .cells #[.slice a9 (((l.take (min l.length 20))).length) c9, .int .i64 0, .int .i64 0] 99), (b13, .cells #[.slice a13 (((l.take (min l.length 20))).length) c13, .int .i64 0, .int .i64 0] 99)]) (F := F5) (Hr := [(b9, .cells #[.slice a9 (((l.take (min l.length 20))).length) c9, .int .i64 0, .int .i64 0] 99)]) (some 25) 1 s (by kernel_rfl) (by kernel_rfl) (get_c (r := b13) (p := 0) hb13 (by (try simp only [List.length_take, pk_len, putBits_len]); omega) (k := 64) (by have hP20 : ((l.take (min l.length 20))).length ≤ 20 := (by simp only [List.length_take]; omega); have hpk8 : (pk (putBits n0 64)).length = 8 := (by rw [pk_len, putBits_len]);   omega) (by omega)) (by kernel_rfl) ?_
  rintro v14 I14 w14 b14 le14 - h14 s
  replace hl := BSl.mono le14 hl
  replace hb9 := BSl.mono le14 hb9
  replace hb13 := BSl.mono le14 hb13
  obtain ⟨rfl, rfl⟩ := h14
  refine ops_rule (C := []) [(b13, .cells #[.slice a13 (((l.take (min l.length 20))).length) c13, .int .i64 ((0 + 64 : Nat) : Int), .int .i64 0] 99), (b9, .cells #[.slice a9 (((l.take (min l.length 20))).length) c9, .int .i64 0, .int .i64 0] 99)] F5 1 [] 0 (fun φ15 => [(6, .int .u64 ((rd (l.take (min l.length 20)) 0 64 : Nat) : Int))]) (fun φ15 => [(b13, .cells #[.slice a13 (((l.take (min l.length 20))).length) c13, .int .i64 ((0 + 64 : Nat) : Int), .int .i64 0] 99), (b9, .cells #[.slice a9 (((l.take (min l.length 20))).length) c9, .int .i64 0, .int .i64 0] 99)]) (fun φ15 => []) s trivial (fun φ15 => by kernel_rfl) ?_
  intro φ15 w15 s
  refine ops_done (by kernel_rfl) ?_
  refine wp_seq ?_
  refine wp_seq ?_
  refine region_rule ?_
  refine ops_rule (C := []) [(b13, .cells #[.slice a13 (((l.take (min l.length 20))).length) c13, .int .i64 ((0 + 64 : Nat) : Int), .int .i64 0] 99), (b9, .cells #[.slice a9 (((l.take (min l.length 20))).length) c9, .int .i64 0, .int .i64 0] 99)] F5 3 [] 0 (fun φ16 => [(28, .int .i64 0), (27, .int .i64 ((((l.take (min l.length 20))).length : Nat) : Int)), (26, .slice a8 (((l.take (min l.length 20))).length) c8)]) (fun φ16 => [(b13, .cells #[.slice a13 (((l.take (min l.length 20))).length) c13, .int .i64 ((0 + 64 : Nat) : Int), .int .i64 0] 99), (b9, .cells #[.slice a9 (((l.take (min l.length 20))).length) c9, .int .i64 0, .int .i64 0] 99)]) (fun φ16 => []) s trivial (fun φ16 => by kernel_rfl) ?_
  intro φ16 w16 s
  refine ops_done (by kernel_rfl) ?_
  refine wp_block ?_
  have hle17 := IM.Le.refl I14
  refine loop_rule (fun (x : Nat × List UInt8 × List OB) => [(0, .slice a8 (((l.take (min l.length 20))).length) c8), (1, .int .u64 ((n0 : Nat) : Int)), (5, .pointer (some ⟨b9, 0, none⟩)), (6, .int .u64 ((rd (l.take (min l.length 20)) 0 64 : Nat) : Int)), (27, .int .i64 ((((l.take (min l.length 20))).length : Nat) : Int)), (28, .int .i64 ((x.1 : Nat) : Int))]) (fun (x : Nat × List UInt8 × List OB) => [(b13, .cells #[.slice a13 (((l.take (min l.length 20))).length) c13, .int .i64 ((0 + 64 : Nat) : Int), .int .i64 0] 99), (b9, .cells #[.slice a9 (((l.take (min l.length 20))).length) c9, .int .i64 0, .int .i64 0] 99)] ++ x.2.2) (fun m (x : Nat × List UInt8 × List OB) J => IM.Le I14 J ∧ x.1 + m = ((l.take (min l.length 20))).length ∧ List.length x.2.1 = ((l.take (min l.length 20))).length ∧ RowH 5 1 (.slice a8 (((l.take (min l.length 20))).length) c8) ((l.take (min l.length 20))).length (x.2.1.map bV) x.2.2) (((l.take (min l.length 20))).length) (0, (l.take (min l.length 20)), F5) s (by kernel_rfl) (List.Sublist.refl _) ⟨IM.Le.refl _, Nat.zero_add _, rfl, h5⟩ ?_
  rintro m18 ⟨i18, q18, F18⟩ I18 w18 ev18 s ⟨le18, hi18_0, hi18_1, hi18_2⟩
  try dsimp only at s hi18_0 hi18_1 hi18_2 ⊢
  replace hl := BSl.mono le18 hl
  replace hb9 := BSl.mono le18 hb9
  replace hb13 := BSl.mono le18 hb13
  replace hle17 := leMono le18 hle17
  refine wp_seq ?_
  refine region_rule ?_
  refine ops_rule (C := []) [(b13, .cells #[.slice a13 (((l.take (min l.length 20))).length) c13, .int .i64 ((0 + 64 : Nat) : Int), .int .i64 0] 99), (b9, .cells #[.slice a9 (((l.take (min l.length 20))).length) c9, .int .i64 0, .int .i64 0] 99)] F18 1 [] 0 (fun φ19 => [(29, .bool (decide (((i18 : Nat) : Int) < ((((l.take (min l.length 20))).length : Nat) : Int))))]) (fun φ19 => [(b13, .cells #[.slice a13 (((l.take (min l.length 20))).length) c13, .int .i64 ((0 + 64 : Nat) : Int), .int .i64 0] 99), (b9, .cells #[.slice a9 (((l.take (min l.length 20))).length) c9, .int .i64 0, .int .i64 0] 99)]) (fun φ19 => []) s trivial (fun φ19 => by kernel_rfl) ?_
  intro φ19 w19 s
  rw [nat_lss (a := i18) (b := (((l.take (min l.length 20))).length))]
  refine ops_done (by kernel_rfl) ?_
  refine wp_seq ?_
  rcases Bool.eq_false_or_eq_true (decide (i18 < (((l.take (min l.length 20))).length))) with hc20 | hc20
  ·
    rw [hc20]
    refine cond_true_rule (b := true) (by kernel_rfl) rfl ?_
    refine wp_skip ?_
    refine wp_seq ?_
    refine wp_block ?_
    refine wp_seq ?_
    refine region_rule ?_
    refine ops_rule (C := []) [(b13, .cells #[.slice a13 (((l.take (min l.length 20))).length) c13, .int .i64 ((0 + 64 : Nat) : Int), .int .i64 0] 99), (b9, .cells #[.slice a9 (((l.take (min l.length 20))).length) c9, .int .i64 0, .int .i64 0] 99)] F18 2 [] 0 (fun φ21 => [(7, .int .i64 ((i18 : Nat) : Int)), (30, .int .i64 ((i18 : Nat) : Int))]) (fun φ21 => [(b13, .cells #[.slice a13 (((l.take (min l.length 20))).length) c13, .int .i64 ((0 + 64 : Nat) : Int), .int .i64 0] 99), (b9, .cells #[.slice a9 (((l.take (min l.length 20))).length) c9, .int .i64 0, .int .i64 0] 99)]) (fun φ21 => []) s trivial (fun φ21 => by kernel_rfl) ?_
    intro φ21 w21 s
    refine ops_done (by kernel_rfl) ?_
    refine region_rule ?_
    refine ops_rule (C := []) [(b13, .cells #[.slice a13 (((l.take (min l.length 20))).length) c13, .int .i64 ((0 + 64 : Nat) : Int), .int .i64 0] 99), (b9, .cells #[.slice a9 (((l.take (min l.length 20))).length) c9, .int .i64 0, .int .i64 0] 99)] F18 2 [] 0 (fun φ22 => [(32, .int .i64 ((i18 : Nat) : Int)), (31, .slice a8 (((l.take (min l.length 20))).length) c8)]) (fun φ22 => [(b13, .cells #[.slice a13 (((l.take (min l.length 20))).length) c13, .int .i64 ((0 + 64 : Nat) : Int), .int .i64 0] 99), (b9, .cells #[.slice a9 (((l.take (min l.length 20))).length) c9, .int .i64 0, .int .i64 0] 99)]) (fun φ22 => []) s trivial (fun φ22 => by kernel_rfl) ?_
    intro φ22 w22 s
    obtain ⟨g23, cap23, cur23, hv23, hF23, hc23, hrow23⟩ := row_open hi18_2 (by have := of_decide_eq_true hc20; omega)
    cases hv23
    subst hF23
    refine sem_rule (Instr.indexAt 34 (.slice (some ⟨g23, 0, none⟩) (((l.take (min l.length 20))).length) c8) (.int .i64 ((i18 : Nat) : Int))) (some 33) (.pointer (some ⟨g23, i18, none⟩)) (by kernel_rfl) (row_idx (by have hP20 : ((l.take (min l.length 20))).length ≤ 20 := (by simp only [List.length_take]; omega); have hpk8 : (pk (putBits n0 64)).length = 8 := (by rw [pk_len, putBits_len]); have hq7 := hi18_1; have hq0 := of_decide_eq_true hc20; omega)) ?_
    refine sem_rule (Instr.loadAt 5 (.pointer (some ⟨g23, i18, none⟩))) (some 34) (.int .u8 (((q18.getD i18 0).toNat : Nat) : Int)) (by kernel_rfl) (row_ld s (by simp) hrow23 (by have hP20 : ((l.take (min l.length 20))).length ≤ 20 := (by simp only [List.length_take]; omega); have hpk8 : (pk (putBits n0 64)).length = 8 := (by rw [pk_len, putBits_len]); have hq7 := hi18_1; have hq0 := of_decide_eq_true hc20; omega)) ?_
    refine sem_rule (binOp .xor 5 (.int .u8 (((q18.getD i18 0).toNat : Nat) : Int)) (.int .u8 ((255 : Nat) : Int))) (some 35) (.int .u8 ((bxor 8 ((q18.getD i18 0).toNat) 255 : Nat) : Int)) (by kernel_rfl) (run_bit8.1) ?_
    refine sem_rule (Instr.indexAt 34 (.slice (some ⟨g23, 0, none⟩) (((l.take (min l.length 20))).length) c8) (.int .i64 ((i18 : Nat) : Int))) (some 36) (.pointer (some ⟨g23, i18, none⟩)) (by kernel_rfl) (row_idx (by have hP20 : ((l.take (min l.length 20))).length ≤ 20 := (by simp only [List.length_take]; omega); have hpk8 : (pk (putBits n0 64)).length = 8 := (by rw [pk_len, putBits_len]); have hq7 := hi18_1; have hq0 := of_decide_eq_true hc20; omega)) ?_
    obtain ⟨w24, cur24, hr24, s, hrow24⟩ := row_st (H := [(b13, .cells #[.slice a13 (((l.take (min l.length 20))).length) c13, .int .i64 ((0 + 64 : Nat) : Int), .int .i64 0] 99), (b9, .cells #[.slice a9 (((l.take (min l.length 20))).length) c9, .int .i64 0, .int .i64 0] 99), (g23, .cells cur23 5)]) (q := 2) (i := i18) (x := bxor 8 ((q18.getD i18 0).toNat) 255) s (by kernel_rfl) hrow23 (by have hP20 : ((l.take (min l.length 20))).length ≤ 20 := (by simp only [List.length_take]; omega); have hpk8 : (pk (putBits n0 64)).length = 8 := (by rw [pk_len, putBits_len]); have hq7 := hi18_1; have hq0 := of_decide_eq_true hc20; omega) (bxor8_lt)
    refine semU_rule (Instr.storeAt 5 (.pointer (some ⟨g23, i18, none⟩)) (.int .u8 ((bxor 8 ((q18.getD i18 0).toNat) 255 : Nat) : Int))) none (by kernel_rfl) hr24 ?_
    refine ops_done (by kernel_rfl) ?_
    refine region_rule ?_
    refine ops_rule (C := []) [(b13, .cells #[.slice a13 (((l.take (min l.length 20))).length) c13, .int .i64 ((0 + 64 : Nat) : Int), .int .i64 0] 99), (b9, .cells #[.slice a9 (((l.take (min l.length 20))).length) c9, .int .i64 0, .int .i64 0] 99), (g23, .cells cur24 5)] [] 2 [] 0 (fun φ25 => [(28, .int .i64 (IntKind.wrap .i64 (((i18 : Nat) : Int) + ((1 : Nat) : Int)))), (37, .int .i64 (IntKind.wrap .i64 (((i18 : Nat) : Int) + ((1 : Nat) : Int))))]) (fun φ25 => [(b13, .cells #[.slice a13 (((l.take (min l.length 20))).length) c13, .int .i64 ((0 + 64 : Nat) : Int), .int .i64 0] 99), (b9, .cells #[.slice a9 (((l.take (min l.length 20))).length) c9, .int .i64 0, .int .i64 0] 99), (g23, .cells cur24 5)]) (fun φ25 => []) s trivial (fun φ25 => by kernel_rfl) ?_
    intro φ25 w25 s
    rw [nat_addI (a := i18) (b := 1) (by have hP20 : ((l.take (min l.length 20))).length ≤ 20 := (by simp only [List.length_take]; omega); have hpk8 : (pk (putBits n0 64)).length = 8 := (by rw [pk_len, putBits_len]); have hq7 := hi18_1; have hq0 := of_decide_eq_true hc20; omega)]
    refine ops_done (by kernel_rfl) ?_
    have hq9 := of_decide_eq_true hc20
    exact ⟨⟨m18 - 1, (i18 + 1, (q18.set i18 (UInt8.ofNat (bxor 8 ((q18.getD i18 0).toNat) 255))), [(g23, .cells cur24 5)]), _, _, _, by omega, rfl, s, (List.Sublist.refl _), by kernel_rfl, hle17, by show i18 + 1 + (m18 - 1) = ((l.take (min l.length 20))).length; omega, by show List.length (q18.set i18 (UInt8.ofNat (bxor 8 ((q18.getD i18 0).toNat) 255))) = _; rw [List.length_set]; exact hi18_1, hrow24⟩⟩
  ·
    rw [hc20]
    refine cond_false_rule (b := false) (by kernel_rfl) rfl ?_
    refine wp_exit ?_
    refine wp_seq ?_
    refine region_rule ?_
    replace s := s.drop (List.sublist_append_left [(b13, .cells #[.slice a13 (((l.take (min l.length 20))).length) c13, .int .i64 ((0 + 64 : Nat) : Int), .int .i64 0] 99), (b9, .cells #[.slice a9 (((l.take (min l.length 20))).length) c9, .int .i64 0, .int .i64 0] 99)] F18)
    refine callF_rule (H := [(b13, .cells #[.slice a13 (((l.take (min l.length 20))).length) c13, .int .i64 ((0 + 64 : Nat) : Int), .int .i64 0] 99), (b9, .cells #[.slice a9 (((l.take (min l.length 20))).length) c9, .int .i64 0, .int .i64 0] 99)]) (F := []) (some 38) s (newWriter_c) (by kernel_rfl) ?_
    rintro v26 I26 w26 F26 le26 ⟨b26, rfl, rfl⟩ s
    replace hl := BSl.mono le26 hl
    replace hb9 := BSl.mono le26 hb9
    replace hb13 := BSl.mono le26 hb13
    replace hle17 := leMono le26 hle17
    refine ops_rule (C := []) [(b13, .cells #[.slice a13 (((l.take (min l.length 20))).length) c13, .int .i64 ((0 + 64 : Nat) : Int), .int .i64 0] 99), (b9, .cells #[.slice a9 (((l.take (min l.length 20))).length) c9, .int .i64 0, .int .i64 0] 99), (b26, .cells #[.slice none 0 0, .int .i64 0] 96)] [] 1 [] 0 (fun φ27 => [(8, .pointer (some ⟨b26, 0, none⟩))]) (fun φ27 => [(b13, .cells #[.slice a13 (((l.take (min l.length 20))).length) c13, .int .i64 ((0 + 64 : Nat) : Int), .int .i64 0] 99), (b9, .cells #[.slice a9 (((l.take (min l.length 20))).length) c9, .int .i64 0, .int .i64 0] 99), (b26, .cells #[.slice none 0 0, .int .i64 0] 96)]) (fun φ27 => []) s trivial (fun φ27 => by kernel_rfl) ?_
    intro φ27 w27 s
    refine ops_done (by kernel_rfl) ?_
    refine wp_seq ?_
    refine region_rule ?_
    refine ops_rule (C := []) [(b13, .cells #[.slice a13 (((l.take (min l.length 20))).length) c13, .int .i64 ((0 + 64 : Nat) : Int), .int .i64 0] 99), (b9, .cells #[.slice a9 (((l.take (min l.length 20))).length) c9, .int .i64 0, .int .i64 0] 99), (b26, .cells #[.slice none 0 0, .int .i64 0] 96)] [] 2 [] 0 (fun φ28 => [(40, .int .u64 ((n0 : Nat) : Int)), (39, .pointer (some ⟨b26, 0, none⟩))]) (fun φ28 => [(b13, .cells #[.slice a13 (((l.take (min l.length 20))).length) c13, .int .i64 ((0 + 64 : Nat) : Int), .int .i64 0] 99), (b9, .cells #[.slice a9 (((l.take (min l.length 20))).length) c9, .int .i64 0, .int .i64 0] 99), (b26, .cells #[.slice none 0 0, .int .i64 0] 96)]) (fun φ28 => []) s trivial (fun φ28 => by kernel_rfl) ?_
    intro φ28 w28 s
    refine callH_rule (b := (b26, .cells #[.slice none 0 0, .int .i64 0] 96)) (H := [(b13, .cells #[.slice a13 (((l.take (min l.length 20))).length) c13, .int .i64 ((0 + 64 : Nat) : Int), .int .i64 0] 99), (b9, .cells #[.slice a9 (((l.take (min l.length 20))).length) c9, .int .i64 0, .int .i64 0] 99), (b26, .cells #[.slice none 0 0, .int .i64 0] 96)]) (F := []) (Hr := [(b13, .cells #[.slice a13 (((l.take (min l.length 20))).length) c13, .int .i64 ((0 + 64 : Nat) : Int), .int .i64 0] 99), (b9, .cells #[.slice a9 (((l.take (min l.length 20))).length) c9, .int .i64 0, .int .i64 0] 99)]) (some 41) 2 s (by kernel_rfl) (by kernel_rfl) (put_c (b := b26) (cnt := 0) (bs := ([] : List Bool)) (v0 := .slice none 0 0) (n := n0) (k := 64) (by first | rfl | ((try simp only [List.length_append, putBits_len, List.length_nil, pk_len]); done) | ((try simp only [List.length_append, putBits_len, List.length_nil, pk_len]); omega)) (by first | decide | ((try simp only [List.length_append, putBits_len, List.length_nil, pk_len]); omega)) (row_nilB : RowH 5 1 (.slice none 0 0) (pk []).length ((pk []).map bV) []) (by have hP20 : ((l.take (min l.length 20))).length ≤ 20 := (by simp only [List.length_take]; omega); have hpk8 : (pk (putBits n0 64)).length = 8 := (by rw [pk_len, putBits_len]); have hq7 := hi18_1; have hq0 := of_decide_eq_false hc20; omega) (by have hP20 : ((l.take (min l.length 20))).length ≤ 20 := (by simp only [List.length_take]; omega); have hpk8 : (pk (putBits n0 64)).length = 8 := (by rw [pk_len, putBits_len]); have hq7 := hi18_1; have hq0 := of_decide_eq_false hc20; omega)) (by kernel_rfl) ?_
    rintro v29 I29 w29 b29 F29 le29 - h29 s
    replace hl := BSl.mono le29 hl
    replace hb9 := BSl.mono le29 hb9
    replace hb13 := BSl.mono le29 hb13
    replace hle17 := leMono le29 hle17
    obtain ⟨v29, rfl, rfl, hr29⟩ := h29
    obtain ⟨g30, cap30, cur30, hv30, hF30, hc30, hrow30⟩ := row_open hr29 (by rw [pk_len]; (try simp only [List.length_append, putBits_len, List.length_nil, pk_len]); omega)
    subst hv30
    subst hF30
    refine ops_done (by kernel_rfl) ?_
    refine wp_seq ?_
    refine region_rule ?_
    refine ops_rule (C := []) [(b26, .cells #[.slice (some ⟨g30, 0, none⟩) ((pk (putBits n0 64)).length) cap30, .int .i64 ((0 + 64 : Nat) : Int)] 96), (b13, .cells #[.slice a13 (((l.take (min l.length 20))).length) c13, .int .i64 ((0 + 64 : Nat) : Int), .int .i64 0] 99), (b9, .cells #[.slice a9 (((l.take (min l.length 20))).length) c9, .int .i64 0, .int .i64 0] 99), (g30, .cells cur30 5)] [] 1 [] 0 (fun φ31 => [(42, .pointer (some ⟨b26, 0, none⟩))]) (fun φ31 => [(b26, .cells #[.slice (some ⟨g30, 0, none⟩) ((pk (putBits n0 64)).length) cap30, .int .i64 ((0 + 64 : Nat) : Int)] 96), (b13, .cells #[.slice a13 (((l.take (min l.length 20))).length) c13, .int .i64 ((0 + 64 : Nat) : Int), .int .i64 0] 99), (b9, .cells #[.slice a9 (((l.take (min l.length 20))).length) c9, .int .i64 0, .int .i64 0] 99), (g30, .cells cur30 5)]) (fun φ31 => []) s trivial (fun φ31 => by kernel_rfl) ?_
    intro φ31 w31 s
    refine callH_rule (b := (b26, .cells #[.slice (some ⟨g30, 0, none⟩) ((pk (putBits n0 64)).length) cap30, .int .i64 ((0 + 64 : Nat) : Int)] 96)) (H := [(b26, .cells #[.slice (some ⟨g30, 0, none⟩) ((pk (putBits n0 64)).length) cap30, .int .i64 ((0 + 64 : Nat) : Int)] 96), (b13, .cells #[.slice a13 (((l.take (min l.length 20))).length) c13, .int .i64 ((0 + 64 : Nat) : Int), .int .i64 0] 99), (b9, .cells #[.slice a9 (((l.take (min l.length 20))).length) c9, .int .i64 0, .int .i64 0] 99)]) (F := [(g30, .cells cur30 5)]) (Hr := [(b13, .cells #[.slice a13 (((l.take (min l.length 20))).length) c13, .int .i64 ((0 + 64 : Nat) : Int), .int .i64 0] 99), (b9, .cells #[.slice a9 (((l.take (min l.length 20))).length) c9, .int .i64 0, .int .i64 0] 99)]) (some 43) 0 s (by kernel_rfl) (by kernel_rfl) (bytes_h (b := b26) (cnt := 0 + 64) (bs := (putBits n0 64)) (v0 := .slice (some ⟨g30, 0, none⟩) ((pk (putBits n0 64)).length) cap30) (by (try simp only [List.length_append, putBits_len, List.length_nil, pk_len]); omega) (by (try simp only [List.length_append, putBits_len, List.length_nil, pk_len]); omega) hrow30) (by kernel_rfl) ?_
    rintro v32 I32 w32 b32 F32 le32 - ⟨g32, cap32, cur32, gg32, ccap32, ccur32, rfl, hv32, rfl, rfl, hr32, hrr32⟩ s
    cases hv32
    replace hl := BSl.mono le32 hl
    replace hb9 := BSl.mono le32 hb9
    replace hb13 := BSl.mono le32 hb13
    replace hle17 := leMono le32 hle17
    refine ops_rule (C := []) [(b26, .cells #[.slice (some ⟨g30, 0, none⟩) ((pk (putBits n0 64)).length) cap30, .int .i64 ((0 + 64 : Nat) : Int)] 96), (b13, .cells #[.slice a13 (((l.take (min l.length 20))).length) c13, .int .i64 ((0 + 64 : Nat) : Int), .int .i64 0] 99), (b9, .cells #[.slice a9 (((l.take (min l.length 20))).length) c9, .int .i64 0, .int .i64 0] 99), (g30, .cells cur32 5), (gg32, .cells ccur32 5)] [] 1 [] 0 (fun φ33 => [(9, .slice (some ⟨gg32, 0, none⟩) ((pk (putBits n0 64)).length) ccap32)]) (fun φ33 => [(b26, .cells #[.slice (some ⟨g30, 0, none⟩) ((pk (putBits n0 64)).length) cap30, .int .i64 ((0 + 64 : Nat) : Int)] 96), (b13, .cells #[.slice a13 (((l.take (min l.length 20))).length) c13, .int .i64 ((0 + 64 : Nat) : Int), .int .i64 0] 99), (b9, .cells #[.slice a9 (((l.take (min l.length 20))).length) c9, .int .i64 0, .int .i64 0] 99), (g30, .cells cur32 5), (gg32, .cells ccur32 5)]) (fun φ33 => []) s trivial (fun φ33 => by kernel_rfl) ?_
    intro φ33 w33 s
    refine ops_done (by kernel_rfl) ?_
    refine wp_seq ?_
    refine region_rule ?_
    refine ops_rule (C := []) [(b26, .cells #[.slice (some ⟨g30, 0, none⟩) ((pk (putBits n0 64)).length) cap30, .int .i64 ((0 + 64 : Nat) : Int)] 96), (b13, .cells #[.slice a13 (((l.take (min l.length 20))).length) c13, .int .i64 ((0 + 64 : Nat) : Int), .int .i64 0] 99), (b9, .cells #[.slice a9 (((l.take (min l.length 20))).length) c9, .int .i64 0, .int .i64 0] 99), (g30, .cells cur32 5), (gg32, .cells ccur32 5)] [] 1 [] 0 (fun φ34 => [(44, .slice (some ⟨gg32, 0, none⟩) ((pk (putBits n0 64)).length) ccap32)]) (fun φ34 => [(b26, .cells #[.slice (some ⟨g30, 0, none⟩) ((pk (putBits n0 64)).length) cap30, .int .i64 ((0 + 64 : Nat) : Int)] 96), (b13, .cells #[.slice a13 (((l.take (min l.length 20))).length) c13, .int .i64 ((0 + 64 : Nat) : Int), .int .i64 0] 99), (b9, .cells #[.slice a9 (((l.take (min l.length 20))).length) c9, .int .i64 0, .int .i64 0] 99), (g30, .cells cur32 5), (gg32, .cells ccur32 5)]) (fun φ34 => []) s trivial (fun φ34 => by kernel_rfl) ?_
    intro φ34 w34 s
    refine sem_rule (Instr.indexAt 34 (.slice (some ⟨gg32, 0, none⟩) ((pk (putBits n0 64)).length) ccap32) (.int .i64 ((0 : Nat) : Int))) (some 45) (.pointer (some ⟨gg32, 0, none⟩)) (by kernel_rfl) (row_idx (by have hP20 : ((l.take (min l.length 20))).length ≤ 20 := (by simp only [List.length_take]; omega); have hpk8 : (pk (putBits n0 64)).length = 8 := (by rw [pk_len, putBits_len]); have hq7 := hi18_1; have hq0 := of_decide_eq_false hc20; omega)) ?_
    refine sem_rule (Instr.loadAt 5 (.pointer (some ⟨gg32, 0, none⟩))) (some 46) (.int .u8 ((((pk (putBits n0 64)).getD 0 0).toNat : Nat) : Int)) (by kernel_rfl) (row_ld s (by simp) hrr32 (by have hP20 : ((l.take (min l.length 20))).length ≤ 20 := (by simp only [List.length_take]; omega); have hpk8 : (pk (putBits n0 64)).length = 8 := (by rw [pk_len, putBits_len]); have hq7 := hi18_1; have hq0 := of_decide_eq_false hc20; omega)) ?_
    refine sem_rule (binOp .xor 5 (.int .u8 ((((pk (putBits n0 64)).getD 0 0).toNat : Nat) : Int)) (.int .u8 ((255 : Nat) : Int))) (some 47) (.int .u8 ((bxor 8 (((pk (putBits n0 64)).getD 0 0).toNat) 255 : Nat) : Int)) (by kernel_rfl) (run_bit8.1) ?_
    refine sem_rule (Instr.indexAt 34 (.slice (some ⟨gg32, 0, none⟩) ((pk (putBits n0 64)).length) ccap32) (.int .i64 ((0 : Nat) : Int))) (some 48) (.pointer (some ⟨gg32, 0, none⟩)) (by kernel_rfl) (row_idx (by have hP20 : ((l.take (min l.length 20))).length ≤ 20 := (by simp only [List.length_take]; omega); have hpk8 : (pk (putBits n0 64)).length = 8 := (by rw [pk_len, putBits_len]); have hq7 := hi18_1; have hq0 := of_decide_eq_false hc20; omega)) ?_
    obtain ⟨w35, cur35, hr35, s, hrow35⟩ := row_st (H := [(b26, .cells #[.slice (some ⟨g30, 0, none⟩) ((pk (putBits n0 64)).length) cap30, .int .i64 ((0 + 64 : Nat) : Int)] 96), (b13, .cells #[.slice a13 (((l.take (min l.length 20))).length) c13, .int .i64 ((0 + 64 : Nat) : Int), .int .i64 0] 99), (b9, .cells #[.slice a9 (((l.take (min l.length 20))).length) c9, .int .i64 0, .int .i64 0] 99), (g30, .cells cur32 5), (gg32, .cells ccur32 5)]) (q := 4) (i := 0) (x := bxor 8 (((pk (putBits n0 64)).getD 0 0).toNat) 255) s (by kernel_rfl) hrr32 (by have hP20 : ((l.take (min l.length 20))).length ≤ 20 := (by simp only [List.length_take]; omega); have hpk8 : (pk (putBits n0 64)).length = 8 := (by rw [pk_len, putBits_len]); have hq7 := hi18_1; have hq0 := of_decide_eq_false hc20; omega) (bxor8_lt)
    refine semU_rule (Instr.storeAt 5 (.pointer (some ⟨gg32, 0, none⟩)) (.int .u8 ((bxor 8 (((pk (putBits n0 64)).getD 0 0).toNat) 255 : Nat) : Int))) none (by kernel_rfl) hr35 ?_
    refine ops_done (by kernel_rfl) ?_
    refine wp_seq ?_
    refine region_rule ?_
    refine ops_rule (C := []) [(b26, .cells #[.slice (some ⟨g30, 0, none⟩) ((pk (putBits n0 64)).length) cap30, .int .i64 ((0 + 64 : Nat) : Int)] 96), (b13, .cells #[.slice a13 (((l.take (min l.length 20))).length) c13, .int .i64 ((0 + 64 : Nat) : Int), .int .i64 0] 99), (b9, .cells #[.slice a9 (((l.take (min l.length 20))).length) c9, .int .i64 0, .int .i64 0] 99), (g30, .cells cur32 5), (gg32, .cells cur35 5)] [] 1 [] 0 (fun φ36 => [(10, .pointer none)]) (fun φ36 => [(b26, .cells #[.slice (some ⟨g30, 0, none⟩) ((pk (putBits n0 64)).length) cap30, .int .i64 ((0 + 64 : Nat) : Int)] 96), (b13, .cells #[.slice a13 (((l.take (min l.length 20))).length) c13, .int .i64 ((0 + 64 : Nat) : Int), .int .i64 0] 99), (b9, .cells #[.slice a9 (((l.take (min l.length 20))).length) c9, .int .i64 0, .int .i64 0] 99), (g30, .cells cur32 5), (gg32, .cells cur35 5)]) (fun φ36 => []) s trivial (fun φ36 => by kernel_rfl) ?_
    intro φ36 w36 s
    refine ops_done (by kernel_rfl) ?_
    refine wp_seq ?_
    refine region_rule ?_
    refine ops_rule (C := []) [(b26, .cells #[.slice (some ⟨g30, 0, none⟩) ((pk (putBits n0 64)).length) cap30, .int .i64 ((0 + 64 : Nat) : Int)] 96), (b13, .cells #[.slice a13 (((l.take (min l.length 20))).length) c13, .int .i64 ((0 + 64 : Nat) : Int), .int .i64 0] 99), (b9, .cells #[.slice a9 (((l.take (min l.length 20))).length) c9, .int .i64 0, .int .i64 0] 99), (g30, .cells cur32 5), (gg32, .cells cur35 5)] [] 1 [] 0 (fun φ37 => [(11, .pointer none)]) (fun φ37 => [(b26, .cells #[.slice (some ⟨g30, 0, none⟩) ((pk (putBits n0 64)).length) cap30, .int .i64 ((0 + 64 : Nat) : Int)] 96), (b13, .cells #[.slice a13 (((l.take (min l.length 20))).length) c13, .int .i64 ((0 + 64 : Nat) : Int), .int .i64 0] 99), (b9, .cells #[.slice a9 (((l.take (min l.length 20))).length) c9, .int .i64 0, .int .i64 0] 99), (g30, .cells cur32 5), (gg32, .cells cur35 5)]) (fun φ37 => []) s trivial (fun φ37 => by kernel_rfl) ?_
    intro φ37 w37 s
    refine ops_done (by kernel_rfl) ?_
    refine wp_seq ?_
    refine region_rule ?_
    refine ops_rule (C := []) [(b26, .cells #[.slice (some ⟨g30, 0, none⟩) ((pk (putBits n0 64)).length) cap30, .int .i64 ((0 + 64 : Nat) : Int)] 96), (b13, .cells #[.slice a13 (((l.take (min l.length 20))).length) c13, .int .i64 ((0 + 64 : Nat) : Int), .int .i64 0] 99), (b9, .cells #[.slice a9 (((l.take (min l.length 20))).length) c9, .int .i64 0, .int .i64 0] 99), (g30, .cells cur32 5), (gg32, .cells cur35 5)] [] 2 [] 0 (fun φ38 => [(50, .int .u64 ((n0 : Nat) : Int)), (49, .pointer none)]) (fun φ38 => [(b26, .cells #[.slice (some ⟨g30, 0, none⟩) ((pk (putBits n0 64)).length) cap30, .int .i64 ((0 + 64 : Nat) : Int)] 96), (b13, .cells #[.slice a13 (((l.take (min l.length 20))).length) c13, .int .i64 ((0 + 64 : Nat) : Int), .int .i64 0] 99), (b9, .cells #[.slice a9 (((l.take (min l.length 20))).length) c9, .int .i64 0, .int .i64 0] 99), (g30, .cells cur32 5), (gg32, .cells cur35 5)]) (fun φ38 => []) s trivial (fun φ38 => by kernel_rfl) ?_
    intro φ38 w38 s
    refine call_rule (some 51) s (put_nil (n := n0) (k := 5)) (by kernel_rfl) ?_
    intro v39 I39 w39 le39 h39 s
    replace hl := BSl.mono le39 hl
    replace hb9 := BSl.mono le39 hb9
    replace hb13 := BSl.mono le39 hb13
    replace hle17 := leMono le39 hle17
    obtain rfl := h39
    refine ops_done (by kernel_rfl) ?_
    refine wp_seq ?_
    refine region_rule ?_
    refine ops_rule (C := []) [(b26, .cells #[.slice (some ⟨g30, 0, none⟩) ((pk (putBits n0 64)).length) cap30, .int .i64 ((0 + 64 : Nat) : Int)] 96), (b13, .cells #[.slice a13 (((l.take (min l.length 20))).length) c13, .int .i64 ((0 + 64 : Nat) : Int), .int .i64 0] 99), (b9, .cells #[.slice a9 (((l.take (min l.length 20))).length) c9, .int .i64 0, .int .i64 0] 99), (g30, .cells cur32 5), (gg32, .cells cur35 5)] [] 2 [] 0 (fun φ40 => [(53, .int .u64 ((n0 : Nat) : Int)), (52, .pointer none)]) (fun φ40 => [(b26, .cells #[.slice (some ⟨g30, 0, none⟩) ((pk (putBits n0 64)).length) cap30, .int .i64 ((0 + 64 : Nat) : Int)] 96), (b13, .cells #[.slice a13 (((l.take (min l.length 20))).length) c13, .int .i64 ((0 + 64 : Nat) : Int), .int .i64 0] 99), (b9, .cells #[.slice a9 (((l.take (min l.length 20))).length) c9, .int .i64 0, .int .i64 0] 99), (g30, .cells cur32 5), (gg32, .cells cur35 5)]) (fun φ40 => []) s trivial (fun φ40 => by kernel_rfl) ?_
    intro φ40 w40 s
    refine call_rule (some 54) s (numW_nil (n := n0) hn) (by kernel_rfl) ?_
    intro v41 I41 w41 le41 h41 s
    replace hl := BSl.mono le41 hl
    replace hb9 := BSl.mono le41 hb9
    replace hb13 := BSl.mono le41 hb13
    replace hle17 := leMono le41 hle17
    obtain rfl := h41
    refine ops_done (by kernel_rfl) ?_
    refine wp_seq ?_
    refine region_rule ?_
    refine ops_rule (C := []) [(b26, .cells #[.slice (some ⟨g30, 0, none⟩) ((pk (putBits n0 64)).length) cap30, .int .i64 ((0 + 64 : Nat) : Int)] 96), (b13, .cells #[.slice a13 (((l.take (min l.length 20))).length) c13, .int .i64 ((0 + 64 : Nat) : Int), .int .i64 0] 99), (b9, .cells #[.slice a9 (((l.take (min l.length 20))).length) c9, .int .i64 0, .int .i64 0] 99), (g30, .cells cur32 5), (gg32, .cells cur35 5)] [] 1 [] 0 (fun φ42 => [(55, .pointer (some ⟨b26, 0, none⟩))]) (fun φ42 => [(b26, .cells #[.slice (some ⟨g30, 0, none⟩) ((pk (putBits n0 64)).length) cap30, .int .i64 ((0 + 64 : Nat) : Int)] 96), (b13, .cells #[.slice a13 (((l.take (min l.length 20))).length) c13, .int .i64 ((0 + 64 : Nat) : Int), .int .i64 0] 99), (b9, .cells #[.slice a9 (((l.take (min l.length 20))).length) c9, .int .i64 0, .int .i64 0] 99), (g30, .cells cur32 5), (gg32, .cells cur35 5)]) (fun φ42 => []) s trivial (fun φ42 => by kernel_rfl) ?_
    intro φ42 w42 s
    replace s := St.perm (H' := [(b26, .cells #[.slice (some ⟨g30, 0, none⟩) ((pk (putBits n0 64)).length) cap30, .int .i64 ((0 + 64 : Nat) : Int)] 96), (b13, .cells #[.slice a13 (((l.take (min l.length 20))).length) c13, .int .i64 ((0 + 64 : Nat) : Int), .int .i64 0] 99), (b9, .cells #[.slice a9 (((l.take (min l.length 20))).length) c9, .int .i64 0, .int .i64 0] 99), (gg32, .cells cur35 5)] ++ [(g30, .cells cur32 5)]) s (move_last 3 (by kernel_rfl) (by kernel_rfl))
    refine callH_rule (b := (b26, .cells #[.slice (some ⟨g30, 0, none⟩) ((pk (putBits n0 64)).length) cap30, .int .i64 ((0 + 64 : Nat) : Int)] 96)) (H := [(b26, .cells #[.slice (some ⟨g30, 0, none⟩) ((pk (putBits n0 64)).length) cap30, .int .i64 ((0 + 64 : Nat) : Int)] 96), (b13, .cells #[.slice a13 (((l.take (min l.length 20))).length) c13, .int .i64 ((0 + 64 : Nat) : Int), .int .i64 0] 99), (b9, .cells #[.slice a9 (((l.take (min l.length 20))).length) c9, .int .i64 0, .int .i64 0] 99), (gg32, .cells cur35 5)]) (F := [(g30, .cells cur32 5)]) (Hr := [(b13, .cells #[.slice a13 (((l.take (min l.length 20))).length) c13, .int .i64 ((0 + 64 : Nat) : Int), .int .i64 0] 99), (b9, .cells #[.slice a9 (((l.take (min l.length 20))).length) c9, .int .i64 0, .int .i64 0] 99), (gg32, .cells cur35 5)]) (some 56) 0 s (by kernel_rfl) (by kernel_rfl) (bytes_c (b := b26) (cnt := 0 + 64) (bs := (putBits n0 64)) (v0 := .slice (some ⟨g30, 0, none⟩) ((pk (putBits n0 64)).length) cap30) (by (try simp only [List.length_append, putBits_len, List.length_nil, pk_len]); omega) (by (try simp only [List.length_append, putBits_len, List.length_nil, pk_len]); omega) hr32) (by kernel_rfl) ?_
    rintro v43 I43 w43 b43 F43 le43 - h43 s
    replace hl := BSl.mono le43 hl
    replace hb9 := BSl.mono le43 hb9
    replace hb13 := BSl.mono le43 hb13
    replace hle17 := leMono le43 hle17
    obtain ⟨a43, c43, rfl, rfl, hr43, h43_0⟩ := h43
    obtain ⟨cur44, hF44, hrow44⟩ := row_open2 hr43
    subst hF44
    refine callF_rule (H := [(b26, .cells #[.slice (some ⟨g30, 0, none⟩) ((pk (putBits n0 64)).length) cap30, .int .i64 ((0 + 64 : Nat) : Int)] 96), (b13, .cells #[.slice a13 (((l.take (min l.length 20))).length) c13, .int .i64 ((0 + 64 : Nat) : Int), .int .i64 0] 99), (b9, .cells #[.slice a9 (((l.take (min l.length 20))).length) c9, .int .i64 0, .int .i64 0] 99), (gg32, .cells cur35 5), (g30, .cells cur44 5)]) (F := []) (some 57) s (newReader_c h43_0 (by (try simp only [List.length_take, pk_len, putBits_len]); omega)) (by kernel_rfl) ?_
    rintro v45 I45 w45 F45 le45 ⟨b45, a45, c45, rfl, rfl, hb45⟩ s
    replace hl := BSl.mono le45 hl
    replace hb9 := BSl.mono le45 hb9
    replace hb13 := BSl.mono le45 hb13
    replace hle17 := leMono le45 hle17
    replace h43_0 := BSl.mono le45 h43_0
    refine callB_rule (b := (b45, .cells #[.slice a45 (List.length (pk (putBits n0 64))) c45, .int .i64 0, .int .i64 0] 99)) (H := [(b26, .cells #[.slice (some ⟨g30, 0, none⟩) ((pk (putBits n0 64)).length) cap30, .int .i64 ((0 + 64 : Nat) : Int)] 96), (b13, .cells #[.slice a13 (((l.take (min l.length 20))).length) c13, .int .i64 ((0 + 64 : Nat) : Int), .int .i64 0] 99), (b9, .cells #[.slice a9 (((l.take (min l.length 20))).length) c9, .int .i64 0, .int .i64 0] 99), (gg32, .cells cur35 5), (g30, .cells cur44 5), (b45, .cells #[.slice a45 (List.length (pk (putBits n0 64))) c45, .int .i64 0, .int .i64 0] 99)]) (F := []) (Hr := [(b26, .cells #[.slice (some ⟨g30, 0, none⟩) ((pk (putBits n0 64)).length) cap30, .int .i64 ((0 + 64 : Nat) : Int)] 96), (b13, .cells #[.slice a13 (((l.take (min l.length 20))).length) c13, .int .i64 ((0 + 64 : Nat) : Int), .int .i64 0] 99), (b9, .cells #[.slice a9 (((l.take (min l.length 20))).length) c9, .int .i64 0, .int .i64 0] 99), (gg32, .cells cur35 5), (g30, .cells cur44 5)]) (some 58) 5 s (by kernel_rfl) (by kernel_rfl) (get_c (r := b45) (p := 0) hb45 (by (try simp only [List.length_take, pk_len, putBits_len]); omega) (k := 64) (by have hP20 : ((l.take (min l.length 20))).length ≤ 20 := (by simp only [List.length_take]; omega); have hpk8 : (pk (putBits n0 64)).length = 8 := (by rw [pk_len, putBits_len]); have hq7 := hi18_1; have hq0 := of_decide_eq_false hc20; omega) (by (try simp only [List.length_append, putBits_len, List.length_nil, pk_len]); omega)) (by kernel_rfl) ?_
    rintro v46 I46 w46 b46 le46 - h46 s
    replace hl := BSl.mono le46 hl
    replace hb9 := BSl.mono le46 hb9
    replace hb13 := BSl.mono le46 hb13
    replace hle17 := leMono le46 hle17
    replace h43_0 := BSl.mono le46 h43_0
    replace hb45 := BSl.mono le46 hb45
    obtain ⟨rfl, rfl⟩ := h46
    refine ops_rule (C := []) [(b45, .cells #[.slice a45 (List.length (pk (putBits n0 64))) c45, .int .i64 ((0 + 64 : Nat) : Int), .int .i64 0] 99), (b26, .cells #[.slice (some ⟨g30, 0, none⟩) ((pk (putBits n0 64)).length) cap30, .int .i64 ((0 + 64 : Nat) : Int)] 96), (b13, .cells #[.slice a13 (((l.take (min l.length 20))).length) c13, .int .i64 ((0 + 64 : Nat) : Int), .int .i64 0] 99), (b9, .cells #[.slice a9 (((l.take (min l.length 20))).length) c9, .int .i64 0, .int .i64 0] 99), (gg32, .cells cur35 5), (g30, .cells cur44 5)] [] 1 [] 0 (fun φ47 => [(12, .int .u64 ((rd (pk (putBits n0 64)) 0 64 : Nat) : Int))]) (fun φ47 => [(b45, .cells #[.slice a45 (List.length (pk (putBits n0 64))) c45, .int .i64 ((0 + 64 : Nat) : Int), .int .i64 0] 99), (b26, .cells #[.slice (some ⟨g30, 0, none⟩) ((pk (putBits n0 64)).length) cap30, .int .i64 ((0 + 64 : Nat) : Int)] 96), (b13, .cells #[.slice a13 (((l.take (min l.length 20))).length) c13, .int .i64 ((0 + 64 : Nat) : Int), .int .i64 0] 99), (b9, .cells #[.slice a9 (((l.take (min l.length 20))).length) c9, .int .i64 0, .int .i64 0] 99), (gg32, .cells cur35 5), (g30, .cells cur44 5)]) (fun φ47 => []) s trivial (fun φ47 => by kernel_rfl) ?_
    intro φ47 w47 s
    refine ops_done (by kernel_rfl) ?_
    refine wp_seq ?_
    refine region_rule ?_
    refine ops_rule (C := []) [(b45, .cells #[.slice a45 (List.length (pk (putBits n0 64))) c45, .int .i64 ((0 + 64 : Nat) : Int), .int .i64 0] 99), (b26, .cells #[.slice (some ⟨g30, 0, none⟩) ((pk (putBits n0 64)).length) cap30, .int .i64 ((0 + 64 : Nat) : Int)] 96), (b13, .cells #[.slice a13 (((l.take (min l.length 20))).length) c13, .int .i64 ((0 + 64 : Nat) : Int), .int .i64 0] 99), (b9, .cells #[.slice a9 (((l.take (min l.length 20))).length) c9, .int .i64 0, .int .i64 0] 99), (gg32, .cells cur35 5), (g30, .cells cur44 5)] [] 1 [] 0 (fun φ48 => [(59, .pointer (some ⟨b9, 0, none⟩))]) (fun φ48 => [(b45, .cells #[.slice a45 (List.length (pk (putBits n0 64))) c45, .int .i64 ((0 + 64 : Nat) : Int), .int .i64 0] 99), (b26, .cells #[.slice (some ⟨g30, 0, none⟩) ((pk (putBits n0 64)).length) cap30, .int .i64 ((0 + 64 : Nat) : Int)] 96), (b13, .cells #[.slice a13 (((l.take (min l.length 20))).length) c13, .int .i64 ((0 + 64 : Nat) : Int), .int .i64 0] 99), (b9, .cells #[.slice a9 (((l.take (min l.length 20))).length) c9, .int .i64 0, .int .i64 0] 99), (gg32, .cells cur35 5), (g30, .cells cur44 5)]) (fun φ48 => []) s trivial (fun φ48 => by kernel_rfl) ?_
    intro φ48 w48 s
    refine callB_rule (b := (b9, .cells #[.slice a9 (((l.take (min l.length 20))).length) c9, .int .i64 0, .int .i64 0] 99)) (H := [(b45, .cells #[.slice a45 (List.length (pk (putBits n0 64))) c45, .int .i64 ((0 + 64 : Nat) : Int), .int .i64 0] 99), (b26, .cells #[.slice (some ⟨g30, 0, none⟩) ((pk (putBits n0 64)).length) cap30, .int .i64 ((0 + 64 : Nat) : Int)] 96), (b13, .cells #[.slice a13 (((l.take (min l.length 20))).length) c13, .int .i64 ((0 + 64 : Nat) : Int), .int .i64 0] 99), (b9, .cells #[.slice a9 (((l.take (min l.length 20))).length) c9, .int .i64 0, .int .i64 0] 99), (gg32, .cells cur35 5), (g30, .cells cur44 5)]) (F := []) (Hr := [(b45, .cells #[.slice a45 (List.length (pk (putBits n0 64))) c45, .int .i64 ((0 + 64 : Nat) : Int), .int .i64 0] 99), (b26, .cells #[.slice (some ⟨g30, 0, none⟩) ((pk (putBits n0 64)).length) cap30, .int .i64 ((0 + 64 : Nat) : Int)] 96), (b13, .cells #[.slice a13 (((l.take (min l.length 20))).length) c13, .int .i64 ((0 + 64 : Nat) : Int), .int .i64 0] 99), (gg32, .cells cur35 5), (g30, .cells cur44 5)]) (some 60) 3 s (by kernel_rfl) (by kernel_rfl) (get_c (r := b9) (p := 0) hb9 (by (try simp only [List.length_take, pk_len, putBits_len]); omega) (k := 64) (by have hP20 : ((l.take (min l.length 20))).length ≤ 20 := (by simp only [List.length_take]; omega); have hpk8 : (pk (putBits n0 64)).length = 8 := (by rw [pk_len, putBits_len]); have hq7 := hi18_1; have hq0 := of_decide_eq_false hc20; omega) (by omega)) (by kernel_rfl) ?_
    rintro v49 I49 w49 b49 le49 - h49 s
    replace hl := BSl.mono le49 hl
    replace hb9 := BSl.mono le49 hb9
    replace hb13 := BSl.mono le49 hb13
    replace hle17 := leMono le49 hle17
    replace h43_0 := BSl.mono le49 h43_0
    replace hb45 := BSl.mono le49 hb45
    obtain ⟨rfl, rfl⟩ := h49
    refine ops_rule (C := []) [(b9, .cells #[.slice a9 (((l.take (min l.length 20))).length) c9, .int .i64 ((0 + 64 : Nat) : Int), .int .i64 0] 99), (b45, .cells #[.slice a45 (List.length (pk (putBits n0 64))) c45, .int .i64 ((0 + 64 : Nat) : Int), .int .i64 0] 99), (b26, .cells #[.slice (some ⟨g30, 0, none⟩) ((pk (putBits n0 64)).length) cap30, .int .i64 ((0 + 64 : Nat) : Int)] 96), (b13, .cells #[.slice a13 (((l.take (min l.length 20))).length) c13, .int .i64 ((0 + 64 : Nat) : Int), .int .i64 0] 99), (gg32, .cells cur35 5), (g30, .cells cur44 5)] [] 3 [] 0 (fun φ50 => [(63, .bool (((rd (l.take (min l.length 20)) 0 64 : Nat) : Int) == ((rd (l.take (min l.length 20)) 0 64 : Nat) : Int))), (62, .bool (((rd (l.take (min l.length 20)) 0 64 : Nat) : Int) == ((rd (l.take (min l.length 20)) 0 64 : Nat) : Int))), (61, .int .u64 ((rd (l.take (min l.length 20)) 0 64 : Nat) : Int))]) (fun φ50 => [(b9, .cells #[.slice a9 (((l.take (min l.length 20))).length) c9, .int .i64 ((0 + 64 : Nat) : Int), .int .i64 0] 99), (b45, .cells #[.slice a45 (List.length (pk (putBits n0 64))) c45, .int .i64 ((0 + 64 : Nat) : Int), .int .i64 0] 99), (b26, .cells #[.slice (some ⟨g30, 0, none⟩) ((pk (putBits n0 64)).length) cap30, .int .i64 ((0 + 64 : Nat) : Int)] 96), (b13, .cells #[.slice a13 (((l.take (min l.length 20))).length) c13, .int .i64 ((0 + 64 : Nat) : Int), .int .i64 0] 99), (gg32, .cells cur35 5), (g30, .cells cur44 5)]) (fun φ50 => []) s trivial (fun φ50 => by kernel_rfl) ?_
    intro φ50 w50 s
    rw [(nat_eql (a := (rd (l.take (min l.length 20)) 0 64)) (b := (rd (l.take (min l.length 20)) 0 64))).trans (decide_eq_true rfl)]
    rcases Bool.eq_false_or_eq_true (true) with hc51 | hc51
    ·
      refine ops_rule (C := []) [(b9, .cells #[.slice a9 (((l.take (min l.length 20))).length) c9, .int .i64 ((0 + 64 : Nat) : Int), .int .i64 0] 99), (b45, .cells #[.slice a45 (List.length (pk (putBits n0 64))) c45, .int .i64 ((0 + 64 : Nat) : Int), .int .i64 0] 99), (b26, .cells #[.slice (some ⟨g30, 0, none⟩) ((pk (putBits n0 64)).length) cap30, .int .i64 ((0 + 64 : Nat) : Int)] 96), (b13, .cells #[.slice a13 (((l.take (min l.length 20))).length) c13, .int .i64 ((0 + 64 : Nat) : Int), .int .i64 0] 99), (gg32, .cells cur35 5), (g30, .cells cur44 5)] [] 5 [] 0 (fun φ52 => [(68, .bool (((rd (pk (putBits n0 64)) 0 64 : Nat) : Int) == ((n0 : Nat) : Int))), (67, .bool (((rd (pk (putBits n0 64)) 0 64 : Nat) : Int) == ((n0 : Nat) : Int))), (66, .bool (((rd (pk (putBits n0 64)) 0 64 : Nat) : Int) == ((n0 : Nat) : Int))), (65, .int .u64 ((n0 : Nat) : Int)), (64, .int .u64 ((rd (pk (putBits n0 64)) 0 64 : Nat) : Int))]) (fun φ52 => [(b9, .cells #[.slice a9 (((l.take (min l.length 20))).length) c9, .int .i64 ((0 + 64 : Nat) : Int), .int .i64 0] 99), (b45, .cells #[.slice a45 (List.length (pk (putBits n0 64))) c45, .int .i64 ((0 + 64 : Nat) : Int), .int .i64 0] 99), (b26, .cells #[.slice (some ⟨g30, 0, none⟩) ((pk (putBits n0 64)).length) cap30, .int .i64 ((0 + 64 : Nat) : Int)] 96), (b13, .cells #[.slice a13 (((l.take (min l.length 20))).length) c13, .int .i64 ((0 + 64 : Nat) : Int), .int .i64 0] 99), (gg32, .cells cur35 5), (g30, .cells cur44 5)]) (fun φ52 => []) s trivial (fun φ52 => by kernel_rfl) ?_
      intro φ52 w52 s
      rw [nat_eql (a := (rd (pk (putBits n0 64)) 0 64)) (b := n0)]
      rcases Bool.eq_false_or_eq_true (decide ((rd (pk (putBits n0 64)) 0 64) = n0)) with hc53 | hc53
      ·
        rw [hc53]
        refine ops_rule (C := []) [(b9, .cells #[.slice a9 (((l.take (min l.length 20))).length) c9, .int .i64 ((0 + 64 : Nat) : Int), .int .i64 0] 99), (b45, .cells #[.slice a45 (List.length (pk (putBits n0 64))) c45, .int .i64 ((0 + 64 : Nat) : Int), .int .i64 0] 99), (b26, .cells #[.slice (some ⟨g30, 0, none⟩) ((pk (putBits n0 64)).length) cap30, .int .i64 ((0 + 64 : Nat) : Int)] 96), (b13, .cells #[.slice a13 (((l.take (min l.length 20))).length) c13, .int .i64 ((0 + 64 : Nat) : Int), .int .i64 0] 99), (gg32, .cells cur35 5), (g30, .cells cur44 5)] [] 1 [] 0 (fun φ54 => [(69, .pointer none)]) (fun φ54 => [(b9, .cells #[.slice a9 (((l.take (min l.length 20))).length) c9, .int .i64 ((0 + 64 : Nat) : Int), .int .i64 0] 99), (b45, .cells #[.slice a45 (List.length (pk (putBits n0 64))) c45, .int .i64 ((0 + 64 : Nat) : Int), .int .i64 0] 99), (b26, .cells #[.slice (some ⟨g30, 0, none⟩) ((pk (putBits n0 64)).length) cap30, .int .i64 ((0 + 64 : Nat) : Int)] 96), (b13, .cells #[.slice a13 (((l.take (min l.length 20))).length) c13, .int .i64 ((0 + 64 : Nat) : Int), .int .i64 0] 99), (gg32, .cells cur35 5), (g30, .cells cur44 5)]) (fun φ54 => []) s trivial (fun φ54 => by kernel_rfl) ?_
        intro φ54 w54 s
        refine call_rule (some 70) s (lenW_nil) (by kernel_rfl) ?_
        intro v55 I55 w55 le55 h55 s
        replace hl := BSl.mono le55 hl
        replace hb9 := BSl.mono le55 hb9
        replace hb13 := BSl.mono le55 hb13
        replace hle17 := leMono le55 hle17
        replace h43_0 := BSl.mono le55 h43_0
        replace hb45 := BSl.mono le55 hb45
        obtain rfl := h55
        refine ops_rule (C := []) [(b9, .cells #[.slice a9 (((l.take (min l.length 20))).length) c9, .int .i64 ((0 + 64 : Nat) : Int), .int .i64 0] 99), (b45, .cells #[.slice a45 (List.length (pk (putBits n0 64))) c45, .int .i64 ((0 + 64 : Nat) : Int), .int .i64 0] 99), (b26, .cells #[.slice (some ⟨g30, 0, none⟩) ((pk (putBits n0 64)).length) cap30, .int .i64 ((0 + 64 : Nat) : Int)] 96), (b13, .cells #[.slice a13 (((l.take (min l.length 20))).length) c13, .int .i64 ((0 + 64 : Nat) : Int), .int .i64 0] 99), (gg32, .cells cur35 5), (g30, .cells cur44 5)] [] 4 [] 0 (fun φ56 => [(74, .pointer none), (73, .bool true), (72, .bool true), (71, .bool true)]) (fun φ56 => [(b9, .cells #[.slice a9 (((l.take (min l.length 20))).length) c9, .int .i64 ((0 + 64 : Nat) : Int), .int .i64 0] 99), (b45, .cells #[.slice a45 (List.length (pk (putBits n0 64))) c45, .int .i64 ((0 + 64 : Nat) : Int), .int .i64 0] 99), (b26, .cells #[.slice (some ⟨g30, 0, none⟩) ((pk (putBits n0 64)).length) cap30, .int .i64 ((0 + 64 : Nat) : Int)] 96), (b13, .cells #[.slice a13 (((l.take (min l.length 20))).length) c13, .int .i64 ((0 + 64 : Nat) : Int), .int .i64 0] 99), (gg32, .cells cur35 5), (g30, .cells cur44 5)]) (fun φ56 => []) s trivial (fun φ56 => by kernel_rfl) ?_
        intro φ56 w56 s
        refine call_rule (some 75) s (bytes_nil) (by kernel_rfl) ?_
        intro v57 I57 w57 le57 h57 s
        replace hl := BSl.mono le57 hl
        replace hb9 := BSl.mono le57 hb9
        replace hb13 := BSl.mono le57 hb13
        replace hle17 := leMono le57 hle17
        replace h43_0 := BSl.mono le57 h43_0
        replace hb45 := BSl.mono le57 hb45
        obtain rfl := h57
        refine ops_rule (C := []) [(b9, .cells #[.slice a9 (((l.take (min l.length 20))).length) c9, .int .i64 ((0 + 64 : Nat) : Int), .int .i64 0] 99), (b45, .cells #[.slice a45 (List.length (pk (putBits n0 64))) c45, .int .i64 ((0 + 64 : Nat) : Int), .int .i64 0] 99), (b26, .cells #[.slice (some ⟨g30, 0, none⟩) ((pk (putBits n0 64)).length) cap30, .int .i64 ((0 + 64 : Nat) : Int)] 96), (b13, .cells #[.slice a13 (((l.take (min l.length 20))).length) c13, .int .i64 ((0 + 64 : Nat) : Int), .int .i64 0] 99), (gg32, .cells cur35 5), (g30, .cells cur44 5)] [] 5 [] 0 (fun φ58 => [(80, .pointer none), (79, .bool true), (78, .bool true), (77, .bool true), (76, .int .i64 0)]) (fun φ58 => [(b9, .cells #[.slice a9 (((l.take (min l.length 20))).length) c9, .int .i64 ((0 + 64 : Nat) : Int), .int .i64 0] 99), (b45, .cells #[.slice a45 (List.length (pk (putBits n0 64))) c45, .int .i64 ((0 + 64 : Nat) : Int), .int .i64 0] 99), (b26, .cells #[.slice (some ⟨g30, 0, none⟩) ((pk (putBits n0 64)).length) cap30, .int .i64 ((0 + 64 : Nat) : Int)] 96), (b13, .cells #[.slice a13 (((l.take (min l.length 20))).length) c13, .int .i64 ((0 + 64 : Nat) : Int), .int .i64 0] 99), (gg32, .cells cur35 5), (g30, .cells cur44 5)]) (fun φ58 => []) s trivial (fun φ58 => by kernel_rfl) ?_
        intro φ58 w58 s
        refine call_rule (some 81) s (get_nil (k := 5) (by have hP20 : ((l.take (min l.length 20))).length ≤ 20 := (by simp only [List.length_take]; omega); have hpk8 : (pk (putBits n0 64)).length = 8 := (by rw [pk_len, putBits_len]); have hq7 := hi18_1; have hq0 := of_decide_eq_false hc20; have hq2 := of_decide_eq_true hc53; omega)) (by kernel_rfl) ?_
        intro v59 I59 w59 le59 h59 s
        replace hl := BSl.mono le59 hl
        replace hb9 := BSl.mono le59 hb9
        replace hb13 := BSl.mono le59 hb13
        replace hle17 := leMono le59 hle17
        replace h43_0 := BSl.mono le59 h43_0
        replace hb45 := BSl.mono le59 hb45
        obtain rfl := h59
        refine ops_rule (C := []) [(b9, .cells #[.slice a9 (((l.take (min l.length 20))).length) c9, .int .i64 ((0 + 64 : Nat) : Int), .int .i64 0] 99), (b45, .cells #[.slice a45 (List.length (pk (putBits n0 64))) c45, .int .i64 ((0 + 64 : Nat) : Int), .int .i64 0] 99), (b26, .cells #[.slice (some ⟨g30, 0, none⟩) ((pk (putBits n0 64)).length) cap30, .int .i64 ((0 + 64 : Nat) : Int)] 96), (b13, .cells #[.slice a13 (((l.take (min l.length 20))).length) c13, .int .i64 ((0 + 64 : Nat) : Int), .int .i64 0] 99), (gg32, .cells cur35 5), (g30, .cells cur44 5)] [] 4 [] 0 (fun φ60 => [(85, .pointer none), (84, .bool true), (83, .bool true), (82, .bool true)]) (fun φ60 => [(b9, .cells #[.slice a9 (((l.take (min l.length 20))).length) c9, .int .i64 ((0 + 64 : Nat) : Int), .int .i64 0] 99), (b45, .cells #[.slice a45 (List.length (pk (putBits n0 64))) c45, .int .i64 ((0 + 64 : Nat) : Int), .int .i64 0] 99), (b26, .cells #[.slice (some ⟨g30, 0, none⟩) ((pk (putBits n0 64)).length) cap30, .int .i64 ((0 + 64 : Nat) : Int)] 96), (b13, .cells #[.slice a13 (((l.take (min l.length 20))).length) c13, .int .i64 ((0 + 64 : Nat) : Int), .int .i64 0] 99), (gg32, .cells cur35 5), (g30, .cells cur44 5)]) (fun φ60 => []) s trivial (fun φ60 => by kernel_rfl) ?_
        intro φ60 w60 s
        refine call_rule (some 86) s (numR_nil) (by kernel_rfl) ?_
        intro v61 I61 w61 le61 h61 s
        replace hl := BSl.mono le61 hl
        replace hb9 := BSl.mono le61 hb9
        replace hb13 := BSl.mono le61 hb13
        replace hle17 := leMono le61 hle17
        replace h43_0 := BSl.mono le61 h43_0
        replace hb45 := BSl.mono le61 hb45
        obtain rfl := h61
        refine ops_rule (C := []) [(b9, .cells #[.slice a9 (((l.take (min l.length 20))).length) c9, .int .i64 ((0 + 64 : Nat) : Int), .int .i64 0] 99), (b45, .cells #[.slice a45 (List.length (pk (putBits n0 64))) c45, .int .i64 ((0 + 64 : Nat) : Int), .int .i64 0] 99), (b26, .cells #[.slice (some ⟨g30, 0, none⟩) ((pk (putBits n0 64)).length) cap30, .int .i64 ((0 + 64 : Nat) : Int)] 96), (b13, .cells #[.slice a13 (((l.take (min l.length 20))).length) c13, .int .i64 ((0 + 64 : Nat) : Int), .int .i64 0] 99), (gg32, .cells cur35 5), (g30, .cells cur44 5)] [] 4 [] 0 (fun φ62 => [(90, .pointer none), (89, .bool true), (88, .bool true), (87, .bool true)]) (fun φ62 => [(b9, .cells #[.slice a9 (((l.take (min l.length 20))).length) c9, .int .i64 ((0 + 64 : Nat) : Int), .int .i64 0] 99), (b45, .cells #[.slice a45 (List.length (pk (putBits n0 64))) c45, .int .i64 ((0 + 64 : Nat) : Int), .int .i64 0] 99), (b26, .cells #[.slice (some ⟨g30, 0, none⟩) ((pk (putBits n0 64)).length) cap30, .int .i64 ((0 + 64 : Nat) : Int)] 96), (b13, .cells #[.slice a13 (((l.take (min l.length 20))).length) c13, .int .i64 ((0 + 64 : Nat) : Int), .int .i64 0] 99), (gg32, .cells cur35 5), (g30, .cells cur44 5)]) (fun φ62 => []) s trivial (fun φ62 => by kernel_rfl) ?_
        intro φ62 w62 s
        refine call_rule (some 91) s (left_nil) (by kernel_rfl) ?_
        intro v63 I63 w63 le63 h63 s
        replace hl := BSl.mono le63 hl
        replace hb9 := BSl.mono le63 hb9
        replace hb13 := BSl.mono le63 hb13
        replace hle17 := leMono le63 hle17
        replace h43_0 := BSl.mono le63 h43_0
        replace hb45 := BSl.mono le63 hb45
        obtain rfl := h63
        refine ops_rule (C := []) [(b9, .cells #[.slice a9 (((l.take (min l.length 20))).length) c9, .int .i64 ((0 + 64 : Nat) : Int), .int .i64 0] 99), (b45, .cells #[.slice a45 (List.length (pk (putBits n0 64))) c45, .int .i64 ((0 + 64 : Nat) : Int), .int .i64 0] 99), (b26, .cells #[.slice (some ⟨g30, 0, none⟩) ((pk (putBits n0 64)).length) cap30, .int .i64 ((0 + 64 : Nat) : Int)] 96), (b13, .cells #[.slice a13 (((l.take (min l.length 20))).length) c13, .int .i64 ((0 + 64 : Nat) : Int), .int .i64 0] 99), (gg32, .cells cur35 5), (g30, .cells cur44 5)] [] 4 [] 0 (fun φ64 => [(95, .pointer none), (94, .bool true), (93, .bool true), (92, .bool true)]) (fun φ64 => [(b9, .cells #[.slice a9 (((l.take (min l.length 20))).length) c9, .int .i64 ((0 + 64 : Nat) : Int), .int .i64 0] 99), (b45, .cells #[.slice a45 (List.length (pk (putBits n0 64))) c45, .int .i64 ((0 + 64 : Nat) : Int), .int .i64 0] 99), (b26, .cells #[.slice (some ⟨g30, 0, none⟩) ((pk (putBits n0 64)).length) cap30, .int .i64 ((0 + 64 : Nat) : Int)] 96), (b13, .cells #[.slice a13 (((l.take (min l.length 20))).length) c13, .int .i64 ((0 + 64 : Nat) : Int), .int .i64 0] 99), (gg32, .cells cur35 5), (g30, .cells cur44 5)]) (fun φ64 => []) s trivial (fun φ64 => by kernel_rfl) ?_
        intro φ64 w64 s
        refine call_rule (some 96) s (err_nil) (by kernel_rfl) ?_
        intro v65 I65 w65 le65 h65 s
        replace hl := BSl.mono le65 hl
        replace hb9 := BSl.mono le65 hb9
        replace hb13 := BSl.mono le65 hb13
        replace hle17 := leMono le65 hle17
        replace h43_0 := BSl.mono le65 h43_0
        replace hb45 := BSl.mono le65 hb45
        obtain rfl := h65
        refine ops_rule (C := []) [(b9, .cells #[.slice a9 (((l.take (min l.length 20))).length) c9, .int .i64 ((0 + 64 : Nat) : Int), .int .i64 0] 99), (b45, .cells #[.slice a45 (List.length (pk (putBits n0 64))) c45, .int .i64 ((0 + 64 : Nat) : Int), .int .i64 0] 99), (b26, .cells #[.slice (some ⟨g30, 0, none⟩) ((pk (putBits n0 64)).length) cap30, .int .i64 ((0 + 64 : Nat) : Int)] 96), (b13, .cells #[.slice a13 (((l.take (min l.length 20))).length) c13, .int .i64 ((0 + 64 : Nat) : Int), .int .i64 0] 99), (gg32, .cells cur35 5), (g30, .cells cur44 5)] [] 4 [] 0 (fun φ66 => [(100, .pointer none), (99, .bool true), (98, .bool true), (97, .bool true)]) (fun φ66 => [(b9, .cells #[.slice a9 (((l.take (min l.length 20))).length) c9, .int .i64 ((0 + 64 : Nat) : Int), .int .i64 0] 99), (b45, .cells #[.slice a45 (List.length (pk (putBits n0 64))) c45, .int .i64 ((0 + 64 : Nat) : Int), .int .i64 0] 99), (b26, .cells #[.slice (some ⟨g30, 0, none⟩) ((pk (putBits n0 64)).length) cap30, .int .i64 ((0 + 64 : Nat) : Int)] 96), (b13, .cells #[.slice a13 (((l.take (min l.length 20))).length) c13, .int .i64 ((0 + 64 : Nat) : Int), .int .i64 0] 99), (gg32, .cells cur35 5), (g30, .cells cur44 5)]) (fun φ66 => []) s trivial (fun φ66 => by kernel_rfl) ?_
        intro φ66 w66 s
        refine call_rule (some 101) s (end_nil) (by kernel_rfl) ?_
        intro v67 I67 w67 le67 h67 s
        replace hl := BSl.mono le67 hl
        replace hb9 := BSl.mono le67 hb9
        replace hb13 := BSl.mono le67 hb13
        replace hle17 := leMono le67 hle17
        replace h43_0 := BSl.mono le67 h43_0
        replace hb45 := BSl.mono le67 hb45
        obtain rfl := h67
        refine ops_rule (C := []) [(b9, .cells #[.slice a9 (((l.take (min l.length 20))).length) c9, .int .i64 ((0 + 64 : Nat) : Int), .int .i64 0] 99), (b45, .cells #[.slice a45 (List.length (pk (putBits n0 64))) c45, .int .i64 ((0 + 64 : Nat) : Int), .int .i64 0] 99), (b26, .cells #[.slice (some ⟨g30, 0, none⟩) ((pk (putBits n0 64)).length) cap30, .int .i64 ((0 + 64 : Nat) : Int)] 96), (b13, .cells #[.slice a13 (((l.take (min l.length 20))).length) c13, .int .i64 ((0 + 64 : Nat) : Int), .int .i64 0] 99), (gg32, .cells cur35 5), (g30, .cells cur44 5)] [] 3 [] 0 (fun φ68 => [(4, .bool true), (103, .bool true), (102, .bool true)]) (fun φ68 => [(b9, .cells #[.slice a9 (((l.take (min l.length 20))).length) c9, .int .i64 ((0 + 64 : Nat) : Int), .int .i64 0] 99), (b45, .cells #[.slice a45 (List.length (pk (putBits n0 64))) c45, .int .i64 ((0 + 64 : Nat) : Int), .int .i64 0] 99), (b26, .cells #[.slice (some ⟨g30, 0, none⟩) ((pk (putBits n0 64)).length) cap30, .int .i64 ((0 + 64 : Nat) : Int)] 96), (b13, .cells #[.slice a13 (((l.take (min l.length 20))).length) c13, .int .i64 ((0 + 64 : Nat) : Int), .int .i64 0] 99), (gg32, .cells cur35 5), (g30, .cells cur44 5)]) (fun φ68 => []) s trivial (fun φ68 => by kernel_rfl) ?_
        intro φ68 w68 s
        refine ops_done (by kernel_rfl) ?_
        refine wp_ret ?_
        refine ret_rule (C := []) [(b9, .cells #[.slice a9 (((l.take (min l.length 20))).length) c9, .int .i64 ((0 + 64 : Nat) : Int), .int .i64 0] 99), (b45, .cells #[.slice a45 (List.length (pk (putBits n0 64))) c45, .int .i64 ((0 + 64 : Nat) : Int), .int .i64 0] 99), (b26, .cells #[.slice (some ⟨g30, 0, none⟩) ((pk (putBits n0 64)).length) cap30, .int .i64 ((0 + 64 : Nat) : Int)] 96), (b13, .cells #[.slice a13 (((l.take (min l.length 20))).length) c13, .int .i64 ((0 + 64 : Nat) : Int), .int .i64 0] 99), (gg32, .cells cur35 5), (g30, .cells cur44 5)] [] (.bool true) [] [] s trivial (by kernel_rfl) ?_
        exact ⟨_, _, _, rfl, s, rfl⟩
      ·
        exact absurd (rdN hn) (of_decide_eq_false hc53)
    ·
      refine ops_rule (C := []) [(b9, .cells #[.slice a9 (((l.take (min l.length 20))).length) c9, .int .i64 ((0 + 64 : Nat) : Int), .int .i64 0] 99), (b45, .cells #[.slice a45 (List.length (pk (putBits n0 64))) c45, .int .i64 ((0 + 64 : Nat) : Int), .int .i64 0] 99), (b26, .cells #[.slice (some ⟨g30, 0, none⟩) ((pk (putBits n0 64)).length) cap30, .int .i64 ((0 + 64 : Nat) : Int)] 96), (b13, .cells #[.slice a13 (((l.take (min l.length 20))).length) c13, .int .i64 ((0 + 64 : Nat) : Int), .int .i64 0] 99), (gg32, .cells cur35 5), (g30, .cells cur44 5)] [] 5 [] 0 (fun φ69 => [(68, .bool (((rd (pk (putBits n0 64)) 0 64 : Nat) : Int) == ((n0 : Nat) : Int))), (67, .bool (((rd (pk (putBits n0 64)) 0 64 : Nat) : Int) == ((n0 : Nat) : Int))), (66, .bool (((rd (pk (putBits n0 64)) 0 64 : Nat) : Int) == ((n0 : Nat) : Int))), (65, .int .u64 ((n0 : Nat) : Int)), (64, .int .u64 ((rd (pk (putBits n0 64)) 0 64 : Nat) : Int))]) (fun φ69 => [(b9, .cells #[.slice a9 (((l.take (min l.length 20))).length) c9, .int .i64 ((0 + 64 : Nat) : Int), .int .i64 0] 99), (b45, .cells #[.slice a45 (List.length (pk (putBits n0 64))) c45, .int .i64 ((0 + 64 : Nat) : Int), .int .i64 0] 99), (b26, .cells #[.slice (some ⟨g30, 0, none⟩) ((pk (putBits n0 64)).length) cap30, .int .i64 ((0 + 64 : Nat) : Int)] 96), (b13, .cells #[.slice a13 (((l.take (min l.length 20))).length) c13, .int .i64 ((0 + 64 : Nat) : Int), .int .i64 0] 99), (gg32, .cells cur35 5), (g30, .cells cur44 5)]) (fun φ69 => []) s trivial (fun φ69 => by kernel_rfl) ?_
      intro φ69 w69 s
      rw [nat_eql (a := (rd (pk (putBits n0 64)) 0 64)) (b := n0)]
      rcases Bool.eq_false_or_eq_true (decide ((rd (pk (putBits n0 64)) 0 64) = n0)) with hc70 | hc70
      ·
        rw [hc70]
        refine ops_rule (C := []) [(b9, .cells #[.slice a9 (((l.take (min l.length 20))).length) c9, .int .i64 ((0 + 64 : Nat) : Int), .int .i64 0] 99), (b45, .cells #[.slice a45 (List.length (pk (putBits n0 64))) c45, .int .i64 ((0 + 64 : Nat) : Int), .int .i64 0] 99), (b26, .cells #[.slice (some ⟨g30, 0, none⟩) ((pk (putBits n0 64)).length) cap30, .int .i64 ((0 + 64 : Nat) : Int)] 96), (b13, .cells #[.slice a13 (((l.take (min l.length 20))).length) c13, .int .i64 ((0 + 64 : Nat) : Int), .int .i64 0] 99), (gg32, .cells cur35 5), (g30, .cells cur44 5)] [] 1 [] 0 (fun φ71 => [(69, .pointer none)]) (fun φ71 => [(b9, .cells #[.slice a9 (((l.take (min l.length 20))).length) c9, .int .i64 ((0 + 64 : Nat) : Int), .int .i64 0] 99), (b45, .cells #[.slice a45 (List.length (pk (putBits n0 64))) c45, .int .i64 ((0 + 64 : Nat) : Int), .int .i64 0] 99), (b26, .cells #[.slice (some ⟨g30, 0, none⟩) ((pk (putBits n0 64)).length) cap30, .int .i64 ((0 + 64 : Nat) : Int)] 96), (b13, .cells #[.slice a13 (((l.take (min l.length 20))).length) c13, .int .i64 ((0 + 64 : Nat) : Int), .int .i64 0] 99), (gg32, .cells cur35 5), (g30, .cells cur44 5)]) (fun φ71 => []) s trivial (fun φ71 => by kernel_rfl) ?_
        intro φ71 w71 s
        refine call_rule (some 70) s (lenW_nil) (by kernel_rfl) ?_
        intro v72 I72 w72 le72 h72 s
        replace hl := BSl.mono le72 hl
        replace hb9 := BSl.mono le72 hb9
        replace hb13 := BSl.mono le72 hb13
        replace hle17 := leMono le72 hle17
        replace h43_0 := BSl.mono le72 h43_0
        replace hb45 := BSl.mono le72 hb45
        obtain rfl := h72
        refine ops_rule (C := []) [(b9, .cells #[.slice a9 (((l.take (min l.length 20))).length) c9, .int .i64 ((0 + 64 : Nat) : Int), .int .i64 0] 99), (b45, .cells #[.slice a45 (List.length (pk (putBits n0 64))) c45, .int .i64 ((0 + 64 : Nat) : Int), .int .i64 0] 99), (b26, .cells #[.slice (some ⟨g30, 0, none⟩) ((pk (putBits n0 64)).length) cap30, .int .i64 ((0 + 64 : Nat) : Int)] 96), (b13, .cells #[.slice a13 (((l.take (min l.length 20))).length) c13, .int .i64 ((0 + 64 : Nat) : Int), .int .i64 0] 99), (gg32, .cells cur35 5), (g30, .cells cur44 5)] [] 4 [] 0 (fun φ73 => [(74, .pointer none), (73, .bool true), (72, .bool true), (71, .bool true)]) (fun φ73 => [(b9, .cells #[.slice a9 (((l.take (min l.length 20))).length) c9, .int .i64 ((0 + 64 : Nat) : Int), .int .i64 0] 99), (b45, .cells #[.slice a45 (List.length (pk (putBits n0 64))) c45, .int .i64 ((0 + 64 : Nat) : Int), .int .i64 0] 99), (b26, .cells #[.slice (some ⟨g30, 0, none⟩) ((pk (putBits n0 64)).length) cap30, .int .i64 ((0 + 64 : Nat) : Int)] 96), (b13, .cells #[.slice a13 (((l.take (min l.length 20))).length) c13, .int .i64 ((0 + 64 : Nat) : Int), .int .i64 0] 99), (gg32, .cells cur35 5), (g30, .cells cur44 5)]) (fun φ73 => []) s trivial (fun φ73 => by kernel_rfl) ?_
        intro φ73 w73 s
        refine call_rule (some 75) s (bytes_nil) (by kernel_rfl) ?_
        intro v74 I74 w74 le74 h74 s
        replace hl := BSl.mono le74 hl
        replace hb9 := BSl.mono le74 hb9
        replace hb13 := BSl.mono le74 hb13
        replace hle17 := leMono le74 hle17
        replace h43_0 := BSl.mono le74 h43_0
        replace hb45 := BSl.mono le74 hb45
        obtain rfl := h74
        refine ops_rule (C := []) [(b9, .cells #[.slice a9 (((l.take (min l.length 20))).length) c9, .int .i64 ((0 + 64 : Nat) : Int), .int .i64 0] 99), (b45, .cells #[.slice a45 (List.length (pk (putBits n0 64))) c45, .int .i64 ((0 + 64 : Nat) : Int), .int .i64 0] 99), (b26, .cells #[.slice (some ⟨g30, 0, none⟩) ((pk (putBits n0 64)).length) cap30, .int .i64 ((0 + 64 : Nat) : Int)] 96), (b13, .cells #[.slice a13 (((l.take (min l.length 20))).length) c13, .int .i64 ((0 + 64 : Nat) : Int), .int .i64 0] 99), (gg32, .cells cur35 5), (g30, .cells cur44 5)] [] 5 [] 0 (fun φ75 => [(80, .pointer none), (79, .bool true), (78, .bool true), (77, .bool true), (76, .int .i64 0)]) (fun φ75 => [(b9, .cells #[.slice a9 (((l.take (min l.length 20))).length) c9, .int .i64 ((0 + 64 : Nat) : Int), .int .i64 0] 99), (b45, .cells #[.slice a45 (List.length (pk (putBits n0 64))) c45, .int .i64 ((0 + 64 : Nat) : Int), .int .i64 0] 99), (b26, .cells #[.slice (some ⟨g30, 0, none⟩) ((pk (putBits n0 64)).length) cap30, .int .i64 ((0 + 64 : Nat) : Int)] 96), (b13, .cells #[.slice a13 (((l.take (min l.length 20))).length) c13, .int .i64 ((0 + 64 : Nat) : Int), .int .i64 0] 99), (gg32, .cells cur35 5), (g30, .cells cur44 5)]) (fun φ75 => []) s trivial (fun φ75 => by kernel_rfl) ?_
        intro φ75 w75 s
        refine call_rule (some 81) s (get_nil (k := 5) (by have hP20 : ((l.take (min l.length 20))).length ≤ 20 := (by simp only [List.length_take]; omega); have hpk8 : (pk (putBits n0 64)).length = 8 := (by rw [pk_len, putBits_len]); have hq7 := hi18_1; have hq0 := of_decide_eq_false hc20; have hq2 := of_decide_eq_true hc70; omega)) (by kernel_rfl) ?_
        intro v76 I76 w76 le76 h76 s
        replace hl := BSl.mono le76 hl
        replace hb9 := BSl.mono le76 hb9
        replace hb13 := BSl.mono le76 hb13
        replace hle17 := leMono le76 hle17
        replace h43_0 := BSl.mono le76 h43_0
        replace hb45 := BSl.mono le76 hb45
        obtain rfl := h76
        refine ops_rule (C := []) [(b9, .cells #[.slice a9 (((l.take (min l.length 20))).length) c9, .int .i64 ((0 + 64 : Nat) : Int), .int .i64 0] 99), (b45, .cells #[.slice a45 (List.length (pk (putBits n0 64))) c45, .int .i64 ((0 + 64 : Nat) : Int), .int .i64 0] 99), (b26, .cells #[.slice (some ⟨g30, 0, none⟩) ((pk (putBits n0 64)).length) cap30, .int .i64 ((0 + 64 : Nat) : Int)] 96), (b13, .cells #[.slice a13 (((l.take (min l.length 20))).length) c13, .int .i64 ((0 + 64 : Nat) : Int), .int .i64 0] 99), (gg32, .cells cur35 5), (g30, .cells cur44 5)] [] 4 [] 0 (fun φ77 => [(85, .pointer none), (84, .bool true), (83, .bool true), (82, .bool true)]) (fun φ77 => [(b9, .cells #[.slice a9 (((l.take (min l.length 20))).length) c9, .int .i64 ((0 + 64 : Nat) : Int), .int .i64 0] 99), (b45, .cells #[.slice a45 (List.length (pk (putBits n0 64))) c45, .int .i64 ((0 + 64 : Nat) : Int), .int .i64 0] 99), (b26, .cells #[.slice (some ⟨g30, 0, none⟩) ((pk (putBits n0 64)).length) cap30, .int .i64 ((0 + 64 : Nat) : Int)] 96), (b13, .cells #[.slice a13 (((l.take (min l.length 20))).length) c13, .int .i64 ((0 + 64 : Nat) : Int), .int .i64 0] 99), (gg32, .cells cur35 5), (g30, .cells cur44 5)]) (fun φ77 => []) s trivial (fun φ77 => by kernel_rfl) ?_
        intro φ77 w77 s
        refine call_rule (some 86) s (numR_nil) (by kernel_rfl) ?_
        intro v78 I78 w78 le78 h78 s
        replace hl := BSl.mono le78 hl
        replace hb9 := BSl.mono le78 hb9
        replace hb13 := BSl.mono le78 hb13
        replace hle17 := leMono le78 hle17
        replace h43_0 := BSl.mono le78 h43_0
        replace hb45 := BSl.mono le78 hb45
        obtain rfl := h78
        refine ops_rule (C := []) [(b9, .cells #[.slice a9 (((l.take (min l.length 20))).length) c9, .int .i64 ((0 + 64 : Nat) : Int), .int .i64 0] 99), (b45, .cells #[.slice a45 (List.length (pk (putBits n0 64))) c45, .int .i64 ((0 + 64 : Nat) : Int), .int .i64 0] 99), (b26, .cells #[.slice (some ⟨g30, 0, none⟩) ((pk (putBits n0 64)).length) cap30, .int .i64 ((0 + 64 : Nat) : Int)] 96), (b13, .cells #[.slice a13 (((l.take (min l.length 20))).length) c13, .int .i64 ((0 + 64 : Nat) : Int), .int .i64 0] 99), (gg32, .cells cur35 5), (g30, .cells cur44 5)] [] 4 [] 0 (fun φ79 => [(90, .pointer none), (89, .bool true), (88, .bool true), (87, .bool true)]) (fun φ79 => [(b9, .cells #[.slice a9 (((l.take (min l.length 20))).length) c9, .int .i64 ((0 + 64 : Nat) : Int), .int .i64 0] 99), (b45, .cells #[.slice a45 (List.length (pk (putBits n0 64))) c45, .int .i64 ((0 + 64 : Nat) : Int), .int .i64 0] 99), (b26, .cells #[.slice (some ⟨g30, 0, none⟩) ((pk (putBits n0 64)).length) cap30, .int .i64 ((0 + 64 : Nat) : Int)] 96), (b13, .cells #[.slice a13 (((l.take (min l.length 20))).length) c13, .int .i64 ((0 + 64 : Nat) : Int), .int .i64 0] 99), (gg32, .cells cur35 5), (g30, .cells cur44 5)]) (fun φ79 => []) s trivial (fun φ79 => by kernel_rfl) ?_
        intro φ79 w79 s
        refine call_rule (some 91) s (left_nil) (by kernel_rfl) ?_
        intro v80 I80 w80 le80 h80 s
        replace hl := BSl.mono le80 hl
        replace hb9 := BSl.mono le80 hb9
        replace hb13 := BSl.mono le80 hb13
        replace hle17 := leMono le80 hle17
        replace h43_0 := BSl.mono le80 h43_0
        replace hb45 := BSl.mono le80 hb45
        obtain rfl := h80
        refine ops_rule (C := []) [(b9, .cells #[.slice a9 (((l.take (min l.length 20))).length) c9, .int .i64 ((0 + 64 : Nat) : Int), .int .i64 0] 99), (b45, .cells #[.slice a45 (List.length (pk (putBits n0 64))) c45, .int .i64 ((0 + 64 : Nat) : Int), .int .i64 0] 99), (b26, .cells #[.slice (some ⟨g30, 0, none⟩) ((pk (putBits n0 64)).length) cap30, .int .i64 ((0 + 64 : Nat) : Int)] 96), (b13, .cells #[.slice a13 (((l.take (min l.length 20))).length) c13, .int .i64 ((0 + 64 : Nat) : Int), .int .i64 0] 99), (gg32, .cells cur35 5), (g30, .cells cur44 5)] [] 4 [] 0 (fun φ81 => [(95, .pointer none), (94, .bool true), (93, .bool true), (92, .bool true)]) (fun φ81 => [(b9, .cells #[.slice a9 (((l.take (min l.length 20))).length) c9, .int .i64 ((0 + 64 : Nat) : Int), .int .i64 0] 99), (b45, .cells #[.slice a45 (List.length (pk (putBits n0 64))) c45, .int .i64 ((0 + 64 : Nat) : Int), .int .i64 0] 99), (b26, .cells #[.slice (some ⟨g30, 0, none⟩) ((pk (putBits n0 64)).length) cap30, .int .i64 ((0 + 64 : Nat) : Int)] 96), (b13, .cells #[.slice a13 (((l.take (min l.length 20))).length) c13, .int .i64 ((0 + 64 : Nat) : Int), .int .i64 0] 99), (gg32, .cells cur35 5), (g30, .cells cur44 5)]) (fun φ81 => []) s trivial (fun φ81 => by kernel_rfl) ?_
        intro φ81 w81 s
        refine call_rule (some 96) s (err_nil) (by kernel_rfl) ?_
        intro v82 I82 w82 le82 h82 s
        replace hl := BSl.mono le82 hl
        replace hb9 := BSl.mono le82 hb9
        replace hb13 := BSl.mono le82 hb13
        replace hle17 := leMono le82 hle17
        replace h43_0 := BSl.mono le82 h43_0
        replace hb45 := BSl.mono le82 hb45
        obtain rfl := h82
        refine ops_rule (C := []) [(b9, .cells #[.slice a9 (((l.take (min l.length 20))).length) c9, .int .i64 ((0 + 64 : Nat) : Int), .int .i64 0] 99), (b45, .cells #[.slice a45 (List.length (pk (putBits n0 64))) c45, .int .i64 ((0 + 64 : Nat) : Int), .int .i64 0] 99), (b26, .cells #[.slice (some ⟨g30, 0, none⟩) ((pk (putBits n0 64)).length) cap30, .int .i64 ((0 + 64 : Nat) : Int)] 96), (b13, .cells #[.slice a13 (((l.take (min l.length 20))).length) c13, .int .i64 ((0 + 64 : Nat) : Int), .int .i64 0] 99), (gg32, .cells cur35 5), (g30, .cells cur44 5)] [] 4 [] 0 (fun φ83 => [(100, .pointer none), (99, .bool true), (98, .bool true), (97, .bool true)]) (fun φ83 => [(b9, .cells #[.slice a9 (((l.take (min l.length 20))).length) c9, .int .i64 ((0 + 64 : Nat) : Int), .int .i64 0] 99), (b45, .cells #[.slice a45 (List.length (pk (putBits n0 64))) c45, .int .i64 ((0 + 64 : Nat) : Int), .int .i64 0] 99), (b26, .cells #[.slice (some ⟨g30, 0, none⟩) ((pk (putBits n0 64)).length) cap30, .int .i64 ((0 + 64 : Nat) : Int)] 96), (b13, .cells #[.slice a13 (((l.take (min l.length 20))).length) c13, .int .i64 ((0 + 64 : Nat) : Int), .int .i64 0] 99), (gg32, .cells cur35 5), (g30, .cells cur44 5)]) (fun φ83 => []) s trivial (fun φ83 => by kernel_rfl) ?_
        intro φ83 w83 s
        refine call_rule (some 101) s (end_nil) (by kernel_rfl) ?_
        intro v84 I84 w84 le84 h84 s
        replace hl := BSl.mono le84 hl
        replace hb9 := BSl.mono le84 hb9
        replace hb13 := BSl.mono le84 hb13
        replace hle17 := leMono le84 hle17
        replace h43_0 := BSl.mono le84 h43_0
        replace hb45 := BSl.mono le84 hb45
        obtain rfl := h84
        refine ops_rule (C := []) [(b9, .cells #[.slice a9 (((l.take (min l.length 20))).length) c9, .int .i64 ((0 + 64 : Nat) : Int), .int .i64 0] 99), (b45, .cells #[.slice a45 (List.length (pk (putBits n0 64))) c45, .int .i64 ((0 + 64 : Nat) : Int), .int .i64 0] 99), (b26, .cells #[.slice (some ⟨g30, 0, none⟩) ((pk (putBits n0 64)).length) cap30, .int .i64 ((0 + 64 : Nat) : Int)] 96), (b13, .cells #[.slice a13 (((l.take (min l.length 20))).length) c13, .int .i64 ((0 + 64 : Nat) : Int), .int .i64 0] 99), (gg32, .cells cur35 5), (g30, .cells cur44 5)] [] 3 [] 0 (fun φ85 => [(4, .bool true), (103, .bool true), (102, .bool true)]) (fun φ85 => [(b9, .cells #[.slice a9 (((l.take (min l.length 20))).length) c9, .int .i64 ((0 + 64 : Nat) : Int), .int .i64 0] 99), (b45, .cells #[.slice a45 (List.length (pk (putBits n0 64))) c45, .int .i64 ((0 + 64 : Nat) : Int), .int .i64 0] 99), (b26, .cells #[.slice (some ⟨g30, 0, none⟩) ((pk (putBits n0 64)).length) cap30, .int .i64 ((0 + 64 : Nat) : Int)] 96), (b13, .cells #[.slice a13 (((l.take (min l.length 20))).length) c13, .int .i64 ((0 + 64 : Nat) : Int), .int .i64 0] 99), (gg32, .cells cur35 5), (g30, .cells cur44 5)]) (fun φ85 => []) s trivial (fun φ85 => by kernel_rfl) ?_
        intro φ85 w85 s
        refine ops_done (by kernel_rfl) ?_
        refine wp_ret ?_
        refine ret_rule (C := []) [(b9, .cells #[.slice a9 (((l.take (min l.length 20))).length) c9, .int .i64 ((0 + 64 : Nat) : Int), .int .i64 0] 99), (b45, .cells #[.slice a45 (List.length (pk (putBits n0 64))) c45, .int .i64 ((0 + 64 : Nat) : Int), .int .i64 0] 99), (b26, .cells #[.slice (some ⟨g30, 0, none⟩) ((pk (putBits n0 64)).length) cap30, .int .i64 ((0 + 64 : Nat) : Int)] 96), (b13, .cells #[.slice a13 (((l.take (min l.length 20))).length) c13, .int .i64 ((0 + 64 : Nat) : Int), .int .i64 0] 99), (gg32, .cells cur35 5), (g30, .cells cur44 5)] [] (.bool true) [] [] s trivial (by kernel_rfl) ?_
        exact ⟨_, _, _, rfl, s, rfl⟩
      ·
        exact absurd (rdN hn) (of_decide_eq_false hc70)

set_option maxHeartbeats 4000000 in
theorem bitsNil_short {I : IM} {l : List UInt8} {a : Option Addr} {c : Nat} (hl : BSl I l (.slice a l.length c)) {n0 : Nat} (hn : n0 < 18446744073709551616) (h8 : ¬ 8 ≤ ((l.take (min l.length 20))).length) : Fun Try.prog 6 #[.slice a l.length c, .int .u64 ((n0 : Nat) : Int)] I (fun v J => v = .bool true) := by
  refine enter_rule 104 [(0, .slice a l.length c), (1, .int .u64 ((n0 : Nat) : Int))] Try.func6 rfl (by kernel_rfl) ?_
  intro w s
  refine wp_seq ?_
  refine region_rule ?_
  refine ops_rule (C := []) [] [] 1 [] 0 (fun φ1 => [(4, .bool false)]) (fun φ1 => []) (fun φ1 => []) s trivial (fun φ1 => by kernel_rfl) ?_
  intro φ1 w1 s
  refine ops_done (by kernel_rfl) ?_
  refine wp_seq ?_
  refine wp_seq ?_
  refine region_rule ?_
  refine call_rule (some 13) s (awake5_c) (by kernel_rfl) ?_
  intro v2 I2 w2 le2 h2 s
  replace hl := BSl.mono le2 hl
  obtain rfl := h2
  refine ops_rule (C := []) [] [] 1 [] 0 (fun φ3 => [(14, .bool false)]) (fun φ3 => []) (fun φ3 => []) s trivial (fun φ3 => by kernel_rfl) ?_
  intro φ3 w3 s
  refine ops_done (by kernel_rfl) ?_
  refine cond_false_rule (b := false) (by kernel_rfl) rfl ?_
  refine wp_skip ?_
  refine wp_seq ?_
  refine region_rule ?_
  refine ops_rule (C := []) [] [] 4 [] 0 (fun φ4 => [(18, .int .i64 (if ((20 : Nat) : Int) < ((l.length : Nat) : Int) then ((20 : Nat) : Int) else ((l.length : Nat) : Int))), (17, .int .i64 ((l.length : Nat) : Int)), (16, .slice a l.length c), (15, .slice a l.length c)]) (fun φ4 => []) (fun φ4 => []) s trivial (fun φ4 => by kernel_rfl) ?_
  intro φ4 w4 s
  rw [nat_min (a := l.length) (b := 20)]
  refine sem_rule (Instr.sliceAt 34 (.slice a l.length c) none (some (.int .i64 ((min l.length 20 : Nat) : Int))) none) (some 19) (.slice a (min l.length 20) c) (by kernel_rfl) (run_to (by have hcp := (BSl.cap hl).2; (try simp only [List.length_drop, List.length_take, List.length_append, List.length_cons, List.length_nil] at hcp ⊢); have hP20 : ((l.take (min l.length 20))).length ≤ 20 := (by simp only [List.length_take]; omega); have hpk8 : (pk (putBits n0 64)).length = 8 := (by rw [pk_len, putBits_len]);   omega)) ?_
  refine callF_rule (H := []) (F := []) (some 20) s (bclone_r (bsl_to (hi := min l.length 20) hl (by have hcp := (BSl.cap hl).2; (try simp only [List.length_drop, List.length_take, List.length_append, List.length_cons, List.length_nil] at hcp ⊢); have hP20 : ((l.take (min l.length 20))).length ≤ 20 := (by simp only [List.length_take]; omega); have hpk8 : (pk (putBits n0 64)).length = 8 := (by rw [pk_len, putBits_len]);   omega)) (by simp only [List.length_take]; omega)) (by kernel_rfl) ?_
  intro v5 I5 w5 F5 le5 h5 s
  replace hl := BSl.mono le5 hl
  refine ops_rule (C := []) [] F5 1 [] 0 (fun φ6 => [(0, v5)]) (fun φ6 => []) (fun φ6 => []) s trivial (fun φ6 => by kernel_rfl) ?_
  intro φ6 w6 s
  refine ops_done (by kernel_rfl) ?_
  refine wp_seq ?_
  refine region_rule ?_
  refine ops_rule (C := []) [] F5 1 [] 0 (fun φ7 => [(21, v5)]) (fun φ7 => []) (fun φ7 => []) s trivial (fun φ7 => by kernel_rfl) ?_
  intro φ7 w7 s
  obtain ⟨Ip8, hle8, hsub8, a8, c8, hv8, hB8⟩ := row_lendF (H := []) (F := F5) s h5
  subst hv8
  refine callLF_rule (H := ([] ++ F5)) (R := fun v F' => ∃ b v' F2, v = .pointer (some ⟨b, 0, none⟩) ∧ F' = (b, .cells #[v', .int .i64 0, .int .i64 0] 99) :: F2 ∧ RowH 5 1 v' ((l.take (min l.length 20))).length (((l.take (min l.length 20))).map bV) F2) (some 22) s (Ip8) hle8 hsub8 (newReader_r hB8 (by (try simp only [List.length_take, pk_len, putBits_len]); omega)) (by kernel_rfl) ?_
  rintro v9 w9 F9 ⟨b9, vv9, FF9, rfl, rfl, hr9⟩ s
  obtain ⟨I9, le9, hb9, s⟩ := freeze_row (H := [] ++ ((b9, .cells #[vv9, .int .i64 0, .int .i64 0] 99) :: F5)) (F := FF9) (s.perm perm_ins) hr9
  replace hl := BSl.mono le9 hl
  obtain ⟨a9, c9, hv9, hc9, hb9⟩ := hb9.open
  subst hv9
  refine ops_rule (C := []) [(b9, .cells #[.slice a9 (((l.take (min l.length 20))).length) c9, .int .i64 0, .int .i64 0] 99)] F5 1 [] 0 (fun φ10 => [(5, .pointer (some ⟨b9, 0, none⟩))]) (fun φ10 => [(b9, .cells #[.slice a9 (((l.take (min l.length 20))).length) c9, .int .i64 0, .int .i64 0] 99)]) (fun φ10 => []) s trivial (fun φ10 => by kernel_rfl) ?_
  intro φ10 w10 s
  refine ops_done (by kernel_rfl) ?_
  refine wp_seq ?_
  refine region_rule ?_
  refine ops_rule (C := []) [(b9, .cells #[.slice a9 (((l.take (min l.length 20))).length) c9, .int .i64 0, .int .i64 0] 99)] F5 1 [] 0 (fun φ11 => [(23, .slice a8 (((l.take (min l.length 20))).length) c8)]) (fun φ11 => [(b9, .cells #[.slice a9 (((l.take (min l.length 20))).length) c9, .int .i64 0, .int .i64 0] 99)]) (fun φ11 => []) s trivial (fun φ11 => by kernel_rfl) ?_
  intro φ11 w11 s
  obtain ⟨Ip12, hle12, hsub12, a12, c12, hv12, hB12⟩ := row_lendF (H := [(b9, .cells #[.slice a9 (((l.take (min l.length 20))).length) c9, .int .i64 0, .int .i64 0] 99)]) (F := F5) s h5
  cases hv12
  refine callLF_rule (H := ([(b9, .cells #[.slice a9 (((l.take (min l.length 20))).length) c9, .int .i64 0, .int .i64 0] 99)] ++ F5)) (R := fun v F' => ∃ b v' F2, v = .pointer (some ⟨b, 0, none⟩) ∧ F' = (b, .cells #[v', .int .i64 0, .int .i64 0] 99) :: F2 ∧ RowH 5 1 v' ((l.take (min l.length 20))).length (((l.take (min l.length 20))).map bV) F2) (some 24) s (Ip12) hle12 hsub12 (newReader_r hB12 (by (try simp only [List.length_take, pk_len, putBits_len]); omega)) (by kernel_rfl) ?_
  rintro v13 w13 F13 ⟨b13, vv13, FF13, rfl, rfl, hr13⟩ s
  obtain ⟨I13, le13, hb13, s⟩ := freeze_row (H := [(b9, .cells #[.slice a9 (((l.take (min l.length 20))).length) c9, .int .i64 0, .int .i64 0] 99)] ++ ((b13, .cells #[vv13, .int .i64 0, .int .i64 0] 99) :: F5)) (F := FF13) (s.perm perm_ins) hr13
  replace hl := BSl.mono le13 hl
  replace hb9 := BSl.mono le13 hb9
  obtain ⟨a13, c13, hv13, hc13, hb13⟩ := hb13.open
  subst hv13
  refine callB_rule (b := (b13, .cells #[.slice a13 (((l.take (min l.length 20))).length) c13, .int .i64 0, .int .i64 0] 99)) (H := [(b9, .cells #[.slice a9 (((l.take (min l.length 20))).length) c9, .int .i64 0, .int .i64 0] 99), (b13, .cells #[.slice a13 (((l.take (min l.length 20))).length) c13, .int .i64 0, .int .i64 0] 99)]) (F := F5) (Hr := [(b9, .cells #[.slice a9 (((l.take (min l.length 20))).length) c9, .int .i64 0, .int .i64 0] 99)]) (some 25) 1 s (by kernel_rfl) (by kernel_rfl) (get_bad (r := b13) (p := 0) hb13 (by (try simp only [List.length_take, pk_len, putBits_len]); omega) (k := 64) (by have hP20 : ((l.take (min l.length 20))).length ≤ 20 := (by simp only [List.length_take]; omega); have hpk8 : (pk (putBits n0 64)).length = 8 := (by rw [pk_len, putBits_len]);   omega) (by omega) (by omega)) (by kernel_rfl) ?_
  rintro v14 I14 w14 b14 le14 - h14 s
  replace hl := BSl.mono le14 hl
  replace hb9 := BSl.mono le14 hb9
  replace hb13 := BSl.mono le14 hb13
  obtain ⟨rfl, rfl⟩ := h14
  refine ops_rule (C := []) [(b13, .cells #[.slice a13 (((l.take (min l.length 20))).length) c13, .int .i64 0, .int .i64 6] 99), (b9, .cells #[.slice a9 (((l.take (min l.length 20))).length) c9, .int .i64 0, .int .i64 0] 99)] F5 1 [] 0 (fun φ15 => [(6, .int .u64 0)]) (fun φ15 => [(b13, .cells #[.slice a13 (((l.take (min l.length 20))).length) c13, .int .i64 0, .int .i64 6] 99), (b9, .cells #[.slice a9 (((l.take (min l.length 20))).length) c9, .int .i64 0, .int .i64 0] 99)]) (fun φ15 => []) s trivial (fun φ15 => by kernel_rfl) ?_
  intro φ15 w15 s
  refine ops_done (by kernel_rfl) ?_
  refine wp_seq ?_
  refine wp_seq ?_
  refine region_rule ?_
  refine ops_rule (C := []) [(b13, .cells #[.slice a13 (((l.take (min l.length 20))).length) c13, .int .i64 0, .int .i64 6] 99), (b9, .cells #[.slice a9 (((l.take (min l.length 20))).length) c9, .int .i64 0, .int .i64 0] 99)] F5 3 [] 0 (fun φ16 => [(28, .int .i64 0), (27, .int .i64 ((((l.take (min l.length 20))).length : Nat) : Int)), (26, .slice a8 (((l.take (min l.length 20))).length) c8)]) (fun φ16 => [(b13, .cells #[.slice a13 (((l.take (min l.length 20))).length) c13, .int .i64 0, .int .i64 6] 99), (b9, .cells #[.slice a9 (((l.take (min l.length 20))).length) c9, .int .i64 0, .int .i64 0] 99)]) (fun φ16 => []) s trivial (fun φ16 => by kernel_rfl) ?_
  intro φ16 w16 s
  refine ops_done (by kernel_rfl) ?_
  refine wp_block ?_
  have hle17 := IM.Le.refl I14
  refine loop_rule (fun (x : Nat × List UInt8 × List OB) => [(0, .slice a8 (((l.take (min l.length 20))).length) c8), (1, .int .u64 ((n0 : Nat) : Int)), (5, .pointer (some ⟨b9, 0, none⟩)), (6, .int .u64 0), (27, .int .i64 ((((l.take (min l.length 20))).length : Nat) : Int)), (28, .int .i64 ((x.1 : Nat) : Int))]) (fun (x : Nat × List UInt8 × List OB) => [(b13, .cells #[.slice a13 (((l.take (min l.length 20))).length) c13, .int .i64 0, .int .i64 6] 99), (b9, .cells #[.slice a9 (((l.take (min l.length 20))).length) c9, .int .i64 0, .int .i64 0] 99)] ++ x.2.2) (fun m (x : Nat × List UInt8 × List OB) J => IM.Le I14 J ∧ x.1 + m = ((l.take (min l.length 20))).length ∧ List.length x.2.1 = ((l.take (min l.length 20))).length ∧ RowH 5 1 (.slice a8 (((l.take (min l.length 20))).length) c8) ((l.take (min l.length 20))).length (x.2.1.map bV) x.2.2) (((l.take (min l.length 20))).length) (0, (l.take (min l.length 20)), F5) s (by kernel_rfl) (List.Sublist.refl _) ⟨IM.Le.refl _, Nat.zero_add _, rfl, h5⟩ ?_
  rintro m18 ⟨i18, q18, F18⟩ I18 w18 ev18 s ⟨le18, hi18_0, hi18_1, hi18_2⟩
  try dsimp only at s hi18_0 hi18_1 hi18_2 ⊢
  replace hl := BSl.mono le18 hl
  replace hb9 := BSl.mono le18 hb9
  replace hb13 := BSl.mono le18 hb13
  replace hle17 := leMono le18 hle17
  refine wp_seq ?_
  refine region_rule ?_
  refine ops_rule (C := []) [(b13, .cells #[.slice a13 (((l.take (min l.length 20))).length) c13, .int .i64 0, .int .i64 6] 99), (b9, .cells #[.slice a9 (((l.take (min l.length 20))).length) c9, .int .i64 0, .int .i64 0] 99)] F18 1 [] 0 (fun φ19 => [(29, .bool (decide (((i18 : Nat) : Int) < ((((l.take (min l.length 20))).length : Nat) : Int))))]) (fun φ19 => [(b13, .cells #[.slice a13 (((l.take (min l.length 20))).length) c13, .int .i64 0, .int .i64 6] 99), (b9, .cells #[.slice a9 (((l.take (min l.length 20))).length) c9, .int .i64 0, .int .i64 0] 99)]) (fun φ19 => []) s trivial (fun φ19 => by kernel_rfl) ?_
  intro φ19 w19 s
  rw [nat_lss (a := i18) (b := (((l.take (min l.length 20))).length))]
  refine ops_done (by kernel_rfl) ?_
  refine wp_seq ?_
  rcases Bool.eq_false_or_eq_true (decide (i18 < (((l.take (min l.length 20))).length))) with hc20 | hc20
  ·
    rw [hc20]
    refine cond_true_rule (b := true) (by kernel_rfl) rfl ?_
    refine wp_skip ?_
    refine wp_seq ?_
    refine wp_block ?_
    refine wp_seq ?_
    refine region_rule ?_
    refine ops_rule (C := []) [(b13, .cells #[.slice a13 (((l.take (min l.length 20))).length) c13, .int .i64 0, .int .i64 6] 99), (b9, .cells #[.slice a9 (((l.take (min l.length 20))).length) c9, .int .i64 0, .int .i64 0] 99)] F18 2 [] 0 (fun φ21 => [(7, .int .i64 ((i18 : Nat) : Int)), (30, .int .i64 ((i18 : Nat) : Int))]) (fun φ21 => [(b13, .cells #[.slice a13 (((l.take (min l.length 20))).length) c13, .int .i64 0, .int .i64 6] 99), (b9, .cells #[.slice a9 (((l.take (min l.length 20))).length) c9, .int .i64 0, .int .i64 0] 99)]) (fun φ21 => []) s trivial (fun φ21 => by kernel_rfl) ?_
    intro φ21 w21 s
    refine ops_done (by kernel_rfl) ?_
    refine region_rule ?_
    refine ops_rule (C := []) [(b13, .cells #[.slice a13 (((l.take (min l.length 20))).length) c13, .int .i64 0, .int .i64 6] 99), (b9, .cells #[.slice a9 (((l.take (min l.length 20))).length) c9, .int .i64 0, .int .i64 0] 99)] F18 2 [] 0 (fun φ22 => [(32, .int .i64 ((i18 : Nat) : Int)), (31, .slice a8 (((l.take (min l.length 20))).length) c8)]) (fun φ22 => [(b13, .cells #[.slice a13 (((l.take (min l.length 20))).length) c13, .int .i64 0, .int .i64 6] 99), (b9, .cells #[.slice a9 (((l.take (min l.length 20))).length) c9, .int .i64 0, .int .i64 0] 99)]) (fun φ22 => []) s trivial (fun φ22 => by kernel_rfl) ?_
    intro φ22 w22 s
    obtain ⟨g23, cap23, cur23, hv23, hF23, hc23, hrow23⟩ := row_open hi18_2 (by have := of_decide_eq_true hc20; omega)
    cases hv23
    subst hF23
    refine sem_rule (Instr.indexAt 34 (.slice (some ⟨g23, 0, none⟩) (((l.take (min l.length 20))).length) c8) (.int .i64 ((i18 : Nat) : Int))) (some 33) (.pointer (some ⟨g23, i18, none⟩)) (by kernel_rfl) (row_idx (by have hP20 : ((l.take (min l.length 20))).length ≤ 20 := (by simp only [List.length_take]; omega); have hpk8 : (pk (putBits n0 64)).length = 8 := (by rw [pk_len, putBits_len]); have hq7 := hi18_1; have hq0 := of_decide_eq_true hc20; omega)) ?_
    refine sem_rule (Instr.loadAt 5 (.pointer (some ⟨g23, i18, none⟩))) (some 34) (.int .u8 (((q18.getD i18 0).toNat : Nat) : Int)) (by kernel_rfl) (row_ld s (by simp) hrow23 (by have hP20 : ((l.take (min l.length 20))).length ≤ 20 := (by simp only [List.length_take]; omega); have hpk8 : (pk (putBits n0 64)).length = 8 := (by rw [pk_len, putBits_len]); have hq7 := hi18_1; have hq0 := of_decide_eq_true hc20; omega)) ?_
    refine sem_rule (binOp .xor 5 (.int .u8 (((q18.getD i18 0).toNat : Nat) : Int)) (.int .u8 ((255 : Nat) : Int))) (some 35) (.int .u8 ((bxor 8 ((q18.getD i18 0).toNat) 255 : Nat) : Int)) (by kernel_rfl) (run_bit8.1) ?_
    refine sem_rule (Instr.indexAt 34 (.slice (some ⟨g23, 0, none⟩) (((l.take (min l.length 20))).length) c8) (.int .i64 ((i18 : Nat) : Int))) (some 36) (.pointer (some ⟨g23, i18, none⟩)) (by kernel_rfl) (row_idx (by have hP20 : ((l.take (min l.length 20))).length ≤ 20 := (by simp only [List.length_take]; omega); have hpk8 : (pk (putBits n0 64)).length = 8 := (by rw [pk_len, putBits_len]); have hq7 := hi18_1; have hq0 := of_decide_eq_true hc20; omega)) ?_
    obtain ⟨w24, cur24, hr24, s, hrow24⟩ := row_st (H := [(b13, .cells #[.slice a13 (((l.take (min l.length 20))).length) c13, .int .i64 0, .int .i64 6] 99), (b9, .cells #[.slice a9 (((l.take (min l.length 20))).length) c9, .int .i64 0, .int .i64 0] 99), (g23, .cells cur23 5)]) (q := 2) (i := i18) (x := bxor 8 ((q18.getD i18 0).toNat) 255) s (by kernel_rfl) hrow23 (by have hP20 : ((l.take (min l.length 20))).length ≤ 20 := (by simp only [List.length_take]; omega); have hpk8 : (pk (putBits n0 64)).length = 8 := (by rw [pk_len, putBits_len]); have hq7 := hi18_1; have hq0 := of_decide_eq_true hc20; omega) (bxor8_lt)
    refine semU_rule (Instr.storeAt 5 (.pointer (some ⟨g23, i18, none⟩)) (.int .u8 ((bxor 8 ((q18.getD i18 0).toNat) 255 : Nat) : Int))) none (by kernel_rfl) hr24 ?_
    refine ops_done (by kernel_rfl) ?_
    refine region_rule ?_
    refine ops_rule (C := []) [(b13, .cells #[.slice a13 (((l.take (min l.length 20))).length) c13, .int .i64 0, .int .i64 6] 99), (b9, .cells #[.slice a9 (((l.take (min l.length 20))).length) c9, .int .i64 0, .int .i64 0] 99), (g23, .cells cur24 5)] [] 2 [] 0 (fun φ25 => [(28, .int .i64 (IntKind.wrap .i64 (((i18 : Nat) : Int) + ((1 : Nat) : Int)))), (37, .int .i64 (IntKind.wrap .i64 (((i18 : Nat) : Int) + ((1 : Nat) : Int))))]) (fun φ25 => [(b13, .cells #[.slice a13 (((l.take (min l.length 20))).length) c13, .int .i64 0, .int .i64 6] 99), (b9, .cells #[.slice a9 (((l.take (min l.length 20))).length) c9, .int .i64 0, .int .i64 0] 99), (g23, .cells cur24 5)]) (fun φ25 => []) s trivial (fun φ25 => by kernel_rfl) ?_
    intro φ25 w25 s
    rw [nat_addI (a := i18) (b := 1) (by have hP20 : ((l.take (min l.length 20))).length ≤ 20 := (by simp only [List.length_take]; omega); have hpk8 : (pk (putBits n0 64)).length = 8 := (by rw [pk_len, putBits_len]); have hq7 := hi18_1; have hq0 := of_decide_eq_true hc20; omega)]
    refine ops_done (by kernel_rfl) ?_
    have hq9 := of_decide_eq_true hc20
    exact ⟨⟨m18 - 1, (i18 + 1, (q18.set i18 (UInt8.ofNat (bxor 8 ((q18.getD i18 0).toNat) 255))), [(g23, .cells cur24 5)]), _, _, _, by omega, rfl, s, (List.Sublist.refl _), by kernel_rfl, hle17, by show i18 + 1 + (m18 - 1) = ((l.take (min l.length 20))).length; omega, by show List.length (q18.set i18 (UInt8.ofNat (bxor 8 ((q18.getD i18 0).toNat) 255))) = _; rw [List.length_set]; exact hi18_1, hrow24⟩⟩
  ·
    rw [hc20]
    refine cond_false_rule (b := false) (by kernel_rfl) rfl ?_
    refine wp_exit ?_
    refine wp_seq ?_
    refine region_rule ?_
    replace s := s.drop (List.sublist_append_left [(b13, .cells #[.slice a13 (((l.take (min l.length 20))).length) c13, .int .i64 0, .int .i64 6] 99), (b9, .cells #[.slice a9 (((l.take (min l.length 20))).length) c9, .int .i64 0, .int .i64 0] 99)] F18)
    refine callF_rule (H := [(b13, .cells #[.slice a13 (((l.take (min l.length 20))).length) c13, .int .i64 0, .int .i64 6] 99), (b9, .cells #[.slice a9 (((l.take (min l.length 20))).length) c9, .int .i64 0, .int .i64 0] 99)]) (F := []) (some 38) s (newWriter_c) (by kernel_rfl) ?_
    rintro v26 I26 w26 F26 le26 ⟨b26, rfl, rfl⟩ s
    replace hl := BSl.mono le26 hl
    replace hb9 := BSl.mono le26 hb9
    replace hb13 := BSl.mono le26 hb13
    replace hle17 := leMono le26 hle17
    refine ops_rule (C := []) [(b13, .cells #[.slice a13 (((l.take (min l.length 20))).length) c13, .int .i64 0, .int .i64 6] 99), (b9, .cells #[.slice a9 (((l.take (min l.length 20))).length) c9, .int .i64 0, .int .i64 0] 99), (b26, .cells #[.slice none 0 0, .int .i64 0] 96)] [] 1 [] 0 (fun φ27 => [(8, .pointer (some ⟨b26, 0, none⟩))]) (fun φ27 => [(b13, .cells #[.slice a13 (((l.take (min l.length 20))).length) c13, .int .i64 0, .int .i64 6] 99), (b9, .cells #[.slice a9 (((l.take (min l.length 20))).length) c9, .int .i64 0, .int .i64 0] 99), (b26, .cells #[.slice none 0 0, .int .i64 0] 96)]) (fun φ27 => []) s trivial (fun φ27 => by kernel_rfl) ?_
    intro φ27 w27 s
    refine ops_done (by kernel_rfl) ?_
    refine wp_seq ?_
    refine region_rule ?_
    refine ops_rule (C := []) [(b13, .cells #[.slice a13 (((l.take (min l.length 20))).length) c13, .int .i64 0, .int .i64 6] 99), (b9, .cells #[.slice a9 (((l.take (min l.length 20))).length) c9, .int .i64 0, .int .i64 0] 99), (b26, .cells #[.slice none 0 0, .int .i64 0] 96)] [] 2 [] 0 (fun φ28 => [(40, .int .u64 ((n0 : Nat) : Int)), (39, .pointer (some ⟨b26, 0, none⟩))]) (fun φ28 => [(b13, .cells #[.slice a13 (((l.take (min l.length 20))).length) c13, .int .i64 0, .int .i64 6] 99), (b9, .cells #[.slice a9 (((l.take (min l.length 20))).length) c9, .int .i64 0, .int .i64 0] 99), (b26, .cells #[.slice none 0 0, .int .i64 0] 96)]) (fun φ28 => []) s trivial (fun φ28 => by kernel_rfl) ?_
    intro φ28 w28 s
    refine callH_rule (b := (b26, .cells #[.slice none 0 0, .int .i64 0] 96)) (H := [(b13, .cells #[.slice a13 (((l.take (min l.length 20))).length) c13, .int .i64 0, .int .i64 6] 99), (b9, .cells #[.slice a9 (((l.take (min l.length 20))).length) c9, .int .i64 0, .int .i64 0] 99), (b26, .cells #[.slice none 0 0, .int .i64 0] 96)]) (F := []) (Hr := [(b13, .cells #[.slice a13 (((l.take (min l.length 20))).length) c13, .int .i64 0, .int .i64 6] 99), (b9, .cells #[.slice a9 (((l.take (min l.length 20))).length) c9, .int .i64 0, .int .i64 0] 99)]) (some 41) 2 s (by kernel_rfl) (by kernel_rfl) (put_c (b := b26) (cnt := 0) (bs := ([] : List Bool)) (v0 := .slice none 0 0) (n := n0) (k := 64) (by first | rfl | ((try simp only [List.length_append, putBits_len, List.length_nil, pk_len]); done) | ((try simp only [List.length_append, putBits_len, List.length_nil, pk_len]); omega)) (by first | decide | ((try simp only [List.length_append, putBits_len, List.length_nil, pk_len]); omega)) (row_nilB : RowH 5 1 (.slice none 0 0) (pk []).length ((pk []).map bV) []) (by have hP20 : ((l.take (min l.length 20))).length ≤ 20 := (by simp only [List.length_take]; omega); have hpk8 : (pk (putBits n0 64)).length = 8 := (by rw [pk_len, putBits_len]); have hq7 := hi18_1; have hq0 := of_decide_eq_false hc20; omega) (by have hP20 : ((l.take (min l.length 20))).length ≤ 20 := (by simp only [List.length_take]; omega); have hpk8 : (pk (putBits n0 64)).length = 8 := (by rw [pk_len, putBits_len]); have hq7 := hi18_1; have hq0 := of_decide_eq_false hc20; omega)) (by kernel_rfl) ?_
    rintro v29 I29 w29 b29 F29 le29 - h29 s
    replace hl := BSl.mono le29 hl
    replace hb9 := BSl.mono le29 hb9
    replace hb13 := BSl.mono le29 hb13
    replace hle17 := leMono le29 hle17
    obtain ⟨v29, rfl, rfl, hr29⟩ := h29
    obtain ⟨g30, cap30, cur30, hv30, hF30, hc30, hrow30⟩ := row_open hr29 (by rw [pk_len]; (try simp only [List.length_append, putBits_len, List.length_nil, pk_len]); omega)
    subst hv30
    subst hF30
    refine ops_done (by kernel_rfl) ?_
    refine wp_seq ?_
    refine region_rule ?_
    refine ops_rule (C := []) [(b26, .cells #[.slice (some ⟨g30, 0, none⟩) ((pk (putBits n0 64)).length) cap30, .int .i64 ((0 + 64 : Nat) : Int)] 96), (b13, .cells #[.slice a13 (((l.take (min l.length 20))).length) c13, .int .i64 0, .int .i64 6] 99), (b9, .cells #[.slice a9 (((l.take (min l.length 20))).length) c9, .int .i64 0, .int .i64 0] 99), (g30, .cells cur30 5)] [] 1 [] 0 (fun φ31 => [(42, .pointer (some ⟨b26, 0, none⟩))]) (fun φ31 => [(b26, .cells #[.slice (some ⟨g30, 0, none⟩) ((pk (putBits n0 64)).length) cap30, .int .i64 ((0 + 64 : Nat) : Int)] 96), (b13, .cells #[.slice a13 (((l.take (min l.length 20))).length) c13, .int .i64 0, .int .i64 6] 99), (b9, .cells #[.slice a9 (((l.take (min l.length 20))).length) c9, .int .i64 0, .int .i64 0] 99), (g30, .cells cur30 5)]) (fun φ31 => []) s trivial (fun φ31 => by kernel_rfl) ?_
    intro φ31 w31 s
    refine callH_rule (b := (b26, .cells #[.slice (some ⟨g30, 0, none⟩) ((pk (putBits n0 64)).length) cap30, .int .i64 ((0 + 64 : Nat) : Int)] 96)) (H := [(b26, .cells #[.slice (some ⟨g30, 0, none⟩) ((pk (putBits n0 64)).length) cap30, .int .i64 ((0 + 64 : Nat) : Int)] 96), (b13, .cells #[.slice a13 (((l.take (min l.length 20))).length) c13, .int .i64 0, .int .i64 6] 99), (b9, .cells #[.slice a9 (((l.take (min l.length 20))).length) c9, .int .i64 0, .int .i64 0] 99)]) (F := [(g30, .cells cur30 5)]) (Hr := [(b13, .cells #[.slice a13 (((l.take (min l.length 20))).length) c13, .int .i64 0, .int .i64 6] 99), (b9, .cells #[.slice a9 (((l.take (min l.length 20))).length) c9, .int .i64 0, .int .i64 0] 99)]) (some 43) 0 s (by kernel_rfl) (by kernel_rfl) (bytes_h (b := b26) (cnt := 0 + 64) (bs := (putBits n0 64)) (v0 := .slice (some ⟨g30, 0, none⟩) ((pk (putBits n0 64)).length) cap30) (by (try simp only [List.length_append, putBits_len, List.length_nil, pk_len]); omega) (by (try simp only [List.length_append, putBits_len, List.length_nil, pk_len]); omega) hrow30) (by kernel_rfl) ?_
    rintro v32 I32 w32 b32 F32 le32 - ⟨g32, cap32, cur32, gg32, ccap32, ccur32, rfl, hv32, rfl, rfl, hr32, hrr32⟩ s
    cases hv32
    replace hl := BSl.mono le32 hl
    replace hb9 := BSl.mono le32 hb9
    replace hb13 := BSl.mono le32 hb13
    replace hle17 := leMono le32 hle17
    refine ops_rule (C := []) [(b26, .cells #[.slice (some ⟨g30, 0, none⟩) ((pk (putBits n0 64)).length) cap30, .int .i64 ((0 + 64 : Nat) : Int)] 96), (b13, .cells #[.slice a13 (((l.take (min l.length 20))).length) c13, .int .i64 0, .int .i64 6] 99), (b9, .cells #[.slice a9 (((l.take (min l.length 20))).length) c9, .int .i64 0, .int .i64 0] 99), (g30, .cells cur32 5), (gg32, .cells ccur32 5)] [] 1 [] 0 (fun φ33 => [(9, .slice (some ⟨gg32, 0, none⟩) ((pk (putBits n0 64)).length) ccap32)]) (fun φ33 => [(b26, .cells #[.slice (some ⟨g30, 0, none⟩) ((pk (putBits n0 64)).length) cap30, .int .i64 ((0 + 64 : Nat) : Int)] 96), (b13, .cells #[.slice a13 (((l.take (min l.length 20))).length) c13, .int .i64 0, .int .i64 6] 99), (b9, .cells #[.slice a9 (((l.take (min l.length 20))).length) c9, .int .i64 0, .int .i64 0] 99), (g30, .cells cur32 5), (gg32, .cells ccur32 5)]) (fun φ33 => []) s trivial (fun φ33 => by kernel_rfl) ?_
    intro φ33 w33 s
    refine ops_done (by kernel_rfl) ?_
    refine wp_seq ?_
    refine region_rule ?_
    refine ops_rule (C := []) [(b26, .cells #[.slice (some ⟨g30, 0, none⟩) ((pk (putBits n0 64)).length) cap30, .int .i64 ((0 + 64 : Nat) : Int)] 96), (b13, .cells #[.slice a13 (((l.take (min l.length 20))).length) c13, .int .i64 0, .int .i64 6] 99), (b9, .cells #[.slice a9 (((l.take (min l.length 20))).length) c9, .int .i64 0, .int .i64 0] 99), (g30, .cells cur32 5), (gg32, .cells ccur32 5)] [] 1 [] 0 (fun φ34 => [(44, .slice (some ⟨gg32, 0, none⟩) ((pk (putBits n0 64)).length) ccap32)]) (fun φ34 => [(b26, .cells #[.slice (some ⟨g30, 0, none⟩) ((pk (putBits n0 64)).length) cap30, .int .i64 ((0 + 64 : Nat) : Int)] 96), (b13, .cells #[.slice a13 (((l.take (min l.length 20))).length) c13, .int .i64 0, .int .i64 6] 99), (b9, .cells #[.slice a9 (((l.take (min l.length 20))).length) c9, .int .i64 0, .int .i64 0] 99), (g30, .cells cur32 5), (gg32, .cells ccur32 5)]) (fun φ34 => []) s trivial (fun φ34 => by kernel_rfl) ?_
    intro φ34 w34 s
    refine sem_rule (Instr.indexAt 34 (.slice (some ⟨gg32, 0, none⟩) ((pk (putBits n0 64)).length) ccap32) (.int .i64 ((0 : Nat) : Int))) (some 45) (.pointer (some ⟨gg32, 0, none⟩)) (by kernel_rfl) (row_idx (by have hP20 : ((l.take (min l.length 20))).length ≤ 20 := (by simp only [List.length_take]; omega); have hpk8 : (pk (putBits n0 64)).length = 8 := (by rw [pk_len, putBits_len]); have hq7 := hi18_1; have hq0 := of_decide_eq_false hc20; omega)) ?_
    refine sem_rule (Instr.loadAt 5 (.pointer (some ⟨gg32, 0, none⟩))) (some 46) (.int .u8 ((((pk (putBits n0 64)).getD 0 0).toNat : Nat) : Int)) (by kernel_rfl) (row_ld s (by simp) hrr32 (by have hP20 : ((l.take (min l.length 20))).length ≤ 20 := (by simp only [List.length_take]; omega); have hpk8 : (pk (putBits n0 64)).length = 8 := (by rw [pk_len, putBits_len]); have hq7 := hi18_1; have hq0 := of_decide_eq_false hc20; omega)) ?_
    refine sem_rule (binOp .xor 5 (.int .u8 ((((pk (putBits n0 64)).getD 0 0).toNat : Nat) : Int)) (.int .u8 ((255 : Nat) : Int))) (some 47) (.int .u8 ((bxor 8 (((pk (putBits n0 64)).getD 0 0).toNat) 255 : Nat) : Int)) (by kernel_rfl) (run_bit8.1) ?_
    refine sem_rule (Instr.indexAt 34 (.slice (some ⟨gg32, 0, none⟩) ((pk (putBits n0 64)).length) ccap32) (.int .i64 ((0 : Nat) : Int))) (some 48) (.pointer (some ⟨gg32, 0, none⟩)) (by kernel_rfl) (row_idx (by have hP20 : ((l.take (min l.length 20))).length ≤ 20 := (by simp only [List.length_take]; omega); have hpk8 : (pk (putBits n0 64)).length = 8 := (by rw [pk_len, putBits_len]); have hq7 := hi18_1; have hq0 := of_decide_eq_false hc20; omega)) ?_
    obtain ⟨w35, cur35, hr35, s, hrow35⟩ := row_st (H := [(b26, .cells #[.slice (some ⟨g30, 0, none⟩) ((pk (putBits n0 64)).length) cap30, .int .i64 ((0 + 64 : Nat) : Int)] 96), (b13, .cells #[.slice a13 (((l.take (min l.length 20))).length) c13, .int .i64 0, .int .i64 6] 99), (b9, .cells #[.slice a9 (((l.take (min l.length 20))).length) c9, .int .i64 0, .int .i64 0] 99), (g30, .cells cur32 5), (gg32, .cells ccur32 5)]) (q := 4) (i := 0) (x := bxor 8 (((pk (putBits n0 64)).getD 0 0).toNat) 255) s (by kernel_rfl) hrr32 (by have hP20 : ((l.take (min l.length 20))).length ≤ 20 := (by simp only [List.length_take]; omega); have hpk8 : (pk (putBits n0 64)).length = 8 := (by rw [pk_len, putBits_len]); have hq7 := hi18_1; have hq0 := of_decide_eq_false hc20; omega) (bxor8_lt)
    refine semU_rule (Instr.storeAt 5 (.pointer (some ⟨gg32, 0, none⟩)) (.int .u8 ((bxor 8 (((pk (putBits n0 64)).getD 0 0).toNat) 255 : Nat) : Int))) none (by kernel_rfl) hr35 ?_
    refine ops_done (by kernel_rfl) ?_
    refine wp_seq ?_
    refine region_rule ?_
    refine ops_rule (C := []) [(b26, .cells #[.slice (some ⟨g30, 0, none⟩) ((pk (putBits n0 64)).length) cap30, .int .i64 ((0 + 64 : Nat) : Int)] 96), (b13, .cells #[.slice a13 (((l.take (min l.length 20))).length) c13, .int .i64 0, .int .i64 6] 99), (b9, .cells #[.slice a9 (((l.take (min l.length 20))).length) c9, .int .i64 0, .int .i64 0] 99), (g30, .cells cur32 5), (gg32, .cells cur35 5)] [] 1 [] 0 (fun φ36 => [(10, .pointer none)]) (fun φ36 => [(b26, .cells #[.slice (some ⟨g30, 0, none⟩) ((pk (putBits n0 64)).length) cap30, .int .i64 ((0 + 64 : Nat) : Int)] 96), (b13, .cells #[.slice a13 (((l.take (min l.length 20))).length) c13, .int .i64 0, .int .i64 6] 99), (b9, .cells #[.slice a9 (((l.take (min l.length 20))).length) c9, .int .i64 0, .int .i64 0] 99), (g30, .cells cur32 5), (gg32, .cells cur35 5)]) (fun φ36 => []) s trivial (fun φ36 => by kernel_rfl) ?_
    intro φ36 w36 s
    refine ops_done (by kernel_rfl) ?_
    refine wp_seq ?_
    refine region_rule ?_
    refine ops_rule (C := []) [(b26, .cells #[.slice (some ⟨g30, 0, none⟩) ((pk (putBits n0 64)).length) cap30, .int .i64 ((0 + 64 : Nat) : Int)] 96), (b13, .cells #[.slice a13 (((l.take (min l.length 20))).length) c13, .int .i64 0, .int .i64 6] 99), (b9, .cells #[.slice a9 (((l.take (min l.length 20))).length) c9, .int .i64 0, .int .i64 0] 99), (g30, .cells cur32 5), (gg32, .cells cur35 5)] [] 1 [] 0 (fun φ37 => [(11, .pointer none)]) (fun φ37 => [(b26, .cells #[.slice (some ⟨g30, 0, none⟩) ((pk (putBits n0 64)).length) cap30, .int .i64 ((0 + 64 : Nat) : Int)] 96), (b13, .cells #[.slice a13 (((l.take (min l.length 20))).length) c13, .int .i64 0, .int .i64 6] 99), (b9, .cells #[.slice a9 (((l.take (min l.length 20))).length) c9, .int .i64 0, .int .i64 0] 99), (g30, .cells cur32 5), (gg32, .cells cur35 5)]) (fun φ37 => []) s trivial (fun φ37 => by kernel_rfl) ?_
    intro φ37 w37 s
    refine ops_done (by kernel_rfl) ?_
    refine wp_seq ?_
    refine region_rule ?_
    refine ops_rule (C := []) [(b26, .cells #[.slice (some ⟨g30, 0, none⟩) ((pk (putBits n0 64)).length) cap30, .int .i64 ((0 + 64 : Nat) : Int)] 96), (b13, .cells #[.slice a13 (((l.take (min l.length 20))).length) c13, .int .i64 0, .int .i64 6] 99), (b9, .cells #[.slice a9 (((l.take (min l.length 20))).length) c9, .int .i64 0, .int .i64 0] 99), (g30, .cells cur32 5), (gg32, .cells cur35 5)] [] 2 [] 0 (fun φ38 => [(50, .int .u64 ((n0 : Nat) : Int)), (49, .pointer none)]) (fun φ38 => [(b26, .cells #[.slice (some ⟨g30, 0, none⟩) ((pk (putBits n0 64)).length) cap30, .int .i64 ((0 + 64 : Nat) : Int)] 96), (b13, .cells #[.slice a13 (((l.take (min l.length 20))).length) c13, .int .i64 0, .int .i64 6] 99), (b9, .cells #[.slice a9 (((l.take (min l.length 20))).length) c9, .int .i64 0, .int .i64 0] 99), (g30, .cells cur32 5), (gg32, .cells cur35 5)]) (fun φ38 => []) s trivial (fun φ38 => by kernel_rfl) ?_
    intro φ38 w38 s
    refine call_rule (some 51) s (put_nil (n := n0) (k := 5)) (by kernel_rfl) ?_
    intro v39 I39 w39 le39 h39 s
    replace hl := BSl.mono le39 hl
    replace hb9 := BSl.mono le39 hb9
    replace hb13 := BSl.mono le39 hb13
    replace hle17 := leMono le39 hle17
    obtain rfl := h39
    refine ops_done (by kernel_rfl) ?_
    refine wp_seq ?_
    refine region_rule ?_
    refine ops_rule (C := []) [(b26, .cells #[.slice (some ⟨g30, 0, none⟩) ((pk (putBits n0 64)).length) cap30, .int .i64 ((0 + 64 : Nat) : Int)] 96), (b13, .cells #[.slice a13 (((l.take (min l.length 20))).length) c13, .int .i64 0, .int .i64 6] 99), (b9, .cells #[.slice a9 (((l.take (min l.length 20))).length) c9, .int .i64 0, .int .i64 0] 99), (g30, .cells cur32 5), (gg32, .cells cur35 5)] [] 2 [] 0 (fun φ40 => [(53, .int .u64 ((n0 : Nat) : Int)), (52, .pointer none)]) (fun φ40 => [(b26, .cells #[.slice (some ⟨g30, 0, none⟩) ((pk (putBits n0 64)).length) cap30, .int .i64 ((0 + 64 : Nat) : Int)] 96), (b13, .cells #[.slice a13 (((l.take (min l.length 20))).length) c13, .int .i64 0, .int .i64 6] 99), (b9, .cells #[.slice a9 (((l.take (min l.length 20))).length) c9, .int .i64 0, .int .i64 0] 99), (g30, .cells cur32 5), (gg32, .cells cur35 5)]) (fun φ40 => []) s trivial (fun φ40 => by kernel_rfl) ?_
    intro φ40 w40 s
    refine call_rule (some 54) s (numW_nil (n := n0) hn) (by kernel_rfl) ?_
    intro v41 I41 w41 le41 h41 s
    replace hl := BSl.mono le41 hl
    replace hb9 := BSl.mono le41 hb9
    replace hb13 := BSl.mono le41 hb13
    replace hle17 := leMono le41 hle17
    obtain rfl := h41
    refine ops_done (by kernel_rfl) ?_
    refine wp_seq ?_
    refine region_rule ?_
    refine ops_rule (C := []) [(b26, .cells #[.slice (some ⟨g30, 0, none⟩) ((pk (putBits n0 64)).length) cap30, .int .i64 ((0 + 64 : Nat) : Int)] 96), (b13, .cells #[.slice a13 (((l.take (min l.length 20))).length) c13, .int .i64 0, .int .i64 6] 99), (b9, .cells #[.slice a9 (((l.take (min l.length 20))).length) c9, .int .i64 0, .int .i64 0] 99), (g30, .cells cur32 5), (gg32, .cells cur35 5)] [] 1 [] 0 (fun φ42 => [(55, .pointer (some ⟨b26, 0, none⟩))]) (fun φ42 => [(b26, .cells #[.slice (some ⟨g30, 0, none⟩) ((pk (putBits n0 64)).length) cap30, .int .i64 ((0 + 64 : Nat) : Int)] 96), (b13, .cells #[.slice a13 (((l.take (min l.length 20))).length) c13, .int .i64 0, .int .i64 6] 99), (b9, .cells #[.slice a9 (((l.take (min l.length 20))).length) c9, .int .i64 0, .int .i64 0] 99), (g30, .cells cur32 5), (gg32, .cells cur35 5)]) (fun φ42 => []) s trivial (fun φ42 => by kernel_rfl) ?_
    intro φ42 w42 s
    replace s := St.perm (H' := [(b26, .cells #[.slice (some ⟨g30, 0, none⟩) ((pk (putBits n0 64)).length) cap30, .int .i64 ((0 + 64 : Nat) : Int)] 96), (b13, .cells #[.slice a13 (((l.take (min l.length 20))).length) c13, .int .i64 0, .int .i64 6] 99), (b9, .cells #[.slice a9 (((l.take (min l.length 20))).length) c9, .int .i64 0, .int .i64 0] 99), (gg32, .cells cur35 5)] ++ [(g30, .cells cur32 5)]) s (move_last 3 (by kernel_rfl) (by kernel_rfl))
    refine callH_rule (b := (b26, .cells #[.slice (some ⟨g30, 0, none⟩) ((pk (putBits n0 64)).length) cap30, .int .i64 ((0 + 64 : Nat) : Int)] 96)) (H := [(b26, .cells #[.slice (some ⟨g30, 0, none⟩) ((pk (putBits n0 64)).length) cap30, .int .i64 ((0 + 64 : Nat) : Int)] 96), (b13, .cells #[.slice a13 (((l.take (min l.length 20))).length) c13, .int .i64 0, .int .i64 6] 99), (b9, .cells #[.slice a9 (((l.take (min l.length 20))).length) c9, .int .i64 0, .int .i64 0] 99), (gg32, .cells cur35 5)]) (F := [(g30, .cells cur32 5)]) (Hr := [(b13, .cells #[.slice a13 (((l.take (min l.length 20))).length) c13, .int .i64 0, .int .i64 6] 99), (b9, .cells #[.slice a9 (((l.take (min l.length 20))).length) c9, .int .i64 0, .int .i64 0] 99), (gg32, .cells cur35 5)]) (some 56) 0 s (by kernel_rfl) (by kernel_rfl) (bytes_c (b := b26) (cnt := 0 + 64) (bs := (putBits n0 64)) (v0 := .slice (some ⟨g30, 0, none⟩) ((pk (putBits n0 64)).length) cap30) (by (try simp only [List.length_append, putBits_len, List.length_nil, pk_len]); omega) (by (try simp only [List.length_append, putBits_len, List.length_nil, pk_len]); omega) hr32) (by kernel_rfl) ?_
    rintro v43 I43 w43 b43 F43 le43 - h43 s
    replace hl := BSl.mono le43 hl
    replace hb9 := BSl.mono le43 hb9
    replace hb13 := BSl.mono le43 hb13
    replace hle17 := leMono le43 hle17
    obtain ⟨a43, c43, rfl, rfl, hr43, h43_0⟩ := h43
    obtain ⟨cur44, hF44, hrow44⟩ := row_open2 hr43
    subst hF44
    refine callF_rule (H := [(b26, .cells #[.slice (some ⟨g30, 0, none⟩) ((pk (putBits n0 64)).length) cap30, .int .i64 ((0 + 64 : Nat) : Int)] 96), (b13, .cells #[.slice a13 (((l.take (min l.length 20))).length) c13, .int .i64 0, .int .i64 6] 99), (b9, .cells #[.slice a9 (((l.take (min l.length 20))).length) c9, .int .i64 0, .int .i64 0] 99), (gg32, .cells cur35 5), (g30, .cells cur44 5)]) (F := []) (some 57) s (newReader_c h43_0 (by (try simp only [List.length_take, pk_len, putBits_len]); omega)) (by kernel_rfl) ?_
    rintro v45 I45 w45 F45 le45 ⟨b45, a45, c45, rfl, rfl, hb45⟩ s
    replace hl := BSl.mono le45 hl
    replace hb9 := BSl.mono le45 hb9
    replace hb13 := BSl.mono le45 hb13
    replace hle17 := leMono le45 hle17
    replace h43_0 := BSl.mono le45 h43_0
    refine callB_rule (b := (b45, .cells #[.slice a45 (List.length (pk (putBits n0 64))) c45, .int .i64 0, .int .i64 0] 99)) (H := [(b26, .cells #[.slice (some ⟨g30, 0, none⟩) ((pk (putBits n0 64)).length) cap30, .int .i64 ((0 + 64 : Nat) : Int)] 96), (b13, .cells #[.slice a13 (((l.take (min l.length 20))).length) c13, .int .i64 0, .int .i64 6] 99), (b9, .cells #[.slice a9 (((l.take (min l.length 20))).length) c9, .int .i64 0, .int .i64 0] 99), (gg32, .cells cur35 5), (g30, .cells cur44 5), (b45, .cells #[.slice a45 (List.length (pk (putBits n0 64))) c45, .int .i64 0, .int .i64 0] 99)]) (F := []) (Hr := [(b26, .cells #[.slice (some ⟨g30, 0, none⟩) ((pk (putBits n0 64)).length) cap30, .int .i64 ((0 + 64 : Nat) : Int)] 96), (b13, .cells #[.slice a13 (((l.take (min l.length 20))).length) c13, .int .i64 0, .int .i64 6] 99), (b9, .cells #[.slice a9 (((l.take (min l.length 20))).length) c9, .int .i64 0, .int .i64 0] 99), (gg32, .cells cur35 5), (g30, .cells cur44 5)]) (some 58) 5 s (by kernel_rfl) (by kernel_rfl) (get_c (r := b45) (p := 0) hb45 (by (try simp only [List.length_take, pk_len, putBits_len]); omega) (k := 64) (by have hP20 : ((l.take (min l.length 20))).length ≤ 20 := (by simp only [List.length_take]; omega); have hpk8 : (pk (putBits n0 64)).length = 8 := (by rw [pk_len, putBits_len]); have hq7 := hi18_1; have hq0 := of_decide_eq_false hc20; omega) (by (try simp only [List.length_append, putBits_len, List.length_nil, pk_len]); omega)) (by kernel_rfl) ?_
    rintro v46 I46 w46 b46 le46 - h46 s
    replace hl := BSl.mono le46 hl
    replace hb9 := BSl.mono le46 hb9
    replace hb13 := BSl.mono le46 hb13
    replace hle17 := leMono le46 hle17
    replace h43_0 := BSl.mono le46 h43_0
    replace hb45 := BSl.mono le46 hb45
    obtain ⟨rfl, rfl⟩ := h46
    refine ops_rule (C := []) [(b45, .cells #[.slice a45 (List.length (pk (putBits n0 64))) c45, .int .i64 ((0 + 64 : Nat) : Int), .int .i64 0] 99), (b26, .cells #[.slice (some ⟨g30, 0, none⟩) ((pk (putBits n0 64)).length) cap30, .int .i64 ((0 + 64 : Nat) : Int)] 96), (b13, .cells #[.slice a13 (((l.take (min l.length 20))).length) c13, .int .i64 0, .int .i64 6] 99), (b9, .cells #[.slice a9 (((l.take (min l.length 20))).length) c9, .int .i64 0, .int .i64 0] 99), (gg32, .cells cur35 5), (g30, .cells cur44 5)] [] 1 [] 0 (fun φ47 => [(12, .int .u64 ((rd (pk (putBits n0 64)) 0 64 : Nat) : Int))]) (fun φ47 => [(b45, .cells #[.slice a45 (List.length (pk (putBits n0 64))) c45, .int .i64 ((0 + 64 : Nat) : Int), .int .i64 0] 99), (b26, .cells #[.slice (some ⟨g30, 0, none⟩) ((pk (putBits n0 64)).length) cap30, .int .i64 ((0 + 64 : Nat) : Int)] 96), (b13, .cells #[.slice a13 (((l.take (min l.length 20))).length) c13, .int .i64 0, .int .i64 6] 99), (b9, .cells #[.slice a9 (((l.take (min l.length 20))).length) c9, .int .i64 0, .int .i64 0] 99), (gg32, .cells cur35 5), (g30, .cells cur44 5)]) (fun φ47 => []) s trivial (fun φ47 => by kernel_rfl) ?_
    intro φ47 w47 s
    refine ops_done (by kernel_rfl) ?_
    refine wp_seq ?_
    refine region_rule ?_
    refine ops_rule (C := []) [(b45, .cells #[.slice a45 (List.length (pk (putBits n0 64))) c45, .int .i64 ((0 + 64 : Nat) : Int), .int .i64 0] 99), (b26, .cells #[.slice (some ⟨g30, 0, none⟩) ((pk (putBits n0 64)).length) cap30, .int .i64 ((0 + 64 : Nat) : Int)] 96), (b13, .cells #[.slice a13 (((l.take (min l.length 20))).length) c13, .int .i64 0, .int .i64 6] 99), (b9, .cells #[.slice a9 (((l.take (min l.length 20))).length) c9, .int .i64 0, .int .i64 0] 99), (gg32, .cells cur35 5), (g30, .cells cur44 5)] [] 1 [] 0 (fun φ48 => [(59, .pointer (some ⟨b9, 0, none⟩))]) (fun φ48 => [(b45, .cells #[.slice a45 (List.length (pk (putBits n0 64))) c45, .int .i64 ((0 + 64 : Nat) : Int), .int .i64 0] 99), (b26, .cells #[.slice (some ⟨g30, 0, none⟩) ((pk (putBits n0 64)).length) cap30, .int .i64 ((0 + 64 : Nat) : Int)] 96), (b13, .cells #[.slice a13 (((l.take (min l.length 20))).length) c13, .int .i64 0, .int .i64 6] 99), (b9, .cells #[.slice a9 (((l.take (min l.length 20))).length) c9, .int .i64 0, .int .i64 0] 99), (gg32, .cells cur35 5), (g30, .cells cur44 5)]) (fun φ48 => []) s trivial (fun φ48 => by kernel_rfl) ?_
    intro φ48 w48 s
    refine callB_rule (b := (b9, .cells #[.slice a9 (((l.take (min l.length 20))).length) c9, .int .i64 0, .int .i64 0] 99)) (H := [(b45, .cells #[.slice a45 (List.length (pk (putBits n0 64))) c45, .int .i64 ((0 + 64 : Nat) : Int), .int .i64 0] 99), (b26, .cells #[.slice (some ⟨g30, 0, none⟩) ((pk (putBits n0 64)).length) cap30, .int .i64 ((0 + 64 : Nat) : Int)] 96), (b13, .cells #[.slice a13 (((l.take (min l.length 20))).length) c13, .int .i64 0, .int .i64 6] 99), (b9, .cells #[.slice a9 (((l.take (min l.length 20))).length) c9, .int .i64 0, .int .i64 0] 99), (gg32, .cells cur35 5), (g30, .cells cur44 5)]) (F := []) (Hr := [(b45, .cells #[.slice a45 (List.length (pk (putBits n0 64))) c45, .int .i64 ((0 + 64 : Nat) : Int), .int .i64 0] 99), (b26, .cells #[.slice (some ⟨g30, 0, none⟩) ((pk (putBits n0 64)).length) cap30, .int .i64 ((0 + 64 : Nat) : Int)] 96), (b13, .cells #[.slice a13 (((l.take (min l.length 20))).length) c13, .int .i64 0, .int .i64 6] 99), (gg32, .cells cur35 5), (g30, .cells cur44 5)]) (some 60) 3 s (by kernel_rfl) (by kernel_rfl) (get_bad (r := b9) (p := 0) hb9 (by (try simp only [List.length_take, pk_len, putBits_len]); omega) (k := 64) (by have hP20 : ((l.take (min l.length 20))).length ≤ 20 := (by simp only [List.length_take]; omega); have hpk8 : (pk (putBits n0 64)).length = 8 := (by rw [pk_len, putBits_len]); have hq7 := hi18_1; have hq0 := of_decide_eq_false hc20; omega) (by omega) (by omega)) (by kernel_rfl) ?_
    rintro v49 I49 w49 b49 le49 - h49 s
    replace hl := BSl.mono le49 hl
    replace hb9 := BSl.mono le49 hb9
    replace hb13 := BSl.mono le49 hb13
    replace hle17 := leMono le49 hle17
    replace h43_0 := BSl.mono le49 h43_0
    replace hb45 := BSl.mono le49 hb45
    obtain ⟨rfl, rfl⟩ := h49
    refine ops_rule (C := []) [(b9, .cells #[.slice a9 (((l.take (min l.length 20))).length) c9, .int .i64 0, .int .i64 6] 99), (b45, .cells #[.slice a45 (List.length (pk (putBits n0 64))) c45, .int .i64 ((0 + 64 : Nat) : Int), .int .i64 0] 99), (b26, .cells #[.slice (some ⟨g30, 0, none⟩) ((pk (putBits n0 64)).length) cap30, .int .i64 ((0 + 64 : Nat) : Int)] 96), (b13, .cells #[.slice a13 (((l.take (min l.length 20))).length) c13, .int .i64 0, .int .i64 6] 99), (gg32, .cells cur35 5), (g30, .cells cur44 5)] [] 8 [] 0 (fun φ50 => [(68, .bool (((rd (pk (putBits n0 64)) 0 64 : Nat) : Int) == ((n0 : Nat) : Int))), (67, .bool (((rd (pk (putBits n0 64)) 0 64 : Nat) : Int) == ((n0 : Nat) : Int))), (66, .bool (((rd (pk (putBits n0 64)) 0 64 : Nat) : Int) == ((n0 : Nat) : Int))), (65, .int .u64 ((n0 : Nat) : Int)), (64, .int .u64 ((rd (pk (putBits n0 64)) 0 64 : Nat) : Int)), (63, .bool true), (62, .bool true), (61, .int .u64 0)]) (fun φ50 => [(b9, .cells #[.slice a9 (((l.take (min l.length 20))).length) c9, .int .i64 0, .int .i64 6] 99), (b45, .cells #[.slice a45 (List.length (pk (putBits n0 64))) c45, .int .i64 ((0 + 64 : Nat) : Int), .int .i64 0] 99), (b26, .cells #[.slice (some ⟨g30, 0, none⟩) ((pk (putBits n0 64)).length) cap30, .int .i64 ((0 + 64 : Nat) : Int)] 96), (b13, .cells #[.slice a13 (((l.take (min l.length 20))).length) c13, .int .i64 0, .int .i64 6] 99), (gg32, .cells cur35 5), (g30, .cells cur44 5)]) (fun φ50 => []) s trivial (fun φ50 => by kernel_rfl) ?_
    intro φ50 w50 s
    rw [nat_eql (a := (rd (pk (putBits n0 64)) 0 64)) (b := n0)]
    rcases Bool.eq_false_or_eq_true (decide ((rd (pk (putBits n0 64)) 0 64) = n0)) with hc51 | hc51
    ·
      rw [hc51]
      refine ops_rule (C := []) [(b9, .cells #[.slice a9 (((l.take (min l.length 20))).length) c9, .int .i64 0, .int .i64 6] 99), (b45, .cells #[.slice a45 (List.length (pk (putBits n0 64))) c45, .int .i64 ((0 + 64 : Nat) : Int), .int .i64 0] 99), (b26, .cells #[.slice (some ⟨g30, 0, none⟩) ((pk (putBits n0 64)).length) cap30, .int .i64 ((0 + 64 : Nat) : Int)] 96), (b13, .cells #[.slice a13 (((l.take (min l.length 20))).length) c13, .int .i64 0, .int .i64 6] 99), (gg32, .cells cur35 5), (g30, .cells cur44 5)] [] 1 [] 0 (fun φ52 => [(69, .pointer none)]) (fun φ52 => [(b9, .cells #[.slice a9 (((l.take (min l.length 20))).length) c9, .int .i64 0, .int .i64 6] 99), (b45, .cells #[.slice a45 (List.length (pk (putBits n0 64))) c45, .int .i64 ((0 + 64 : Nat) : Int), .int .i64 0] 99), (b26, .cells #[.slice (some ⟨g30, 0, none⟩) ((pk (putBits n0 64)).length) cap30, .int .i64 ((0 + 64 : Nat) : Int)] 96), (b13, .cells #[.slice a13 (((l.take (min l.length 20))).length) c13, .int .i64 0, .int .i64 6] 99), (gg32, .cells cur35 5), (g30, .cells cur44 5)]) (fun φ52 => []) s trivial (fun φ52 => by kernel_rfl) ?_
      intro φ52 w52 s
      refine call_rule (some 70) s (lenW_nil) (by kernel_rfl) ?_
      intro v53 I53 w53 le53 h53 s
      replace hl := BSl.mono le53 hl
      replace hb9 := BSl.mono le53 hb9
      replace hb13 := BSl.mono le53 hb13
      replace hle17 := leMono le53 hle17
      replace h43_0 := BSl.mono le53 h43_0
      replace hb45 := BSl.mono le53 hb45
      obtain rfl := h53
      refine ops_rule (C := []) [(b9, .cells #[.slice a9 (((l.take (min l.length 20))).length) c9, .int .i64 0, .int .i64 6] 99), (b45, .cells #[.slice a45 (List.length (pk (putBits n0 64))) c45, .int .i64 ((0 + 64 : Nat) : Int), .int .i64 0] 99), (b26, .cells #[.slice (some ⟨g30, 0, none⟩) ((pk (putBits n0 64)).length) cap30, .int .i64 ((0 + 64 : Nat) : Int)] 96), (b13, .cells #[.slice a13 (((l.take (min l.length 20))).length) c13, .int .i64 0, .int .i64 6] 99), (gg32, .cells cur35 5), (g30, .cells cur44 5)] [] 4 [] 0 (fun φ54 => [(74, .pointer none), (73, .bool true), (72, .bool true), (71, .bool true)]) (fun φ54 => [(b9, .cells #[.slice a9 (((l.take (min l.length 20))).length) c9, .int .i64 0, .int .i64 6] 99), (b45, .cells #[.slice a45 (List.length (pk (putBits n0 64))) c45, .int .i64 ((0 + 64 : Nat) : Int), .int .i64 0] 99), (b26, .cells #[.slice (some ⟨g30, 0, none⟩) ((pk (putBits n0 64)).length) cap30, .int .i64 ((0 + 64 : Nat) : Int)] 96), (b13, .cells #[.slice a13 (((l.take (min l.length 20))).length) c13, .int .i64 0, .int .i64 6] 99), (gg32, .cells cur35 5), (g30, .cells cur44 5)]) (fun φ54 => []) s trivial (fun φ54 => by kernel_rfl) ?_
      intro φ54 w54 s
      refine call_rule (some 75) s (bytes_nil) (by kernel_rfl) ?_
      intro v55 I55 w55 le55 h55 s
      replace hl := BSl.mono le55 hl
      replace hb9 := BSl.mono le55 hb9
      replace hb13 := BSl.mono le55 hb13
      replace hle17 := leMono le55 hle17
      replace h43_0 := BSl.mono le55 h43_0
      replace hb45 := BSl.mono le55 hb45
      obtain rfl := h55
      refine ops_rule (C := []) [(b9, .cells #[.slice a9 (((l.take (min l.length 20))).length) c9, .int .i64 0, .int .i64 6] 99), (b45, .cells #[.slice a45 (List.length (pk (putBits n0 64))) c45, .int .i64 ((0 + 64 : Nat) : Int), .int .i64 0] 99), (b26, .cells #[.slice (some ⟨g30, 0, none⟩) ((pk (putBits n0 64)).length) cap30, .int .i64 ((0 + 64 : Nat) : Int)] 96), (b13, .cells #[.slice a13 (((l.take (min l.length 20))).length) c13, .int .i64 0, .int .i64 6] 99), (gg32, .cells cur35 5), (g30, .cells cur44 5)] [] 5 [] 0 (fun φ56 => [(80, .pointer none), (79, .bool true), (78, .bool true), (77, .bool true), (76, .int .i64 0)]) (fun φ56 => [(b9, .cells #[.slice a9 (((l.take (min l.length 20))).length) c9, .int .i64 0, .int .i64 6] 99), (b45, .cells #[.slice a45 (List.length (pk (putBits n0 64))) c45, .int .i64 ((0 + 64 : Nat) : Int), .int .i64 0] 99), (b26, .cells #[.slice (some ⟨g30, 0, none⟩) ((pk (putBits n0 64)).length) cap30, .int .i64 ((0 + 64 : Nat) : Int)] 96), (b13, .cells #[.slice a13 (((l.take (min l.length 20))).length) c13, .int .i64 0, .int .i64 6] 99), (gg32, .cells cur35 5), (g30, .cells cur44 5)]) (fun φ56 => []) s trivial (fun φ56 => by kernel_rfl) ?_
      intro φ56 w56 s
      refine call_rule (some 81) s (get_nil (k := 5) (by have hP20 : ((l.take (min l.length 20))).length ≤ 20 := (by simp only [List.length_take]; omega); have hpk8 : (pk (putBits n0 64)).length = 8 := (by rw [pk_len, putBits_len]); have hq7 := hi18_1; have hq0 := of_decide_eq_false hc20; have hq1 := of_decide_eq_true hc51; omega)) (by kernel_rfl) ?_
      intro v57 I57 w57 le57 h57 s
      replace hl := BSl.mono le57 hl
      replace hb9 := BSl.mono le57 hb9
      replace hb13 := BSl.mono le57 hb13
      replace hle17 := leMono le57 hle17
      replace h43_0 := BSl.mono le57 h43_0
      replace hb45 := BSl.mono le57 hb45
      obtain rfl := h57
      refine ops_rule (C := []) [(b9, .cells #[.slice a9 (((l.take (min l.length 20))).length) c9, .int .i64 0, .int .i64 6] 99), (b45, .cells #[.slice a45 (List.length (pk (putBits n0 64))) c45, .int .i64 ((0 + 64 : Nat) : Int), .int .i64 0] 99), (b26, .cells #[.slice (some ⟨g30, 0, none⟩) ((pk (putBits n0 64)).length) cap30, .int .i64 ((0 + 64 : Nat) : Int)] 96), (b13, .cells #[.slice a13 (((l.take (min l.length 20))).length) c13, .int .i64 0, .int .i64 6] 99), (gg32, .cells cur35 5), (g30, .cells cur44 5)] [] 4 [] 0 (fun φ58 => [(85, .pointer none), (84, .bool true), (83, .bool true), (82, .bool true)]) (fun φ58 => [(b9, .cells #[.slice a9 (((l.take (min l.length 20))).length) c9, .int .i64 0, .int .i64 6] 99), (b45, .cells #[.slice a45 (List.length (pk (putBits n0 64))) c45, .int .i64 ((0 + 64 : Nat) : Int), .int .i64 0] 99), (b26, .cells #[.slice (some ⟨g30, 0, none⟩) ((pk (putBits n0 64)).length) cap30, .int .i64 ((0 + 64 : Nat) : Int)] 96), (b13, .cells #[.slice a13 (((l.take (min l.length 20))).length) c13, .int .i64 0, .int .i64 6] 99), (gg32, .cells cur35 5), (g30, .cells cur44 5)]) (fun φ58 => []) s trivial (fun φ58 => by kernel_rfl) ?_
      intro φ58 w58 s
      refine call_rule (some 86) s (numR_nil) (by kernel_rfl) ?_
      intro v59 I59 w59 le59 h59 s
      replace hl := BSl.mono le59 hl
      replace hb9 := BSl.mono le59 hb9
      replace hb13 := BSl.mono le59 hb13
      replace hle17 := leMono le59 hle17
      replace h43_0 := BSl.mono le59 h43_0
      replace hb45 := BSl.mono le59 hb45
      obtain rfl := h59
      refine ops_rule (C := []) [(b9, .cells #[.slice a9 (((l.take (min l.length 20))).length) c9, .int .i64 0, .int .i64 6] 99), (b45, .cells #[.slice a45 (List.length (pk (putBits n0 64))) c45, .int .i64 ((0 + 64 : Nat) : Int), .int .i64 0] 99), (b26, .cells #[.slice (some ⟨g30, 0, none⟩) ((pk (putBits n0 64)).length) cap30, .int .i64 ((0 + 64 : Nat) : Int)] 96), (b13, .cells #[.slice a13 (((l.take (min l.length 20))).length) c13, .int .i64 0, .int .i64 6] 99), (gg32, .cells cur35 5), (g30, .cells cur44 5)] [] 4 [] 0 (fun φ60 => [(90, .pointer none), (89, .bool true), (88, .bool true), (87, .bool true)]) (fun φ60 => [(b9, .cells #[.slice a9 (((l.take (min l.length 20))).length) c9, .int .i64 0, .int .i64 6] 99), (b45, .cells #[.slice a45 (List.length (pk (putBits n0 64))) c45, .int .i64 ((0 + 64 : Nat) : Int), .int .i64 0] 99), (b26, .cells #[.slice (some ⟨g30, 0, none⟩) ((pk (putBits n0 64)).length) cap30, .int .i64 ((0 + 64 : Nat) : Int)] 96), (b13, .cells #[.slice a13 (((l.take (min l.length 20))).length) c13, .int .i64 0, .int .i64 6] 99), (gg32, .cells cur35 5), (g30, .cells cur44 5)]) (fun φ60 => []) s trivial (fun φ60 => by kernel_rfl) ?_
      intro φ60 w60 s
      refine call_rule (some 91) s (left_nil) (by kernel_rfl) ?_
      intro v61 I61 w61 le61 h61 s
      replace hl := BSl.mono le61 hl
      replace hb9 := BSl.mono le61 hb9
      replace hb13 := BSl.mono le61 hb13
      replace hle17 := leMono le61 hle17
      replace h43_0 := BSl.mono le61 h43_0
      replace hb45 := BSl.mono le61 hb45
      obtain rfl := h61
      refine ops_rule (C := []) [(b9, .cells #[.slice a9 (((l.take (min l.length 20))).length) c9, .int .i64 0, .int .i64 6] 99), (b45, .cells #[.slice a45 (List.length (pk (putBits n0 64))) c45, .int .i64 ((0 + 64 : Nat) : Int), .int .i64 0] 99), (b26, .cells #[.slice (some ⟨g30, 0, none⟩) ((pk (putBits n0 64)).length) cap30, .int .i64 ((0 + 64 : Nat) : Int)] 96), (b13, .cells #[.slice a13 (((l.take (min l.length 20))).length) c13, .int .i64 0, .int .i64 6] 99), (gg32, .cells cur35 5), (g30, .cells cur44 5)] [] 4 [] 0 (fun φ62 => [(95, .pointer none), (94, .bool true), (93, .bool true), (92, .bool true)]) (fun φ62 => [(b9, .cells #[.slice a9 (((l.take (min l.length 20))).length) c9, .int .i64 0, .int .i64 6] 99), (b45, .cells #[.slice a45 (List.length (pk (putBits n0 64))) c45, .int .i64 ((0 + 64 : Nat) : Int), .int .i64 0] 99), (b26, .cells #[.slice (some ⟨g30, 0, none⟩) ((pk (putBits n0 64)).length) cap30, .int .i64 ((0 + 64 : Nat) : Int)] 96), (b13, .cells #[.slice a13 (((l.take (min l.length 20))).length) c13, .int .i64 0, .int .i64 6] 99), (gg32, .cells cur35 5), (g30, .cells cur44 5)]) (fun φ62 => []) s trivial (fun φ62 => by kernel_rfl) ?_
      intro φ62 w62 s
      refine call_rule (some 96) s (err_nil) (by kernel_rfl) ?_
      intro v63 I63 w63 le63 h63 s
      replace hl := BSl.mono le63 hl
      replace hb9 := BSl.mono le63 hb9
      replace hb13 := BSl.mono le63 hb13
      replace hle17 := leMono le63 hle17
      replace h43_0 := BSl.mono le63 h43_0
      replace hb45 := BSl.mono le63 hb45
      obtain rfl := h63
      refine ops_rule (C := []) [(b9, .cells #[.slice a9 (((l.take (min l.length 20))).length) c9, .int .i64 0, .int .i64 6] 99), (b45, .cells #[.slice a45 (List.length (pk (putBits n0 64))) c45, .int .i64 ((0 + 64 : Nat) : Int), .int .i64 0] 99), (b26, .cells #[.slice (some ⟨g30, 0, none⟩) ((pk (putBits n0 64)).length) cap30, .int .i64 ((0 + 64 : Nat) : Int)] 96), (b13, .cells #[.slice a13 (((l.take (min l.length 20))).length) c13, .int .i64 0, .int .i64 6] 99), (gg32, .cells cur35 5), (g30, .cells cur44 5)] [] 4 [] 0 (fun φ64 => [(100, .pointer none), (99, .bool true), (98, .bool true), (97, .bool true)]) (fun φ64 => [(b9, .cells #[.slice a9 (((l.take (min l.length 20))).length) c9, .int .i64 0, .int .i64 6] 99), (b45, .cells #[.slice a45 (List.length (pk (putBits n0 64))) c45, .int .i64 ((0 + 64 : Nat) : Int), .int .i64 0] 99), (b26, .cells #[.slice (some ⟨g30, 0, none⟩) ((pk (putBits n0 64)).length) cap30, .int .i64 ((0 + 64 : Nat) : Int)] 96), (b13, .cells #[.slice a13 (((l.take (min l.length 20))).length) c13, .int .i64 0, .int .i64 6] 99), (gg32, .cells cur35 5), (g30, .cells cur44 5)]) (fun φ64 => []) s trivial (fun φ64 => by kernel_rfl) ?_
      intro φ64 w64 s
      refine call_rule (some 101) s (end_nil) (by kernel_rfl) ?_
      intro v65 I65 w65 le65 h65 s
      replace hl := BSl.mono le65 hl
      replace hb9 := BSl.mono le65 hb9
      replace hb13 := BSl.mono le65 hb13
      replace hle17 := leMono le65 hle17
      replace h43_0 := BSl.mono le65 h43_0
      replace hb45 := BSl.mono le65 hb45
      obtain rfl := h65
      refine ops_rule (C := []) [(b9, .cells #[.slice a9 (((l.take (min l.length 20))).length) c9, .int .i64 0, .int .i64 6] 99), (b45, .cells #[.slice a45 (List.length (pk (putBits n0 64))) c45, .int .i64 ((0 + 64 : Nat) : Int), .int .i64 0] 99), (b26, .cells #[.slice (some ⟨g30, 0, none⟩) ((pk (putBits n0 64)).length) cap30, .int .i64 ((0 + 64 : Nat) : Int)] 96), (b13, .cells #[.slice a13 (((l.take (min l.length 20))).length) c13, .int .i64 0, .int .i64 6] 99), (gg32, .cells cur35 5), (g30, .cells cur44 5)] [] 3 [] 0 (fun φ66 => [(4, .bool true), (103, .bool true), (102, .bool true)]) (fun φ66 => [(b9, .cells #[.slice a9 (((l.take (min l.length 20))).length) c9, .int .i64 0, .int .i64 6] 99), (b45, .cells #[.slice a45 (List.length (pk (putBits n0 64))) c45, .int .i64 ((0 + 64 : Nat) : Int), .int .i64 0] 99), (b26, .cells #[.slice (some ⟨g30, 0, none⟩) ((pk (putBits n0 64)).length) cap30, .int .i64 ((0 + 64 : Nat) : Int)] 96), (b13, .cells #[.slice a13 (((l.take (min l.length 20))).length) c13, .int .i64 0, .int .i64 6] 99), (gg32, .cells cur35 5), (g30, .cells cur44 5)]) (fun φ66 => []) s trivial (fun φ66 => by kernel_rfl) ?_
      intro φ66 w66 s
      refine ops_done (by kernel_rfl) ?_
      refine wp_ret ?_
      refine ret_rule (C := []) [(b9, .cells #[.slice a9 (((l.take (min l.length 20))).length) c9, .int .i64 0, .int .i64 6] 99), (b45, .cells #[.slice a45 (List.length (pk (putBits n0 64))) c45, .int .i64 ((0 + 64 : Nat) : Int), .int .i64 0] 99), (b26, .cells #[.slice (some ⟨g30, 0, none⟩) ((pk (putBits n0 64)).length) cap30, .int .i64 ((0 + 64 : Nat) : Int)] 96), (b13, .cells #[.slice a13 (((l.take (min l.length 20))).length) c13, .int .i64 0, .int .i64 6] 99), (gg32, .cells cur35 5), (g30, .cells cur44 5)] [] (.bool true) [] [] s trivial (by kernel_rfl) ?_
      exact ⟨_, _, _, rfl, s, rfl⟩
    ·
      exact absurd (rdN hn) (of_decide_eq_false hc51)

theorem bitsNil_c {I : IM} {l : List UInt8} {a : Option Addr} {n c : Nat} (hl : BSl I l (.slice a n c)) {n0 : Nat} (hn : n0 < 18446744073709551616) : Fun Try.prog 6 #[.slice a n c, .int .u64 ((n0 : Nat) : Int)] I (fun v J => v = .bool true) := by
  obtain ⟨rfl, -⟩ := hl.cap
  by_cases h : 8 ≤ ((l.take (min l.length 20))).length
  · exact bitsNil_long hl hn h
  · exact bitsNil_short hl hn h

end Go.Proofs.Ytpnlaeapnokipaa
