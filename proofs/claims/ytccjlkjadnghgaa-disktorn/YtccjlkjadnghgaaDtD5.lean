/- DiskTorn. -/
import Derived.Test.YtccjlkjadnghgaaDtD4
import Derived.Test.YtccjlkjadnghgaaDtB8
set_option linter.all false
set_option maxRecDepth 100000
namespace Go.Proofs.Ytccjlkjadnghgaa
open Go.RowKit Go.Sep
attribute [local irreducible] Go.wpList Go.Code.wp

theorem ll_len20 {L : List (List UInt8)} : List.length (L.take (min L.length 20)) = min L.length 20 := by rw [List.length_take]; omega
theorem equalS_c {I : IM} {l : List UInt8} {a a2 : Option Addr} {n c n2 c2 : Nat} (hl : BSl I l (.slice a n c)) (hl2 : BSl I l (.slice a2 n2 c2)) : Fun Try.prog 18 #[.slice a n c, .slice a2 n2 c2] I (fun v J => v = .bool true) := (equal_c hl hl2).mono fun v J _ h => h.trans (congrArg Value.bool (decide_eq_true rfl))
theorem St.eqH {w0 : World} {I0 : IM} {mm : List Nat} {I : IM} {w : World} {H H' : List OB} (s : St w0 I0 mm I w H) (e : H = H') : St w0 I0 mm I w H' := e ▸ s
theorem mem_w {H F Fw : List OB} : ∀ e ∈ Fw, e ∈ H ++ (F ++ Fw) := fun e he => List.mem_append_right _ (List.mem_append_right _ he)
theorem tot_snoc {es : List (Nat × List UInt8)} {k : Nat} {W q : List UInt8} (h : tot es = W.length) (hg : (mget es k).getD [] = W) : tot (mput es k (W ++ q)) = (W ++ q).length := by
  have := tot_put es k (W ++ q)
  rw [hg, h] at this; omega
theorem get_put : ∀ (es : List (Nat × List UInt8)) (k : Nat) (b : List UInt8), mget (mput es k b) k = some b
  | [], k, b => by simp [mput, mget]
  | x :: r, k, b => by
    unfold mput
    split
    · rename_i h; simp [mget, h]
    · rename_i h; simp only [mget]; rw [if_neg h]; exact get_put r k b

theorem row_castB {v : Value} {n : Nat} {l l2 : List UInt8} {F : List OB} (h : RowH 5 1 v n (l.map bV) F) (e : l = l2) : RowH 5 1 v l2.length (l2.map bV) F := by
  subst e
  have : n = l.length := by have := h.1; simpa using this.symm
  subst this; exact h

set_option maxHeartbeats 8000000 in
theorem diskTorn_c {I : IM} {L : List (List UInt8)} {a : Option Addr} {n c k : Nat} {z : Int} (hL : SSl I L (.slice a n c)) (hk : k < 256) : Fun Try.prog 4 #[.slice a n c, .int .u8 ((k : Nat) : Int), .int .i64 z] I (fun v J => v = .bool true) := by
  obtain ⟨rfl, -⟩ := hL.cap
  have hL8 := ssl_to (hi := min L.length 20) hL (by omega)
  refine enter_rule 118 [(0, .slice a L.length c), (1, .int .u8 ((k : Nat) : Int)), (2, .int .i64 z)] Try.func4 rfl (by kernel_rfl) ?_
  intro w s
  refine wp_seq ?_
  refine region_rule ?_
  refine ops_rule (C := []) [] [] 1 [] 0 (fun φ1 => [(6, .bool false)]) (fun φ1 => []) (fun φ1 => []) s trivial (fun φ1 => by kernel_rfl) ?_
  intro φ1 w1 s
  refine ops_done (by kernel_rfl) ?_
  refine wp_seq ?_
  refine wp_seq ?_
  refine region_rule ?_
  refine call_rule (some 15) s (awake11_c) (by kernel_rfl) ?_
  intro v2 I2 w2 le2 h2 s
  replace hL := SSl.mono le2 hL
  replace hL8 := SSl.mono le2 hL8
  obtain rfl := h2
  refine ops_rule (C := []) [] [] 1 [] 0 (fun φ3 => [(16, .bool false)]) (fun φ3 => []) (fun φ3 => []) s trivial (fun φ3 => by kernel_rfl) ?_
  intro φ3 w3 s
  refine ops_done (by kernel_rfl) ?_
  refine cond_false_rule (b := false) (by kernel_rfl) rfl ?_
  refine wp_skip ?_
  refine wp_seq ?_
  refine region_rule ?_
  refine ops_rule (C := []) [] [] 4 [] 0 (fun φ4 => [(20, .int .i64 (if ((20 : Nat) : Int) < ((L.length : Nat) : Int) then ((20 : Nat) : Int) else ((L.length : Nat) : Int))), (19, .int .i64 ((L.length : Nat) : Int)), (18, .slice a L.length c), (17, .slice a L.length c)]) (fun φ4 => []) (fun φ4 => []) s trivial (fun φ4 => by kernel_rfl) ?_
  intro φ4 w4 s
  rw [nat_min (a := L.length) (b := 20)]
  refine sem_rule (Instr.sliceAt 38 (.slice a L.length c) none (some (.int .i64 ((min L.length 20 : Nat) : Int))) none) (some 21) (.slice a (min L.length 20) c) (by kernel_rfl) (run_toL (by have := hL.cap.2; omega)) ?_
  refine ops_rule (C := []) [] [] 1 [] 0 (fun φ5 => [(0, .slice a (min L.length 20) c)]) (fun φ5 => []) (fun φ5 => []) s trivial (fun φ5 => by kernel_rfl) ?_
  intro φ5 w5 s
  refine ops_done (by kernel_rfl) ?_
  refine wp_seq ?_
  refine region_rule ?_
  refine callF_rule (H := []) (F := []) (some 22) s (newN_c (n := 5000)) (by kernel_rfl) ?_
  rintro v6 I6 w6 F6 le6 ⟨d, m, rfl, rfl⟩ s
  replace hL := SSl.mono le6 hL
  replace hL8 := SSl.mono le6 hL8
  replace s : St _ _ _ _ _ ([(d, .cells #[.map (some m), .int .i64 5000, .int .i64 0, .bool false, .bool false, .int .i64 0, .int .i64 0] 70), (m, .map #[] 0)] ++ (([] : List OB) ++ ([] : List OB))) := s
  refine ops_rule (C := []) [(d, .cells #[.map (some m), .int .i64 5000, .int .i64 0, .bool false, .bool false, .int .i64 0, .int .i64 0] 70), (m, .map #[] 0)] (([] : List OB) ++ ([] : List OB)) 1 [] 0 (fun φ7 => [(7, .pointer (some ⟨d, 0, none⟩))]) (fun φ7 => [(d, .cells #[.map (some m), .int .i64 5000, .int .i64 0, .bool false, .bool false, .int .i64 0, .int .i64 0] 70), (m, .map #[] 0)]) (fun φ7 => []) s trivial (fun φ7 => by kernel_rfl) ?_
  intro φ7 w7 s
  refine ops_done (by kernel_rfl) ?_
  refine wp_seq ?_
  refine region_rule ?_
  refine ops_rule (C := []) [(d, .cells #[.map (some m), .int .i64 5000, .int .i64 0, .bool false, .bool false, .int .i64 0, .int .i64 0] 70), (m, .map #[] 0)] (([] : List OB) ++ ([] : List OB)) 5 [] 0 (fun φ8 => [(8, .int .i64 (IntKind.wrap .i64 (((1 : Nat) : Int) + (IntKind.wrap .i64 (Int.tmod ((k : Nat) : Int) ((20 : Nat) : Int)))))), (26, .int .i64 (IntKind.wrap .i64 (((1 : Nat) : Int) + (IntKind.wrap .i64 (Int.tmod ((k : Nat) : Int) ((20 : Nat) : Int)))))), (25, .int .i64 (IntKind.wrap .i64 (Int.tmod ((k : Nat) : Int) ((20 : Nat) : Int)))), (24, .int .u8 (Int.tmod ((k : Nat) : Int) ((20 : Nat) : Int))), (23, .int .u8 ((k : Nat) : Int))]) (fun φ8 => [(d, .cells #[.map (some m), .int .i64 5000, .int .i64 0, .bool false, .bool false, .int .i64 0, .int .i64 0] 70), (m, .map #[] 0)]) (fun φ8 => []) s trivial (fun φ8 => by kernel_rfl) ?_
  intro φ8 w8 s
  rw [nat_rem (a := k) (b := 20)]
  rw [nat_wrapI (a := (k % 20)) (by   omega)]
  rw [nat_addI (a := 1) (b := (k % 20)) (by   omega)]
  refine ops_done (by kernel_rfl) ?_
  refine wp_seq ?_
  refine region_rule ?_
  refine ops_rule (C := []) [(d, .cells #[.map (some m), .int .i64 5000, .int .i64 0, .bool false, .bool false, .int .i64 0, .int .i64 0] 70), (m, .map #[] 0)] (([] : List OB) ++ ([] : List OB)) 3 [] 0 (fun φ9 => [(29, .int .i64 z), (28, .int .i64 ((1 + (k % 20) : Nat) : Int)), (27, .pointer (some ⟨d, 0, none⟩))]) (fun φ9 => [(d, .cells #[.map (some m), .int .i64 5000, .int .i64 0, .bool false, .bool false, .int .i64 0, .int .i64 0] 70), (m, .map #[] 0)]) (fun φ9 => []) s trivial (fun φ9 => by kernel_rfl) ?_
  intro φ9 w9 s
  refine callB_rule (b := (d, .cells #[.map (some m), .int .i64 5000, .int .i64 0, .bool false, .bool false, .int .i64 0, .int .i64 0] 70)) (H := [(d, .cells #[.map (some m), .int .i64 5000, .int .i64 0, .bool false, .bool false, .int .i64 0, .int .i64 0] 70), (m, .map #[] 0)]) (F := (([] : List OB) ++ ([] : List OB))) (Hr := [(m, .map #[] 0)]) (some 30) 0 s (by kernel_rfl) (by kernel_rfl) (arm_c (room := 5000) (used := 0) (armed := 0) (torn := 0) (n := (1 + (k % 20))) (z := z)) (by kernel_rfl) ?_
  rintro v10 I10 w10 b10 le10 - h10 s
  replace hL := SSl.mono le10 hL
  replace hL8 := SSl.mono le10 hL8
  obtain ⟨rfl, rfl⟩ := h10
  refine ops_done (by kernel_rfl) ?_
  refine wp_seq ?_
  refine region_rule ?_
  refine ops_rule (C := []) [(d, .cells #[.map (some m), .int .i64 5000, .int .i64 0, .bool false, .bool false, .int .i64 (((1 + (k % 20)) : Nat) : Int), .int .i64 ((z.toNat : Nat) : Int)] 70), (m, .map #[] 0)] (([] : List OB) ++ ([] : List OB)) 1 [] 0 (fun φ11 => [(9, .slice none 0 0)]) (fun φ11 => [(d, .cells #[.map (some m), .int .i64 5000, .int .i64 0, .bool false, .bool false, .int .i64 (((1 + (k % 20)) : Nat) : Int), .int .i64 ((z.toNat : Nat) : Int)] 70), (m, .map #[] 0)]) (fun φ11 => []) s trivial (fun φ11 => by kernel_rfl) ?_
  intro φ11 w11 s
  refine ops_done (by kernel_rfl) ?_
  refine wp_seq ?_
  refine wp_seq ?_
  refine region_rule ?_
  refine ops_rule (C := []) [(d, .cells #[.map (some m), .int .i64 5000, .int .i64 0, .bool false, .bool false, .int .i64 (((1 + (k % 20)) : Nat) : Int), .int .i64 ((z.toNat : Nat) : Int)] 70), (m, .map #[] 0)] (([] : List OB) ++ ([] : List OB)) 3 [] 0 (fun φ12 => [(33, .int .i64 0), (32, .int .i64 (((min L.length 20) : Nat) : Int)), (31, .slice a (min L.length 20) c)]) (fun φ12 => [(d, .cells #[.map (some m), .int .i64 5000, .int .i64 0, .bool false, .bool false, .int .i64 (((1 + (k % 20)) : Nat) : Int), .int .i64 ((z.toNat : Nat) : Int)] 70), (m, .map #[] 0)]) (fun φ12 => []) s trivial (fun φ12 => by kernel_rfl) ?_
  intro φ12 w12 s
  refine ops_done (by kernel_rfl) ?_
  refine wp_block ?_
  have e1 : decide ((1 + (k % 20)) ≤ 0) = false := decide_eq_false (by omega)
  replace s := St.eqH (H' := [(d, .cells #[.map (some m), .int .i64 5000, .int .i64 ((List.length ([] : List UInt8) : Nat) : Int), .bool false, .bool (decide ((1 + (k % 20)) ≤ 0)), .int .i64 (((1 + (k % 20)) - 0 : Nat) : Int), .int .i64 ((z.toNat : Nat) : Int)] 70), (m, .map #[] 0)] ++ (([] : List OB) ++ ([] : List OB))) s (by first | (rw [e1, Nat.sub_zero]; done) | (rw [e1, Nat.sub_zero]; rfl))
  have hle13 := IM.Le.refl I10
  refine loop_rule (fun (x : Nat × List (Nat × List UInt8) × Array MapEntry × Nat × List OB × Value × List OB × List UInt8) => [(0, .slice a (min L.length 20) c), (2, .int .i64 z), (7, .pointer (some ⟨d, 0, none⟩)), (8, .int .i64 ((1 + (k % 20) : Nat) : Int)), (31, .slice a (min L.length 20) c), (32, .int .i64 (((min L.length 20) : Nat) : Int)), (33, .int .i64 ((x.1 : Nat) : Int)), (9, x.2.2.2.2.2.1)]) (fun (x : Nat × List (Nat × List UInt8) × Array MapEntry × Nat × List OB × Value × List OB × List UInt8) => [(d, .cells #[.map (some m), .int .i64 5000, .int .i64 ((List.length x.2.2.2.2.2.2.2 : Nat) : Int), .bool false, .bool (decide ((1 + (k % 20)) ≤ x.1)), .int .i64 (((1 + (k % 20)) - x.1 : Nat) : Int), .int .i64 ((z.toNat : Nat) : Int)] 70), (m, .map x.2.2.1 x.2.2.2.1)] ++ (x.2.2.2.2.1 ++ x.2.2.2.2.2.2.1)) (fun m (x : Nat × List (Nat × List UInt8) × Array MapEntry × Nat × List OB × Value × List OB × List UInt8) J => IM.Le I10 J ∧ x.1 + m = (min L.length 20) ∧ MapP x.2.1 x.2.2.1 x.2.2.2.2.1 ∧ RowH 5 1 x.2.2.2.2.2.1 (x.2.2.2.2.2.2.2).length ((x.2.2.2.2.2.2.2).map bV) x.2.2.2.2.2.2.1 ∧ tot x.2.1 = List.length x.2.2.2.2.2.2.2 ∧ (mget x.2.1 7).getD [] = x.2.2.2.2.2.2.2 ∧ List.length x.2.2.2.2.2.2.2 ≤ 40 * x.1) ((min L.length 20)) (0, ([] : List (Nat × List UInt8)), #[], 0, ([] : List OB), (Value.slice none 0 0), ([] : List OB), ([] : List UInt8)) s (by kernel_rfl) (List.Sublist.refl _) ⟨IM.Le.refl _, Nat.zero_add _, map_empty, row_nilB, rfl, rfl, Nat.le_refl _⟩ ?_
  rintro m14 ⟨i14, es14, arr14, clk14, F14, v14, Fw14, W14⟩ I14 w14 ev14 s ⟨le14, hi14_0, hi14_1, hi14_2, hi14_3, hi14_4, hi14_5⟩
  try dsimp only at s hi14_0 hi14_1 hi14_2 hi14_3 hi14_4 hi14_5 ⊢
  replace hL := SSl.mono le14 hL
  replace hL8 := SSl.mono le14 hL8
  replace hle13 := leMono le14 hle13
  refine wp_seq ?_
  refine region_rule ?_
  refine ops_rule (C := []) [(d, .cells #[.map (some m), .int .i64 5000, .int .i64 ((List.length W14 : Nat) : Int), .bool false, .bool (decide ((1 + (k % 20)) ≤ i14)), .int .i64 (((1 + (k % 20)) - i14 : Nat) : Int), .int .i64 ((z.toNat : Nat) : Int)] 70), (m, .map arr14 clk14)] (F14 ++ Fw14) 1 [] 0 (fun φ15 => [(34, .bool (decide (((i14 : Nat) : Int) < (((min L.length 20) : Nat) : Int))))]) (fun φ15 => [(d, .cells #[.map (some m), .int .i64 5000, .int .i64 ((List.length W14 : Nat) : Int), .bool false, .bool (decide ((1 + (k % 20)) ≤ i14)), .int .i64 (((1 + (k % 20)) - i14 : Nat) : Int), .int .i64 ((z.toNat : Nat) : Int)] 70), (m, .map arr14 clk14)]) (fun φ15 => []) s trivial (fun φ15 => by kernel_rfl) ?_
  intro φ15 w15 s
  rw [nat_lss (a := i14) (b := (min L.length 20))]
  refine ops_done (by kernel_rfl) ?_
  refine wp_seq ?_
  rcases Bool.eq_false_or_eq_true (decide (i14 < (min L.length 20))) with hc16 | hc16
  ·
    rw [hc16]
    refine cond_true_rule (b := true) (by kernel_rfl) rfl ?_
    refine wp_skip ?_
    refine wp_seq ?_
    refine wp_block ?_
    refine wp_seq ?_
    refine region_rule ?_
    refine ops_rule (C := []) [(d, .cells #[.map (some m), .int .i64 5000, .int .i64 ((List.length W14 : Nat) : Int), .bool false, .bool (decide ((1 + (k % 20)) ≤ i14)), .int .i64 (((1 + (k % 20)) - i14 : Nat) : Int), .int .i64 ((z.toNat : Nat) : Int)] 70), (m, .map arr14 clk14)] (F14 ++ Fw14) 1 [] 0 (fun φ17 => [(35, .int .i64 ((i14 : Nat) : Int))]) (fun φ17 => [(d, .cells #[.map (some m), .int .i64 5000, .int .i64 ((List.length W14 : Nat) : Int), .bool false, .bool (decide ((1 + (k % 20)) ≤ i14)), .int .i64 (((1 + (k % 20)) - i14 : Nat) : Int), .int .i64 ((z.toNat : Nat) : Int)] 70), (m, .map arr14 clk14)]) (fun φ17 => []) s trivial (fun φ17 => by kernel_rfl) ?_
    intro φ17 w17 s
    refine sem_rule (Instr.indexAt 38 (.slice a (min L.length 20) c) (.int .i64 ((i14 : Nat) : Int))) (some 36) (.pointer (pAt a i14)) (by kernel_rfl) (ssl_idx hL8 (by rw [ll_len20]; have hq0 := of_decide_eq_true hc16; omega)) ?_
    obtain ⟨a18, c18, hr18, hb18⟩ := ssl_ld s.sub hL8 (show i14 < List.length (L.take (min L.length 20)) by rw [ll_len20]; have hq0 := of_decide_eq_true hc16; omega)
    refine sem_rule (Instr.loadAt 29 (.pointer (pAt a i14))) (some 37) (.slice a18 (List.length ((L.take (min L.length 20)).getD i14 [])) c18) (by kernel_rfl) hr18 ?_
    refine ops_rule (C := []) [(d, .cells #[.map (some m), .int .i64 5000, .int .i64 ((List.length W14 : Nat) : Int), .bool false, .bool (decide ((1 + (k % 20)) ≤ i14)), .int .i64 (((1 + (k % 20)) - i14 : Nat) : Int), .int .i64 ((z.toNat : Nat) : Int)] 70), (m, .map arr14 clk14)] (F14 ++ Fw14) 2 [] 0 (fun φ19 => [(11, .slice a18 (List.length ((L.take (min L.length 20)).getD i14 [])) c18), (10, .int .i64 ((i14 : Nat) : Int))]) (fun φ19 => [(d, .cells #[.map (some m), .int .i64 5000, .int .i64 ((List.length W14 : Nat) : Int), .bool false, .bool (decide ((1 + (k % 20)) ≤ i14)), .int .i64 (((1 + (k % 20)) - i14 : Nat) : Int), .int .i64 ((z.toNat : Nat) : Int)] 70), (m, .map arr14 clk14)]) (fun φ19 => []) s trivial (fun φ19 => by kernel_rfl) ?_
    intro φ19 w19 s
    refine ops_done (by kernel_rfl) ?_
    refine wp_seq ?_
    refine region_rule ?_
    refine ops_rule (C := []) [(d, .cells #[.map (some m), .int .i64 5000, .int .i64 ((List.length W14 : Nat) : Int), .bool false, .bool (decide ((1 + (k % 20)) ≤ i14)), .int .i64 (((1 + (k % 20)) - i14 : Nat) : Int), .int .i64 ((z.toNat : Nat) : Int)] 70), (m, .map arr14 clk14)] (F14 ++ Fw14) 1 [] 0 (fun φ20 => [(38, .slice a18 (List.length ((L.take (min L.length 20)).getD i14 [])) c18)]) (fun φ20 => [(d, .cells #[.map (some m), .int .i64 5000, .int .i64 ((List.length W14 : Nat) : Int), .bool false, .bool (decide ((1 + (k % 20)) ≤ i14)), .int .i64 (((1 + (k % 20)) - i14 : Nat) : Int), .int .i64 ((z.toNat : Nat) : Int)] 70), (m, .map arr14 clk14)]) (fun φ20 => []) s trivial (fun φ20 => by kernel_rfl) ?_
    intro φ20 w20 s
    refine call_rule (some 39) s (cut_c hb18) (by kernel_rfl) ?_
    intro v21 I21 w21 le21 h21 s
    replace hL := SSl.mono le21 hL
    replace hL8 := SSl.mono le21 hL8
    replace hle13 := leMono le21 hle13
    replace hb18 := BSl.mono le21 hb18
    obtain ⟨a21, c21, rfl, h21_0⟩ := h21
    refine ops_rule (C := []) [(d, .cells #[.map (some m), .int .i64 5000, .int .i64 ((List.length W14 : Nat) : Int), .bool false, .bool (decide ((1 + (k % 20)) ≤ i14)), .int .i64 (((1 + (k % 20)) - i14 : Nat) : Int), .int .i64 ((z.toNat : Nat) : Int)] 70), (m, .map arr14 clk14)] (F14 ++ Fw14) 1 [] 0 (fun φ22 => [(11, .slice a21 (List.length (((L.take (min L.length 20)).getD i14 []).take 40)) c21)]) (fun φ22 => [(d, .cells #[.map (some m), .int .i64 5000, .int .i64 ((List.length W14 : Nat) : Int), .bool false, .bool (decide ((1 + (k % 20)) ≤ i14)), .int .i64 (((1 + (k % 20)) - i14 : Nat) : Int), .int .i64 ((z.toNat : Nat) : Int)] 70), (m, .map arr14 clk14)]) (fun φ22 => []) s trivial (fun φ22 => by kernel_rfl) ?_
    intro φ22 w22 s
    refine ops_done (by kernel_rfl) ?_
    refine wp_seq ?_
    refine region_rule ?_
    refine ops_rule (C := []) [(d, .cells #[.map (some m), .int .i64 5000, .int .i64 ((List.length W14 : Nat) : Int), .bool false, .bool (decide ((1 + (k % 20)) ≤ i14)), .int .i64 (((1 + (k % 20)) - i14 : Nat) : Int), .int .i64 ((z.toNat : Nat) : Int)] 70), (m, .map arr14 clk14)] (F14 ++ Fw14) 2 [] 0 (fun φ23 => [(41, .slice a21 (List.length (((L.take (min L.length 20)).getD i14 []).take 40)) c21), (40, .pointer (some ⟨d, 0, none⟩))]) (fun φ23 => [(d, .cells #[.map (some m), .int .i64 5000, .int .i64 ((List.length W14 : Nat) : Int), .bool false, .bool (decide ((1 + (k % 20)) ≤ i14)), .int .i64 (((1 + (k % 20)) - i14 : Nat) : Int), .int .i64 ((z.toNat : Nat) : Int)] 70), (m, .map arr14 clk14)]) (fun φ23 => []) s trivial (fun φ23 => by kernel_rfl) ?_
    intro φ23 w23 s
    rcases Bool.eq_false_or_eq_true (decide ((1 + (k % 20)) ≤ i14)) with hc24 | hc24
    ·
      try rw [hc24]
      rw [hc24] at s
      refine callD_rule (d0 := (d, .cells #[.map (some m), .int .i64 5000, .int .i64 ((List.length W14 : Nat) : Int), .bool false, .bool true, .int .i64 (((1 + (k % 20)) - i14 : Nat) : Int), .int .i64 ((z.toNat : Nat) : Int)] 70)) (m0 := (m, .map arr14 clk14)) (Hr := []) (F := F14) (Fw := Fw14) (some 42) s (appOff_c (full := false) (room := 5000) (used := List.length W14) (armed := ((1 + (k % 20)) - i14)) (torn := z.toNat) (k := 7) h21_0 hi14_1 (by have h7 := hi14_5; have h6 := hi14_0; (try simp only [List.length_take]); have hq0 := of_decide_eq_true hc16; have hq1 := of_decide_eq_true hc24; omega) (by decide) (by have h7 := hi14_5; have h6 := hi14_0; (try simp only [List.length_take]); have hq0 := of_decide_eq_true hc16; have hq1 := of_decide_eq_true hc24; omega) (by rw [hi14_3]; have h7 := hi14_5; have h6 := hi14_0; (try simp only [List.length_take]); have hq0 := of_decide_eq_true hc16; have hq1 := of_decide_eq_true hc24; omega)) (by kernel_rfl) ?_
      rintro v25 I25 w25 d25 m25 F25 le25 ⟨arr25, clk25, rfl, rfl, rfl, hM25⟩ s
      replace hL := SSl.mono le25 hL
      replace hL8 := SSl.mono le25 hL8
      replace hle13 := leMono le25 hle13
      replace hb18 := BSl.mono le25 hb18
      replace h21_0 := BSl.mono le25 h21_0
      replace s : St _ _ _ _ _ ([(d, .cells #[.map (some m), .int .i64 5000, .int .i64 ((List.length W14 : Nat) : Int), .bool false, .bool true, .int .i64 (((1 + (k % 20)) - i14 : Nat) : Int), .int .i64 ((z.toNat : Nat) : Int)] 70), (m, .map arr25 clk25)] ++ (F25 ++ Fw14)) := s
      replace hM25 : MapP es14 arr25 F25 := hM25
      refine ops_rule (C := []) [(d, .cells #[.map (some m), .int .i64 5000, .int .i64 ((List.length W14 : Nat) : Int), .bool false, .bool true, .int .i64 (((1 + (k % 20)) - i14 : Nat) : Int), .int .i64 ((z.toNat : Nat) : Int)] 70), (m, .map arr25 clk25)] (F25 ++ Fw14) 1 [] 0 (fun φ26 => [(12, .int .i64 10)]) (fun φ26 => [(d, .cells #[.map (some m), .int .i64 5000, .int .i64 ((List.length W14 : Nat) : Int), .bool false, .bool true, .int .i64 (((1 + (k % 20)) - i14 : Nat) : Int), .int .i64 ((z.toNat : Nat) : Int)] 70), (m, .map arr25 clk25)]) (fun φ26 => []) s trivial (fun φ26 => by kernel_rfl) ?_
      intro φ26 w26 s
      refine ops_done (by kernel_rfl) ?_
      refine wp_seq ?_
      refine wp_block ?_
      refine wp_seq ?_
      refine region_rule ?_
      refine ops_rule (C := []) [(d, .cells #[.map (some m), .int .i64 5000, .int .i64 ((List.length W14 : Nat) : Int), .bool false, .bool true, .int .i64 (((1 + (k % 20)) - i14 : Nat) : Int), .int .i64 ((z.toNat : Nat) : Int)] 70), (m, .map arr25 clk25)] (F25 ++ Fw14) 5 [] 0 (fun φ27 => [(43, .bool (decide ((IntKind.wrap .i64 (((i14 : Nat) : Int) + ((1 : Nat) : Int))) < ((1 + (k % 20) : Nat) : Int)))), (47, .bool (decide ((IntKind.wrap .i64 (((i14 : Nat) : Int) + ((1 : Nat) : Int))) < ((1 + (k % 20) : Nat) : Int)))), (46, .int .i64 ((1 + (k % 20) : Nat) : Int)), (45, .int .i64 (IntKind.wrap .i64 (((i14 : Nat) : Int) + ((1 : Nat) : Int)))), (44, .int .i64 ((i14 : Nat) : Int))]) (fun φ27 => [(d, .cells #[.map (some m), .int .i64 5000, .int .i64 ((List.length W14 : Nat) : Int), .bool false, .bool true, .int .i64 (((1 + (k % 20)) - i14 : Nat) : Int), .int .i64 ((z.toNat : Nat) : Int)] 70), (m, .map arr25 clk25)]) (fun φ27 => []) s trivial (fun φ27 => by kernel_rfl) ?_
      intro φ27 w27 s
      rw [nat_addI (a := i14) (b := 1) (by have h6 := hi14_0; have h7 := hi14_5;  have hq0 := of_decide_eq_true hc16; have hq1 := of_decide_eq_true hc24; omega)]
      rw [nat_lss (a := (i14 + 1)) (b := (1 + (k % 20)))]
      refine ops_done (by kernel_rfl) ?_
      rcases Bool.eq_false_or_eq_true (decide ((i14 + 1) < (1 + (k % 20)))) with hc28 | hc28
      ·
        exact absurd (of_decide_eq_true hc28) (by have h6 := hi14_0; have hq0 := of_decide_eq_true hc16; have hq1 := of_decide_eq_true hc24; omega)
      ·
        rw [hc28]
        refine cond_false_rule (b := false) (by kernel_rfl) rfl ?_
        refine wp_seq ?_
        refine region_rule ?_
        refine ops_rule (C := []) [(d, .cells #[.map (some m), .int .i64 5000, .int .i64 ((List.length W14 : Nat) : Int), .bool false, .bool true, .int .i64 (((1 + (k % 20)) - i14 : Nat) : Int), .int .i64 ((z.toNat : Nat) : Int)] 70), (m, .map arr25 clk25)] (F25 ++ Fw14) 5 [] 0 (fun φ29 => [(51, .bool ((IntKind.wrap .i64 (((i14 : Nat) : Int) + ((1 : Nat) : Int))) == ((1 + (k % 20) : Nat) : Int))), (55, .bool ((IntKind.wrap .i64 (((i14 : Nat) : Int) + ((1 : Nat) : Int))) == ((1 + (k % 20) : Nat) : Int))), (54, .int .i64 ((1 + (k % 20) : Nat) : Int)), (53, .int .i64 (IntKind.wrap .i64 (((i14 : Nat) : Int) + ((1 : Nat) : Int)))), (52, .int .i64 ((i14 : Nat) : Int))]) (fun φ29 => [(d, .cells #[.map (some m), .int .i64 5000, .int .i64 ((List.length W14 : Nat) : Int), .bool false, .bool true, .int .i64 (((1 + (k % 20)) - i14 : Nat) : Int), .int .i64 ((z.toNat : Nat) : Int)] 70), (m, .map arr25 clk25)]) (fun φ29 => []) s trivial (fun φ29 => by kernel_rfl) ?_
        intro φ29 w29 s
        rw [nat_addI (a := i14) (b := 1) (by have h6 := hi14_0; have h7 := hi14_5;  have hq0 := of_decide_eq_true hc16; have hq1 := of_decide_eq_true hc24; have hq2 := of_decide_eq_false hc28; omega)]
        rw [nat_eql (a := (i14 + 1)) (b := (1 + (k % 20)))]
        refine ops_done (by kernel_rfl) ?_
        rcases Bool.eq_false_or_eq_true (decide ((i14 + 1) = (1 + (k % 20)))) with hc30 | hc30
        ·
          exact absurd (of_decide_eq_true hc30) (by have h6 := hi14_0; have hq0 := of_decide_eq_true hc16; have hq1 := of_decide_eq_true hc24; have hq2 := of_decide_eq_false hc28; omega)
        ·
          rw [hc30]
          refine cond_false_rule (b := false) (by kernel_rfl) rfl ?_
          refine wp_skip ?_
          refine wp_seq ?_
          refine region_rule ?_
          refine ops_rule (C := []) [(d, .cells #[.map (some m), .int .i64 5000, .int .i64 ((List.length W14 : Nat) : Int), .bool false, .bool true, .int .i64 (((1 + (k % 20)) - i14 : Nat) : Int), .int .i64 ((z.toNat : Nat) : Int)] 70), (m, .map arr25 clk25)] (F25 ++ Fw14) 6 [] 0 (fun φ31 => [(70, .bool (decide ((IntKind.wrap .i64 (((i14 : Nat) : Int) + ((1 : Nat) : Int))) < ((1 + (k % 20) : Nat) : Int)))), (69, .int .i64 ((1 + (k % 20) : Nat) : Int)), (68, .int .i64 (IntKind.wrap .i64 (((i14 : Nat) : Int) + ((1 : Nat) : Int)))), (67, .int .i64 ((i14 : Nat) : Int)), (66, .bool false), (65, .int .i64 10)]) (fun φ31 => [(d, .cells #[.map (some m), .int .i64 5000, .int .i64 ((List.length W14 : Nat) : Int), .bool false, .bool true, .int .i64 (((1 + (k % 20)) - i14 : Nat) : Int), .int .i64 ((z.toNat : Nat) : Int)] 70), (m, .map arr25 clk25)]) (fun φ31 => []) s trivial (fun φ31 => by kernel_rfl) ?_
          intro φ31 w31 s
          rw [nat_addI (a := i14) (b := 1) (by have h6 := hi14_0; have h7 := hi14_5;  have hq0 := of_decide_eq_true hc16; have hq1 := of_decide_eq_true hc24; have hq2 := of_decide_eq_false hc28; have hq3 := of_decide_eq_false hc30; omega)]
          rw [nat_lss (a := (i14 + 1)) (b := (1 + (k % 20)))]
          rw [hc28]
          refine ops_rule (C := []) [(d, .cells #[.map (some m), .int .i64 5000, .int .i64 ((List.length W14 : Nat) : Int), .bool false, .bool true, .int .i64 (((1 + (k % 20)) - i14 : Nat) : Int), .int .i64 ((z.toNat : Nat) : Int)] 70), (m, .map arr25 clk25)] (F25 ++ Fw14) 9 [] 0 (fun φ32 => [(79, .bool false), (78, .bool false), (77, .bool false), (76, .int .i64 10), (75, .bool true), (74, .bool true), (73, .int .i64 10), (72, .bool false), (71, .bool false)]) (fun φ32 => [(d, .cells #[.map (some m), .int .i64 5000, .int .i64 ((List.length W14 : Nat) : Int), .bool false, .bool true, .int .i64 (((1 + (k % 20)) - i14 : Nat) : Int), .int .i64 ((z.toNat : Nat) : Int)] 70), (m, .map arr25 clk25)]) (fun φ32 => []) s trivial (fun φ32 => by kernel_rfl) ?_
          intro φ32 w32 s
          refine ops_done (by kernel_rfl) ?_
          refine cond_false_rule (b := false) (by kernel_rfl) rfl ?_
          refine wp_skip ?_
          refine region_rule ?_
          refine ops_rule (C := []) [(d, .cells #[.map (some m), .int .i64 5000, .int .i64 ((List.length W14 : Nat) : Int), .bool false, .bool true, .int .i64 (((1 + (k % 20)) - i14 : Nat) : Int), .int .i64 ((z.toNat : Nat) : Int)] 70), (m, .map arr25 clk25)] (F25 ++ Fw14) 2 [] 0 (fun φ33 => [(33, .int .i64 (IntKind.wrap .i64 (((i14 : Nat) : Int) + ((1 : Nat) : Int)))), (80, .int .i64 (IntKind.wrap .i64 (((i14 : Nat) : Int) + ((1 : Nat) : Int))))]) (fun φ33 => [(d, .cells #[.map (some m), .int .i64 5000, .int .i64 ((List.length W14 : Nat) : Int), .bool false, .bool true, .int .i64 (((1 + (k % 20)) - i14 : Nat) : Int), .int .i64 ((z.toNat : Nat) : Int)] 70), (m, .map arr25 clk25)]) (fun φ33 => []) s trivial (fun φ33 => by kernel_rfl) ?_
          intro φ33 w33 s
          rw [nat_addI (a := i14) (b := 1) (by have h6 := hi14_0; have h7 := hi14_5;  have hq0 := of_decide_eq_true hc16; have hq1 := of_decide_eq_true hc24; have hq2 := of_decide_eq_false hc28; have hq3 := of_decide_eq_false hc30; have hq4 := of_decide_eq_false hc28; omega)]
          refine ops_done (by kernel_rfl) ?_
          have hq0 := of_decide_eq_true hc16
          have hq1 := of_decide_eq_true hc24
          have e1 : decide ((1 + (k % 20)) ≤ i14 + 1) = true := decide_eq_true (by omega)
          have e2 : (1 + (k % 20)) - (i14 + 1) = (1 + (k % 20)) - i14 := (by omega)
          replace s := St.eqH (H' := [(d, .cells #[.map (some m), .int .i64 5000, .int .i64 ((List.length W14 : Nat) : Int), .bool false, .bool (decide ((1 + (k % 20)) ≤ (i14 + 1))), .int .i64 (((1 + (k % 20)) - (i14 + 1) : Nat) : Int), .int .i64 ((z.toNat : Nat) : Int)] 70), (m, .map arr25 clk25)] ++ (F25 ++ Fw14)) s (by first | (rw [e1, e2]; done) | (rw [e1, e2]; rfl))
          exact ⟨⟨m14 - 1, ((i14 + 1), es14, arr25, clk25, F25, v14, Fw14, W14), _, _, _, by omega, rfl, s, (List.Sublist.append (List.Sublist.cons₂ _ (List.Sublist.cons₂ _ List.Sublist.slnil)) (List.Sublist.refl _)), by kernel_rfl, hle13, by show i14 + 1 + (m14 - 1) = (min L.length 20); omega, hM25, hi14_2, hi14_3, hi14_4, by show List.length W14 ≤ 40 * (i14 + 1); have h7 := hi14_5; omega⟩⟩
    ·
      try rw [hc24]
      rw [hc24] at s
      rcases Bool.eq_false_or_eq_true (decide ((1 + (k % 20)) - i14 = 1)) with hc34 | hc34
      ·
        refine callD_rule (d0 := (d, .cells #[.map (some m), .int .i64 5000, .int .i64 ((List.length W14 : Nat) : Int), .bool false, .bool false, .int .i64 (((1 + (k % 20)) - i14 : Nat) : Int), .int .i64 ((z.toNat : Nat) : Int)] 70)) (m0 := (m, .map arr14 clk14)) (Hr := []) (F := F14) (Fw := Fw14) (some 42) s (appGo_c (room := 5000) (used := List.length W14) (armed := ((1 + (k % 20)) - i14)) (torn := z.toNat) (k := 7) (q := ((((L.take (min L.length 20)).getD i14 []).take 40).take z.toNat)) h21_0 hi14_1 (by have h7 := hi14_5; have h6 := hi14_0; (try simp only [List.length_take]); have hq0 := of_decide_eq_true hc16; have hq1 := of_decide_eq_false hc24; have hq2 := of_decide_eq_true hc34; omega) (by decide) (by have h7 := hi14_5; have h6 := hi14_0; (try simp only [List.length_take]); have hq0 := of_decide_eq_true hc16; have hq1 := of_decide_eq_false hc24; have hq2 := of_decide_eq_true hc34; omega) (by rw [hi14_3]; have h7 := hi14_5; have h6 := hi14_0; (try simp only [List.length_take]); have hq0 := of_decide_eq_true hc16; have hq1 := of_decide_eq_false hc24; have hq2 := of_decide_eq_true hc34; omega) (by have h7 := hi14_5; have h6 := hi14_0; (try simp only [List.length_take]); have hq0 := of_decide_eq_true hc16; have hq1 := of_decide_eq_false hc24; have hq2 := of_decide_eq_true hc34; omega) (if_pos (of_decide_eq_true hc34))) (by kernel_rfl) ?_
        rintro v35 I35 w35 d35 m35 F35 le35 ⟨arr35, clk35, rfl, rfl, rfl, hM35⟩ s
        replace hL := SSl.mono le35 hL
        replace hL8 := SSl.mono le35 hL8
        replace hle13 := leMono le35 hle13
        replace hb18 := BSl.mono le35 hb18
        replace h21_0 := BSl.mono le35 h21_0
        rw [show cntE ((1 + (k % 20)) - i14) = 10 from (if_pos (of_decide_eq_true hc34))]
        rw [show decide (((1 + (k % 20)) - i14) = 1) = true from hc34] at s
        rw [hi14_4] at hM35
        replace s : St _ _ _ _ _ ([(d, .cells #[.map (some m), .int .i64 5000, .int .i64 ((List.length W14 + List.length ((((L.take (min L.length 20)).getD i14 []).take 40).take z.toNat) : Nat) : Int), .bool false, .bool true, .int .i64 ((((1 + (k % 20)) - i14) - 1 : Nat) : Int), .int .i64 ((z.toNat : Nat) : Int)] 70), (m, .map arr35 clk35)] ++ (F35 ++ Fw14)) := s
        replace hM35 : MapP (mput es14 7 (W14 ++ ((((L.take (min L.length 20)).getD i14 []).take 40).take z.toNat))) arr35 F35 := hM35
        refine ops_rule (C := []) [(d, .cells #[.map (some m), .int .i64 5000, .int .i64 ((List.length W14 + List.length ((((L.take (min L.length 20)).getD i14 []).take 40).take z.toNat) : Nat) : Int), .bool false, .bool true, .int .i64 ((((1 + (k % 20)) - i14) - 1 : Nat) : Int), .int .i64 ((z.toNat : Nat) : Int)] 70), (m, .map arr35 clk35)] (F35 ++ Fw14) 1 [] 0 (fun φ36 => [(12, .int .i64 10)]) (fun φ36 => [(d, .cells #[.map (some m), .int .i64 5000, .int .i64 ((List.length W14 + List.length ((((L.take (min L.length 20)).getD i14 []).take 40).take z.toNat) : Nat) : Int), .bool false, .bool true, .int .i64 ((((1 + (k % 20)) - i14) - 1 : Nat) : Int), .int .i64 ((z.toNat : Nat) : Int)] 70), (m, .map arr35 clk35)]) (fun φ36 => []) s trivial (fun φ36 => by kernel_rfl) ?_
        intro φ36 w36 s
        refine ops_done (by kernel_rfl) ?_
        refine wp_seq ?_
        refine wp_block ?_
        refine wp_seq ?_
        refine region_rule ?_
        refine ops_rule (C := []) [(d, .cells #[.map (some m), .int .i64 5000, .int .i64 ((List.length W14 + List.length ((((L.take (min L.length 20)).getD i14 []).take 40).take z.toNat) : Nat) : Int), .bool false, .bool true, .int .i64 ((((1 + (k % 20)) - i14) - 1 : Nat) : Int), .int .i64 ((z.toNat : Nat) : Int)] 70), (m, .map arr35 clk35)] (F35 ++ Fw14) 5 [] 0 (fun φ37 => [(43, .bool (decide ((IntKind.wrap .i64 (((i14 : Nat) : Int) + ((1 : Nat) : Int))) < ((1 + (k % 20) : Nat) : Int)))), (47, .bool (decide ((IntKind.wrap .i64 (((i14 : Nat) : Int) + ((1 : Nat) : Int))) < ((1 + (k % 20) : Nat) : Int)))), (46, .int .i64 ((1 + (k % 20) : Nat) : Int)), (45, .int .i64 (IntKind.wrap .i64 (((i14 : Nat) : Int) + ((1 : Nat) : Int)))), (44, .int .i64 ((i14 : Nat) : Int))]) (fun φ37 => [(d, .cells #[.map (some m), .int .i64 5000, .int .i64 ((List.length W14 + List.length ((((L.take (min L.length 20)).getD i14 []).take 40).take z.toNat) : Nat) : Int), .bool false, .bool true, .int .i64 ((((1 + (k % 20)) - i14) - 1 : Nat) : Int), .int .i64 ((z.toNat : Nat) : Int)] 70), (m, .map arr35 clk35)]) (fun φ37 => []) s trivial (fun φ37 => by kernel_rfl) ?_
        intro φ37 w37 s
        rw [nat_addI (a := i14) (b := 1) (by have h6 := hi14_0; have h7 := hi14_5;  have hq0 := of_decide_eq_true hc16; have hq1 := of_decide_eq_false hc24; have hq2 := of_decide_eq_true hc34; omega)]
        rw [nat_lss (a := (i14 + 1)) (b := (1 + (k % 20)))]
        refine ops_done (by kernel_rfl) ?_
        rcases Bool.eq_false_or_eq_true (decide ((i14 + 1) < (1 + (k % 20)))) with hc38 | hc38
        ·
          exact absurd (of_decide_eq_true hc38) (by have h6 := hi14_0; have hq0 := of_decide_eq_true hc16; have hq1 := of_decide_eq_false hc24; have hq2 := of_decide_eq_true hc34; omega)
        ·
          rw [hc38]
          refine cond_false_rule (b := false) (by kernel_rfl) rfl ?_
          refine wp_seq ?_
          refine region_rule ?_
          refine ops_rule (C := []) [(d, .cells #[.map (some m), .int .i64 5000, .int .i64 ((List.length W14 + List.length ((((L.take (min L.length 20)).getD i14 []).take 40).take z.toNat) : Nat) : Int), .bool false, .bool true, .int .i64 ((((1 + (k % 20)) - i14) - 1 : Nat) : Int), .int .i64 ((z.toNat : Nat) : Int)] 70), (m, .map arr35 clk35)] (F35 ++ Fw14) 5 [] 0 (fun φ39 => [(51, .bool ((IntKind.wrap .i64 (((i14 : Nat) : Int) + ((1 : Nat) : Int))) == ((1 + (k % 20) : Nat) : Int))), (55, .bool ((IntKind.wrap .i64 (((i14 : Nat) : Int) + ((1 : Nat) : Int))) == ((1 + (k % 20) : Nat) : Int))), (54, .int .i64 ((1 + (k % 20) : Nat) : Int)), (53, .int .i64 (IntKind.wrap .i64 (((i14 : Nat) : Int) + ((1 : Nat) : Int)))), (52, .int .i64 ((i14 : Nat) : Int))]) (fun φ39 => [(d, .cells #[.map (some m), .int .i64 5000, .int .i64 ((List.length W14 + List.length ((((L.take (min L.length 20)).getD i14 []).take 40).take z.toNat) : Nat) : Int), .bool false, .bool true, .int .i64 ((((1 + (k % 20)) - i14) - 1 : Nat) : Int), .int .i64 ((z.toNat : Nat) : Int)] 70), (m, .map arr35 clk35)]) (fun φ39 => []) s trivial (fun φ39 => by kernel_rfl) ?_
          intro φ39 w39 s
          rw [nat_addI (a := i14) (b := 1) (by have h6 := hi14_0; have h7 := hi14_5;  have hq0 := of_decide_eq_true hc16; have hq1 := of_decide_eq_false hc24; have hq2 := of_decide_eq_true hc34; have hq3 := of_decide_eq_false hc38; omega)]
          rw [nat_eql (a := (i14 + 1)) (b := (1 + (k % 20)))]
          refine ops_done (by kernel_rfl) ?_
          rcases Bool.eq_false_or_eq_true (decide ((i14 + 1) = (1 + (k % 20)))) with hc40 | hc40
          ·
            rw [hc40]
            refine cond_true_rule (b := true) (by kernel_rfl) rfl ?_
            refine region_rule ?_
            refine ops_rule (C := []) [(d, .cells #[.map (some m), .int .i64 5000, .int .i64 ((List.length W14 + List.length ((((L.take (min L.length 20)).getD i14 []).take 40).take z.toNat) : Nat) : Int), .bool false, .bool true, .int .i64 ((((1 + (k % 20)) - i14) - 1 : Nat) : Int), .int .i64 ((z.toNat : Nat) : Int)] 70), (m, .map arr35 clk35)] (F35 ++ Fw14) 7 [] 0 (fun φ41 => [(62, .int .i64 (if (((List.length (((L.take (min L.length 20)).getD i14 []).take 40)) : Nat) : Int) < (if ((0 : Nat) : Int) > z then ((0 : Nat) : Int) else z) then (((List.length (((L.take (min L.length 20)).getD i14 []).take 40)) : Nat) : Int) else (if ((0 : Nat) : Int) > z then ((0 : Nat) : Int) else z))), (61, .int .i64 (((List.length (((L.take (min L.length 20)).getD i14 []).take 40)) : Nat) : Int)), (60, .slice a21 (List.length (((L.take (min L.length 20)).getD i14 []).take 40)) c21), (59, .int .i64 (if ((0 : Nat) : Int) > z then ((0 : Nat) : Int) else z)), (58, .int .i64 z), (57, .slice a21 (List.length (((L.take (min L.length 20)).getD i14 []).take 40)) c21), (56, v14)]) (fun φ41 => [(d, .cells #[.map (some m), .int .i64 5000, .int .i64 ((List.length W14 + List.length ((((L.take (min L.length 20)).getD i14 []).take 40).take z.toNat) : Nat) : Int), .bool false, .bool true, .int .i64 ((((1 + (k % 20)) - i14) - 1 : Nat) : Int), .int .i64 ((z.toNat : Nat) : Int)] 70), (m, .map arr35 clk35)]) (fun φ41 => []) s trivial (fun φ41 => by kernel_rfl) ?_
            intro φ41 w41 s
            rw [if_toNat]
            rw [nat_min (a := z.toNat) (b := (List.length (((L.take (min L.length 20)).getD i14 []).take 40)))]
            refine sem_rule (Instr.sliceAt 29 (.slice a21 (List.length (((L.take (min L.length 20)).getD i14 []).take 40)) c21) none (some (.int .i64 ((min z.toNat (List.length (((L.take (min L.length 20)).getD i14 []).take 40)) : Nat) : Int))) none) (some 63) (.slice a21 (min z.toNat (List.length (((L.take (min L.length 20)).getD i14 []).take 40))) c21) (by kernel_rfl) (run_to (by have hcp := (BSl.cap h21_0).2; (try simp only [List.length_drop, List.length_take, List.length_append, List.length_cons, List.length_nil] at hcp ⊢); have h6 := hi14_0; have h7 := hi14_5;  have hq0 := of_decide_eq_true hc16; have hq1 := of_decide_eq_false hc24; have hq2 := of_decide_eq_true hc34; have hq3 := of_decide_eq_false hc38; have hq4 := of_decide_eq_true hc40; (try simp only [List.length_drop, List.length_take, List.length_append, List.length_cons, List.length_nil]); omega)) ?_
            refine append_rule (H := [(d, .cells #[.map (some m), .int .i64 5000, .int .i64 ((List.length W14 + List.length ((((L.take (min L.length 20)).getD i14 []).take 40).take z.toNat) : Nat) : Int), .bool false, .bool true, .int .i64 ((((1 + (k % 20)) - i14) - 1 : Nat) : Int), .int .i64 ((z.toNat : Nat) : Int)] 70), (m, .map arr35 clk35)] ++ F35) (F := Fw14) 29 29 5 Try.t5 (.int .u8 0) 1 1 (some 64) (St.perm s (by rw [List.append_assoc])) Try.underlying29 (by kernel_rfl) (by kernel_rfl) (by kernel_rfl) (by kernel_rfl) (by kernel_rfl) (by decide) hi14_2 (src_bsl s.sub (bsl_to (hi := min z.toNat (List.length (((L.take (min L.length 20)).getD i14 []).take 40))) h21_0 (by have hcp := (BSl.cap h21_0).2; (try simp only [List.length_drop, List.length_take, List.length_append, List.length_cons, List.length_nil] at hcp ⊢); have h6 := hi14_0; have h7 := hi14_5;  have hq0 := of_decide_eq_true hc16; have hq1 := of_decide_eq_false hc24; have hq2 := of_decide_eq_true hc34; have hq3 := of_decide_eq_false hc38; have hq4 := of_decide_eq_true hc40; (try simp only [List.length_drop, List.length_take, List.length_append, List.length_cons, List.length_nil]); omega))) (by have h7 := hi14_5; have h6 := hi14_0; (try simp only [maxLen, List.length_take]); have hq0 := of_decide_eq_true hc16; have hq1 := of_decide_eq_false hc24; have hq2 := of_decide_eq_true hc34; have hq3 := of_decide_eq_false hc38; have hq4 := of_decide_eq_true hc40; omega) (by have h7 := hi14_5; have h6 := hi14_0; (try simp only [maxLen, List.length_take]); have hq0 := of_decide_eq_true hc16; have hq1 := of_decide_eq_false hc24; have hq2 := of_decide_eq_true hc34; have hq3 := of_decide_eq_false hc38; have hq4 := of_decide_eq_true hc40; omega) (by kernel_rfl) ?_
            intro v42 w42 F42 s h42
            replace s : St _ _ _ _ _ ([(d, .cells #[.map (some m), .int .i64 5000, .int .i64 ((List.length W14 + List.length ((((L.take (min L.length 20)).getD i14 []).take 40).take z.toNat) : Nat) : Int), .bool false, .bool true, .int .i64 ((((1 + (k % 20)) - i14) - 1 : Nat) : Int), .int .i64 ((z.toNat : Nat) : Int)] 70), (m, .map arr35 clk35)] ++ (F35 ++ F42)) := s.perm (by rw [List.append_assoc])
            replace h42 : RowH 5 1 v42 (W14 ++ ((((L.take (min L.length 20)).getD i14 []).take 40).take (min z.toNat (List.length (((L.take (min L.length 20)).getD i14 []).take 40))))).length ((W14 ++ ((((L.take (min L.length 20)).getD i14 []).take 40).take (min z.toNat (List.length (((L.take (min L.length 20)).getD i14 []).take 40))))).map bV) F42 := row_app (x := W14) (y := ((((L.take (min L.length 20)).getD i14 []).take 40).take (min z.toNat (List.length (((L.take (min L.length 20)).getD i14 []).take 40))))) h42
            refine ops_rule (C := []) [(d, .cells #[.map (some m), .int .i64 5000, .int .i64 ((List.length W14 + List.length ((((L.take (min L.length 20)).getD i14 []).take 40).take z.toNat) : Nat) : Int), .bool false, .bool true, .int .i64 ((((1 + (k % 20)) - i14) - 1 : Nat) : Int), .int .i64 ((z.toNat : Nat) : Int)] 70), (m, .map arr35 clk35)] (F35 ++ F42) 1 [] 0 (fun φ43 => [(9, v42)]) (fun φ43 => [(d, .cells #[.map (some m), .int .i64 5000, .int .i64 ((List.length W14 + List.length ((((L.take (min L.length 20)).getD i14 []).take 40).take z.toNat) : Nat) : Int), .bool false, .bool true, .int .i64 ((((1 + (k % 20)) - i14) - 1 : Nat) : Int), .int .i64 ((z.toNat : Nat) : Int)] 70), (m, .map arr35 clk35)]) (fun φ43 => []) s trivial (fun φ43 => by kernel_rfl) ?_
            intro φ43 w43 s
            refine ops_done (by kernel_rfl) ?_
            refine wp_seq ?_
            refine region_rule ?_
            refine ops_rule (C := []) [(d, .cells #[.map (some m), .int .i64 5000, .int .i64 ((List.length W14 + List.length ((((L.take (min L.length 20)).getD i14 []).take 40).take z.toNat) : Nat) : Int), .bool false, .bool true, .int .i64 ((((1 + (k % 20)) - i14) - 1 : Nat) : Int), .int .i64 ((z.toNat : Nat) : Int)] 70), (m, .map arr35 clk35)] (F35 ++ F42) 6 [] 0 (fun φ44 => [(70, .bool (decide ((IntKind.wrap .i64 (((i14 : Nat) : Int) + ((1 : Nat) : Int))) < ((1 + (k % 20) : Nat) : Int)))), (69, .int .i64 ((1 + (k % 20) : Nat) : Int)), (68, .int .i64 (IntKind.wrap .i64 (((i14 : Nat) : Int) + ((1 : Nat) : Int)))), (67, .int .i64 ((i14 : Nat) : Int)), (66, .bool false), (65, .int .i64 10)]) (fun φ44 => [(d, .cells #[.map (some m), .int .i64 5000, .int .i64 ((List.length W14 + List.length ((((L.take (min L.length 20)).getD i14 []).take 40).take z.toNat) : Nat) : Int), .bool false, .bool true, .int .i64 ((((1 + (k % 20)) - i14) - 1 : Nat) : Int), .int .i64 ((z.toNat : Nat) : Int)] 70), (m, .map arr35 clk35)]) (fun φ44 => []) s trivial (fun φ44 => by kernel_rfl) ?_
            intro φ44 w44 s
            rw [nat_addI (a := i14) (b := 1) (by have h6 := hi14_0; have h7 := hi14_5;  have hq0 := of_decide_eq_true hc16; have hq1 := of_decide_eq_false hc24; have hq2 := of_decide_eq_true hc34; have hq3 := of_decide_eq_false hc38; have hq4 := of_decide_eq_true hc40; omega)]
            rw [nat_lss (a := (i14 + 1)) (b := (1 + (k % 20)))]
            rw [hc38]
            refine ops_rule (C := []) [(d, .cells #[.map (some m), .int .i64 5000, .int .i64 ((List.length W14 + List.length ((((L.take (min L.length 20)).getD i14 []).take 40).take z.toNat) : Nat) : Int), .bool false, .bool true, .int .i64 ((((1 + (k % 20)) - i14) - 1 : Nat) : Int), .int .i64 ((z.toNat : Nat) : Int)] 70), (m, .map arr35 clk35)] (F35 ++ F42) 9 [] 0 (fun φ45 => [(79, .bool false), (78, .bool false), (77, .bool false), (76, .int .i64 10), (75, .bool true), (74, .bool true), (73, .int .i64 10), (72, .bool false), (71, .bool false)]) (fun φ45 => [(d, .cells #[.map (some m), .int .i64 5000, .int .i64 ((List.length W14 + List.length ((((L.take (min L.length 20)).getD i14 []).take 40).take z.toNat) : Nat) : Int), .bool false, .bool true, .int .i64 ((((1 + (k % 20)) - i14) - 1 : Nat) : Int), .int .i64 ((z.toNat : Nat) : Int)] 70), (m, .map arr35 clk35)]) (fun φ45 => []) s trivial (fun φ45 => by kernel_rfl) ?_
            intro φ45 w45 s
            refine ops_done (by kernel_rfl) ?_
            refine cond_false_rule (b := false) (by kernel_rfl) rfl ?_
            refine wp_skip ?_
            refine region_rule ?_
            refine ops_rule (C := []) [(d, .cells #[.map (some m), .int .i64 5000, .int .i64 ((List.length W14 + List.length ((((L.take (min L.length 20)).getD i14 []).take 40).take z.toNat) : Nat) : Int), .bool false, .bool true, .int .i64 ((((1 + (k % 20)) - i14) - 1 : Nat) : Int), .int .i64 ((z.toNat : Nat) : Int)] 70), (m, .map arr35 clk35)] (F35 ++ F42) 2 [] 0 (fun φ46 => [(33, .int .i64 (IntKind.wrap .i64 (((i14 : Nat) : Int) + ((1 : Nat) : Int)))), (80, .int .i64 (IntKind.wrap .i64 (((i14 : Nat) : Int) + ((1 : Nat) : Int))))]) (fun φ46 => [(d, .cells #[.map (some m), .int .i64 5000, .int .i64 ((List.length W14 + List.length ((((L.take (min L.length 20)).getD i14 []).take 40).take z.toNat) : Nat) : Int), .bool false, .bool true, .int .i64 ((((1 + (k % 20)) - i14) - 1 : Nat) : Int), .int .i64 ((z.toNat : Nat) : Int)] 70), (m, .map arr35 clk35)]) (fun φ46 => []) s trivial (fun φ46 => by kernel_rfl) ?_
            intro φ46 w46 s
            rw [nat_addI (a := i14) (b := 1) (by have h6 := hi14_0; have h7 := hi14_5;  have hq0 := of_decide_eq_true hc16; have hq1 := of_decide_eq_false hc24; have hq2 := of_decide_eq_true hc34; have hq3 := of_decide_eq_false hc38; have hq4 := of_decide_eq_true hc40; have hq5 := of_decide_eq_false hc38; omega)]
            refine ops_done (by kernel_rfl) ?_
            have hq0 := of_decide_eq_true hc16
            have hq1 := of_decide_eq_false hc24
            have hq2 := of_decide_eq_true hc34
            have e1 : decide ((1 + (k % 20)) ≤ i14 + 1) = true := decide_eq_true (by omega)
            have e2 : (1 + (k % 20)) - (i14 + 1) = ((1 + (k % 20)) - i14) - 1 := (by omega)
            have e3 : List.length (W14 ++ ((((L.take (min L.length 20)).getD i14 []).take 40).take z.toNat)) = List.length W14 + List.length ((((L.take (min L.length 20)).getD i14 []).take 40).take z.toNat) := List.length_append
            replace s := St.eqH (H' := [(d, .cells #[.map (some m), .int .i64 5000, .int .i64 ((List.length (W14 ++ ((((L.take (min L.length 20)).getD i14 []).take 40).take z.toNat)) : Nat) : Int), .bool false, .bool (decide ((1 + (k % 20)) ≤ (i14 + 1))), .int .i64 (((1 + (k % 20)) - (i14 + 1) : Nat) : Int), .int .i64 ((z.toNat : Nat) : Int)] 70), (m, .map arr35 clk35)] ++ (F35 ++ F42)) s (by first | (rw [e1, e2, e3]; done) | (rw [e1, e2, e3]; rfl))
            exact ⟨⟨m14 - 1, ((i14 + 1), mput es14 7 (W14 ++ ((((L.take (min L.length 20)).getD i14 []).take 40).take z.toNat)), arr35, clk35, F35, v42, F42, (W14 ++ ((((L.take (min L.length 20)).getD i14 []).take 40).take z.toNat))), _, _, _, by omega, rfl, s, (List.Sublist.append (List.Sublist.cons₂ _ (List.Sublist.cons₂ _ List.Sublist.slnil)) (List.Sublist.refl _)), by kernel_rfl, hle13, by show i14 + 1 + (m14 - 1) = (min L.length 20); omega, hM35, row_castB h42 (by rw [show ((((L.take (min L.length 20)).getD i14 []).take 40).take (min z.toNat (List.length (((L.take (min L.length 20)).getD i14 []).take 40)))) = ((((L.take (min L.length 20)).getD i14 []).take 40).take z.toNat) from take_min2]), tot_snoc hi14_3 hi14_4, by rw [get_put]; rfl, by show List.length (W14 ++ ((((L.take (min L.length 20)).getD i14 []).take 40).take z.toNat)) ≤ 40 * (i14 + 1); have h7 := hi14_5; rw [List.length_append]; (try simp only [List.length_take]); omega⟩⟩
          ·
            exact absurd (of_decide_eq_false hc40) (by have h6 := hi14_0; have hq0 := of_decide_eq_true hc16; have hq1 := of_decide_eq_false hc24; have hq2 := of_decide_eq_true hc34; have hq3 := of_decide_eq_false hc38; omega)
      ·
        refine callD_rule (d0 := (d, .cells #[.map (some m), .int .i64 5000, .int .i64 ((List.length W14 : Nat) : Int), .bool false, .bool false, .int .i64 (((1 + (k % 20)) - i14 : Nat) : Int), .int .i64 ((z.toNat : Nat) : Int)] 70)) (m0 := (m, .map arr14 clk14)) (Hr := []) (F := F14) (Fw := Fw14) (some 42) s (appGo_c (room := 5000) (used := List.length W14) (armed := ((1 + (k % 20)) - i14)) (torn := z.toNat) (k := 7) (q := (((L.take (min L.length 20)).getD i14 []).take 40)) h21_0 hi14_1 (by have h7 := hi14_5; have h6 := hi14_0; (try simp only [List.length_take]); have hq0 := of_decide_eq_true hc16; have hq1 := of_decide_eq_false hc24; have hq2 := of_decide_eq_false hc34; omega) (by decide) (by have h7 := hi14_5; have h6 := hi14_0; (try simp only [List.length_take]); have hq0 := of_decide_eq_true hc16; have hq1 := of_decide_eq_false hc24; have hq2 := of_decide_eq_false hc34; omega) (by rw [hi14_3]; have h7 := hi14_5; have h6 := hi14_0; (try simp only [List.length_take]); have hq0 := of_decide_eq_true hc16; have hq1 := of_decide_eq_false hc24; have hq2 := of_decide_eq_false hc34; omega) (by have h7 := hi14_5; have h6 := hi14_0; (try simp only [List.length_take]); have hq0 := of_decide_eq_true hc16; have hq1 := of_decide_eq_false hc24; have hq2 := of_decide_eq_false hc34; omega) (if_neg (of_decide_eq_false hc34))) (by kernel_rfl) ?_
        rintro v47 I47 w47 d47 m47 F47 le47 ⟨arr47, clk47, rfl, rfl, rfl, hM47⟩ s
        replace hL := SSl.mono le47 hL
        replace hL8 := SSl.mono le47 hL8
        replace hle13 := leMono le47 hle13
        replace hb18 := BSl.mono le47 hb18
        replace h21_0 := BSl.mono le47 h21_0
        rw [show cntE ((1 + (k % 20)) - i14) = 0 from (if_neg (of_decide_eq_false hc34))]
        rw [show decide (((1 + (k % 20)) - i14) = 1) = false from hc34] at s
        rw [hi14_4] at hM47
        replace s : St _ _ _ _ _ ([(d, .cells #[.map (some m), .int .i64 5000, .int .i64 ((List.length W14 + List.length (((L.take (min L.length 20)).getD i14 []).take 40) : Nat) : Int), .bool false, .bool false, .int .i64 ((((1 + (k % 20)) - i14) - 1 : Nat) : Int), .int .i64 ((z.toNat : Nat) : Int)] 70), (m, .map arr47 clk47)] ++ (F47 ++ Fw14)) := s
        replace hM47 : MapP (mput es14 7 (W14 ++ (((L.take (min L.length 20)).getD i14 []).take 40))) arr47 F47 := hM47
        refine ops_rule (C := []) [(d, .cells #[.map (some m), .int .i64 5000, .int .i64 ((List.length W14 + List.length (((L.take (min L.length 20)).getD i14 []).take 40) : Nat) : Int), .bool false, .bool false, .int .i64 ((((1 + (k % 20)) - i14) - 1 : Nat) : Int), .int .i64 ((z.toNat : Nat) : Int)] 70), (m, .map arr47 clk47)] (F47 ++ Fw14) 1 [] 0 (fun φ48 => [(12, .int .i64 0)]) (fun φ48 => [(d, .cells #[.map (some m), .int .i64 5000, .int .i64 ((List.length W14 + List.length (((L.take (min L.length 20)).getD i14 []).take 40) : Nat) : Int), .bool false, .bool false, .int .i64 ((((1 + (k % 20)) - i14) - 1 : Nat) : Int), .int .i64 ((z.toNat : Nat) : Int)] 70), (m, .map arr47 clk47)]) (fun φ48 => []) s trivial (fun φ48 => by kernel_rfl) ?_
        intro φ48 w48 s
        refine ops_done (by kernel_rfl) ?_
        refine wp_seq ?_
        refine wp_block ?_
        refine wp_seq ?_
        refine region_rule ?_
        refine ops_rule (C := []) [(d, .cells #[.map (some m), .int .i64 5000, .int .i64 ((List.length W14 + List.length (((L.take (min L.length 20)).getD i14 []).take 40) : Nat) : Int), .bool false, .bool false, .int .i64 ((((1 + (k % 20)) - i14) - 1 : Nat) : Int), .int .i64 ((z.toNat : Nat) : Int)] 70), (m, .map arr47 clk47)] (F47 ++ Fw14) 5 [] 0 (fun φ49 => [(43, .bool (decide ((IntKind.wrap .i64 (((i14 : Nat) : Int) + ((1 : Nat) : Int))) < ((1 + (k % 20) : Nat) : Int)))), (47, .bool (decide ((IntKind.wrap .i64 (((i14 : Nat) : Int) + ((1 : Nat) : Int))) < ((1 + (k % 20) : Nat) : Int)))), (46, .int .i64 ((1 + (k % 20) : Nat) : Int)), (45, .int .i64 (IntKind.wrap .i64 (((i14 : Nat) : Int) + ((1 : Nat) : Int)))), (44, .int .i64 ((i14 : Nat) : Int))]) (fun φ49 => [(d, .cells #[.map (some m), .int .i64 5000, .int .i64 ((List.length W14 + List.length (((L.take (min L.length 20)).getD i14 []).take 40) : Nat) : Int), .bool false, .bool false, .int .i64 ((((1 + (k % 20)) - i14) - 1 : Nat) : Int), .int .i64 ((z.toNat : Nat) : Int)] 70), (m, .map arr47 clk47)]) (fun φ49 => []) s trivial (fun φ49 => by kernel_rfl) ?_
        intro φ49 w49 s
        rw [nat_addI (a := i14) (b := 1) (by have h6 := hi14_0; have h7 := hi14_5;  have hq0 := of_decide_eq_true hc16; have hq1 := of_decide_eq_false hc24; have hq2 := of_decide_eq_false hc34; omega)]
        rw [nat_lss (a := (i14 + 1)) (b := (1 + (k % 20)))]
        refine ops_done (by kernel_rfl) ?_
        rcases Bool.eq_false_or_eq_true (decide ((i14 + 1) < (1 + (k % 20)))) with hc50 | hc50
        ·
          rw [hc50]
          refine cond_true_rule (b := true) (by kernel_rfl) rfl ?_
          refine region_rule ?_
          refine ops_rule (C := []) [(d, .cells #[.map (some m), .int .i64 5000, .int .i64 ((List.length W14 + List.length (((L.take (min L.length 20)).getD i14 []).take 40) : Nat) : Int), .bool false, .bool false, .int .i64 ((((1 + (k % 20)) - i14) - 1 : Nat) : Int), .int .i64 ((z.toNat : Nat) : Int)] 70), (m, .map arr47 clk47)] (F47 ++ Fw14) 2 [] 0 (fun φ51 => [(49, .slice a21 (List.length (((L.take (min L.length 20)).getD i14 []).take 40)) c21), (48, v14)]) (fun φ51 => [(d, .cells #[.map (some m), .int .i64 5000, .int .i64 ((List.length W14 + List.length (((L.take (min L.length 20)).getD i14 []).take 40) : Nat) : Int), .bool false, .bool false, .int .i64 ((((1 + (k % 20)) - i14) - 1 : Nat) : Int), .int .i64 ((z.toNat : Nat) : Int)] 70), (m, .map arr47 clk47)]) (fun φ51 => []) s trivial (fun φ51 => by kernel_rfl) ?_
          intro φ51 w51 s
          refine append_rule (H := [(d, .cells #[.map (some m), .int .i64 5000, .int .i64 ((List.length W14 + List.length (((L.take (min L.length 20)).getD i14 []).take 40) : Nat) : Int), .bool false, .bool false, .int .i64 ((((1 + (k % 20)) - i14) - 1 : Nat) : Int), .int .i64 ((z.toNat : Nat) : Int)] 70), (m, .map arr47 clk47)] ++ F47) (F := Fw14) 29 29 5 Try.t5 (.int .u8 0) 1 1 (some 50) (St.perm s (by rw [List.append_assoc])) Try.underlying29 (by kernel_rfl) (by kernel_rfl) (by kernel_rfl) (by kernel_rfl) (by kernel_rfl) (by decide) hi14_2 (src_bsl s.sub h21_0) (by have h7 := hi14_5; have h6 := hi14_0; (try simp only [maxLen, List.length_take]); have hq0 := of_decide_eq_true hc16; have hq1 := of_decide_eq_false hc24; have hq2 := of_decide_eq_false hc34; have hq3 := of_decide_eq_true hc50; omega) (by have h7 := hi14_5; have h6 := hi14_0; (try simp only [maxLen, List.length_take]); have hq0 := of_decide_eq_true hc16; have hq1 := of_decide_eq_false hc24; have hq2 := of_decide_eq_false hc34; have hq3 := of_decide_eq_true hc50; omega) (by kernel_rfl) ?_
          intro v52 w52 F52 s h52
          replace s : St _ _ _ _ _ ([(d, .cells #[.map (some m), .int .i64 5000, .int .i64 ((List.length W14 + List.length (((L.take (min L.length 20)).getD i14 []).take 40) : Nat) : Int), .bool false, .bool false, .int .i64 ((((1 + (k % 20)) - i14) - 1 : Nat) : Int), .int .i64 ((z.toNat : Nat) : Int)] 70), (m, .map arr47 clk47)] ++ (F47 ++ F52)) := s.perm (by rw [List.append_assoc])
          replace h52 : RowH 5 1 v52 (W14 ++ (((L.take (min L.length 20)).getD i14 []).take 40)).length ((W14 ++ (((L.take (min L.length 20)).getD i14 []).take 40)).map bV) F52 := row_app (x := W14) (y := (((L.take (min L.length 20)).getD i14 []).take 40)) h52
          refine ops_rule (C := []) [(d, .cells #[.map (some m), .int .i64 5000, .int .i64 ((List.length W14 + List.length (((L.take (min L.length 20)).getD i14 []).take 40) : Nat) : Int), .bool false, .bool false, .int .i64 ((((1 + (k % 20)) - i14) - 1 : Nat) : Int), .int .i64 ((z.toNat : Nat) : Int)] 70), (m, .map arr47 clk47)] (F47 ++ F52) 1 [] 0 (fun φ53 => [(9, v52)]) (fun φ53 => [(d, .cells #[.map (some m), .int .i64 5000, .int .i64 ((List.length W14 + List.length (((L.take (min L.length 20)).getD i14 []).take 40) : Nat) : Int), .bool false, .bool false, .int .i64 ((((1 + (k % 20)) - i14) - 1 : Nat) : Int), .int .i64 ((z.toNat : Nat) : Int)] 70), (m, .map arr47 clk47)]) (fun φ53 => []) s trivial (fun φ53 => by kernel_rfl) ?_
          intro φ53 w53 s
          refine ops_done (by kernel_rfl) ?_
          refine wp_seq ?_
          refine region_rule ?_
          refine ops_rule (C := []) [(d, .cells #[.map (some m), .int .i64 5000, .int .i64 ((List.length W14 + List.length (((L.take (min L.length 20)).getD i14 []).take 40) : Nat) : Int), .bool false, .bool false, .int .i64 ((((1 + (k % 20)) - i14) - 1 : Nat) : Int), .int .i64 ((z.toNat : Nat) : Int)] 70), (m, .map arr47 clk47)] (F47 ++ F52) 6 [] 0 (fun φ54 => [(70, .bool (decide ((IntKind.wrap .i64 (((i14 : Nat) : Int) + ((1 : Nat) : Int))) < ((1 + (k % 20) : Nat) : Int)))), (69, .int .i64 ((1 + (k % 20) : Nat) : Int)), (68, .int .i64 (IntKind.wrap .i64 (((i14 : Nat) : Int) + ((1 : Nat) : Int)))), (67, .int .i64 ((i14 : Nat) : Int)), (66, .bool true), (65, .int .i64 0)]) (fun φ54 => [(d, .cells #[.map (some m), .int .i64 5000, .int .i64 ((List.length W14 + List.length (((L.take (min L.length 20)).getD i14 []).take 40) : Nat) : Int), .bool false, .bool false, .int .i64 ((((1 + (k % 20)) - i14) - 1 : Nat) : Int), .int .i64 ((z.toNat : Nat) : Int)] 70), (m, .map arr47 clk47)]) (fun φ54 => []) s trivial (fun φ54 => by kernel_rfl) ?_
          intro φ54 w54 s
          rw [nat_addI (a := i14) (b := 1) (by have h6 := hi14_0; have h7 := hi14_5;  have hq0 := of_decide_eq_true hc16; have hq1 := of_decide_eq_false hc24; have hq2 := of_decide_eq_false hc34; have hq3 := of_decide_eq_true hc50; omega)]
          rw [nat_lss (a := (i14 + 1)) (b := (1 + (k % 20)))]
          rw [hc50]
          refine ops_rule (C := []) [(d, .cells #[.map (some m), .int .i64 5000, .int .i64 ((List.length W14 + List.length (((L.take (min L.length 20)).getD i14 []).take 40) : Nat) : Int), .bool false, .bool false, .int .i64 ((((1 + (k % 20)) - i14) - 1 : Nat) : Int), .int .i64 ((z.toNat : Nat) : Int)] 70), (m, .map arr47 clk47)] (F47 ++ F52) 9 [] 0 (fun φ55 => [(79, .bool false), (78, .bool false), (77, undef), (76, undef), (75, .bool false), (74, .bool false), (73, .int .i64 0), (72, .bool false), (71, .bool false)]) (fun φ55 => [(d, .cells #[.map (some m), .int .i64 5000, .int .i64 ((List.length W14 + List.length (((L.take (min L.length 20)).getD i14 []).take 40) : Nat) : Int), .bool false, .bool false, .int .i64 ((((1 + (k % 20)) - i14) - 1 : Nat) : Int), .int .i64 ((z.toNat : Nat) : Int)] 70), (m, .map arr47 clk47)]) (fun φ55 => []) s trivial (fun φ55 => by kernel_rfl) ?_
          intro φ55 w55 s
          refine ops_done (by kernel_rfl) ?_
          refine cond_false_rule (b := false) (by kernel_rfl) rfl ?_
          refine wp_skip ?_
          refine region_rule ?_
          refine ops_rule (C := []) [(d, .cells #[.map (some m), .int .i64 5000, .int .i64 ((List.length W14 + List.length (((L.take (min L.length 20)).getD i14 []).take 40) : Nat) : Int), .bool false, .bool false, .int .i64 ((((1 + (k % 20)) - i14) - 1 : Nat) : Int), .int .i64 ((z.toNat : Nat) : Int)] 70), (m, .map arr47 clk47)] (F47 ++ F52) 2 [] 0 (fun φ56 => [(33, .int .i64 (IntKind.wrap .i64 (((i14 : Nat) : Int) + ((1 : Nat) : Int)))), (80, .int .i64 (IntKind.wrap .i64 (((i14 : Nat) : Int) + ((1 : Nat) : Int))))]) (fun φ56 => [(d, .cells #[.map (some m), .int .i64 5000, .int .i64 ((List.length W14 + List.length (((L.take (min L.length 20)).getD i14 []).take 40) : Nat) : Int), .bool false, .bool false, .int .i64 ((((1 + (k % 20)) - i14) - 1 : Nat) : Int), .int .i64 ((z.toNat : Nat) : Int)] 70), (m, .map arr47 clk47)]) (fun φ56 => []) s trivial (fun φ56 => by kernel_rfl) ?_
          intro φ56 w56 s
          rw [nat_addI (a := i14) (b := 1) (by have h6 := hi14_0; have h7 := hi14_5;  have hq0 := of_decide_eq_true hc16; have hq1 := of_decide_eq_false hc24; have hq2 := of_decide_eq_false hc34; have hq3 := of_decide_eq_true hc50; have hq4 := of_decide_eq_true hc50; omega)]
          refine ops_done (by kernel_rfl) ?_
          have hq0 := of_decide_eq_true hc16
          have hq1 := of_decide_eq_false hc24
          have hq2 := of_decide_eq_false hc34
          have e1 : decide ((1 + (k % 20)) ≤ i14 + 1) = false := decide_eq_false (by omega)
          have e2 : (1 + (k % 20)) - (i14 + 1) = ((1 + (k % 20)) - i14) - 1 := (by omega)
          have e3 : List.length (W14 ++ (((L.take (min L.length 20)).getD i14 []).take 40)) = List.length W14 + List.length (((L.take (min L.length 20)).getD i14 []).take 40) := List.length_append
          replace s := St.eqH (H' := [(d, .cells #[.map (some m), .int .i64 5000, .int .i64 ((List.length (W14 ++ (((L.take (min L.length 20)).getD i14 []).take 40)) : Nat) : Int), .bool false, .bool (decide ((1 + (k % 20)) ≤ (i14 + 1))), .int .i64 (((1 + (k % 20)) - (i14 + 1) : Nat) : Int), .int .i64 ((z.toNat : Nat) : Int)] 70), (m, .map arr47 clk47)] ++ (F47 ++ F52)) s (by first | (rw [e1, e2, e3]; done) | (rw [e1, e2, e3]; rfl))
          exact ⟨⟨m14 - 1, ((i14 + 1), mput es14 7 (W14 ++ (((L.take (min L.length 20)).getD i14 []).take 40)), arr47, clk47, F47, v52, F52, (W14 ++ (((L.take (min L.length 20)).getD i14 []).take 40))), _, _, _, by omega, rfl, s, (List.Sublist.append (List.Sublist.cons₂ _ (List.Sublist.cons₂ _ List.Sublist.slnil)) (List.Sublist.refl _)), by kernel_rfl, hle13, by show i14 + 1 + (m14 - 1) = (min L.length 20); omega, hM47, h52, tot_snoc hi14_3 hi14_4, by rw [get_put]; rfl, by show List.length (W14 ++ (((L.take (min L.length 20)).getD i14 []).take 40)) ≤ 40 * (i14 + 1); have h7 := hi14_5; rw [List.length_append]; (try simp only [List.length_take]); omega⟩⟩
        ·
          exact absurd (of_decide_eq_false hc50) (by have h6 := hi14_0; have hq0 := of_decide_eq_true hc16; have hq1 := of_decide_eq_false hc24; have hq2 := of_decide_eq_false hc34; omega)
  ·
    rw [hc16]
    refine cond_false_rule (b := false) (by kernel_rfl) rfl ?_
    refine wp_exit ?_
    refine wp_seq ?_
    refine region_rule ?_
    refine ops_rule (C := []) [(d, .cells #[.map (some m), .int .i64 5000, .int .i64 ((List.length W14 : Nat) : Int), .bool false, .bool (decide ((1 + (k % 20)) ≤ i14)), .int .i64 (((1 + (k % 20)) - i14 : Nat) : Int), .int .i64 ((z.toNat : Nat) : Int)] 70), (m, .map arr14 clk14)] (F14 ++ Fw14) 1 [] 0 (fun φ57 => [(82, .pointer (some ⟨d, 0, none⟩))]) (fun φ57 => [(d, .cells #[.map (some m), .int .i64 5000, .int .i64 ((List.length W14 : Nat) : Int), .bool false, .bool (decide ((1 + (k % 20)) ≤ i14)), .int .i64 (((1 + (k % 20)) - i14 : Nat) : Int), .int .i64 ((z.toNat : Nat) : Int)] 70), (m, .map arr14 clk14)]) (fun φ57 => []) s trivial (fun φ57 => by kernel_rfl) ?_
    intro φ57 w57 s
    obtain ⟨v0_58, Fe58, Fr58, hp58, hr58, hf58, hl58, -⟩ := map_open hi14_1 m 7
    have hL58 : ∀ e ∈ ((d, .cells #[.map (some m), .int .i64 5000, .int .i64 ((List.length W14 : Nat) : Int), .bool false, .bool (decide ((1 + (k % 20)) ≤ i14)), .int .i64 (((1 + (k % 20)) - i14 : Nat) : Int), .int .i64 ((z.toNat : Nat) : Int)] 70) :: (m, .map arr14 clk14) :: F14), e ∈ ([(d, .cells #[.map (some m), .int .i64 5000, .int .i64 ((List.length W14 : Nat) : Int), .bool false, .bool (decide ((1 + (k % 20)) ≤ i14)), .int .i64 (((1 + (k % 20)) - i14 : Nat) : Int), .int .i64 ((z.toNat : Nat) : Int)] 70), (m, .map arr14 clk14)] ++ (F14 ++ Fw14)) := mem_dm
    refine callLF_rule (H := ([(d, .cells #[.map (some m), .int .i64 5000, .int .i64 ((List.length W14 : Nat) : Int), .bool false, .bool (decide ((1 + (k % 20)) ≤ i14)), .int .i64 (((1 + (k % 20)) - i14 : Nat) : Int), .int .i64 ((z.toNat : Nat) : Int)] 70), (m, .map arr14 clk14)] ++ (F14 ++ Fw14))) (R := fun v F' => ∃ v1, v = .tuple #[v1, .bool (mget es14 7).isSome] ∧ RowH 5 1 v1 ((mget es14 7).getD []).length (((mget es14 7).getD []).map bV) F') (some 83) s (IM.all I14 ((d, .cells #[.map (some m), .int .i64 5000, .int .i64 ((List.length W14 : Nat) : Int), .bool false, .bool (decide ((1 + (k % 20)) ≤ i14)), .int .i64 (((1 + (k % 20)) - i14 : Nat) : Int), .int .i64 ((z.toNat : Nat) : Int)] 70) :: (m, .map arr14 clk14) :: F14)) (all_le s hL58) (all_sub hL58) (read_r (all_get s hL58 ((d, .cells #[.map (some m), .int .i64 5000, .int .i64 ((List.length W14 : Nat) : Int), .bool false, .bool (decide ((1 + (k % 20)) ≤ i14)), .int .i64 (((1 + (k % 20)) - i14 : Nat) : Int), .int .i64 ((z.toNat : Nat) : Int)] 70)) (.head _)) (all_get s hL58 ((m, .map arr14 clk14)) (.tail _ (.head _))) hf58 hl58 (row_all hr58 (fun e he => all_get s hL58 e (.tail _ (.tail _ (hp58.mem_iff.2 (List.mem_append_right _ he)))))) (by rw [hi14_4]; have h7 := hi14_5; have h6 := hi14_0; omega)) (by kernel_rfl) ?_
    rintro v58 w58 G58 ⟨v1_58, rfl, hq58⟩ s
    obtain ⟨I58, le58, hb58, s⟩ := freeze_row (H := ([(d, .cells #[.map (some m), .int .i64 5000, .int .i64 ((List.length W14 : Nat) : Int), .bool false, .bool (decide ((1 + (k % 20)) ≤ i14)), .int .i64 (((1 + (k % 20)) - i14 : Nat) : Int), .int .i64 ((z.toNat : Nat) : Int)] 70), (m, .map arr14 clk14)] ++ (F14 ++ Fw14))) (F := G58) s hq58
    obtain ⟨a58, c58, rfl, -, hb58⟩ := hb58.open
    replace hL := SSl.mono le58 hL
    replace hL8 := SSl.mono le58 hL8
    replace hle13 := leMono le58 hle13
    have e58 : ((mget es14 7).getD []) = W14 := hi14_4
    rw [e58] at hb58 ⊢
    refine ops_rule (C := []) [(d, .cells #[.map (some m), .int .i64 5000, .int .i64 ((List.length W14 : Nat) : Int), .bool false, .bool (decide ((1 + (k % 20)) ≤ i14)), .int .i64 (((1 + (k % 20)) - i14 : Nat) : Int), .int .i64 ((z.toNat : Nat) : Int)] 70), (m, .map arr14 clk14)] (F14 ++ Fw14) 5 [] 0 (fun φ59 => [(14, .bool ((mget es14 7).isSome)), (13, .slice a58 (List.length W14) c58), (85, .bool ((mget es14 7).isSome)), (84, .slice a58 (List.length W14) c58), (81, .tuple #[.slice a58 (List.length W14) c58, .bool ((mget es14 7).isSome)])]) (fun φ59 => [(d, .cells #[.map (some m), .int .i64 5000, .int .i64 ((List.length W14 : Nat) : Int), .bool false, .bool (decide ((1 + (k % 20)) ≤ i14)), .int .i64 (((1 + (k % 20)) - i14 : Nat) : Int), .int .i64 ((z.toNat : Nat) : Int)] 70), (m, .map arr14 clk14)]) (fun φ59 => []) s trivial (fun φ59 => by kernel_rfl) ?_
    intro φ59 w59 s
    refine ops_done (by kernel_rfl) ?_
    refine wp_seq ?_
    refine wp_seq ?_
    refine region_rule ?_
    refine ops_rule (C := []) [(d, .cells #[.map (some m), .int .i64 5000, .int .i64 ((List.length W14 : Nat) : Int), .bool false, .bool (decide ((1 + (k % 20)) ≤ i14)), .int .i64 (((1 + (k % 20)) - i14 : Nat) : Int), .int .i64 ((z.toNat : Nat) : Int)] 70), (m, .map arr14 clk14)] (F14 ++ Fw14) 2 [] 0 (fun φ60 => [(87, v14), (86, .slice a58 (List.length W14) c58)]) (fun φ60 => [(d, .cells #[.map (some m), .int .i64 5000, .int .i64 ((List.length W14 : Nat) : Int), .bool false, .bool (decide ((1 + (k % 20)) ≤ i14)), .int .i64 (((1 + (k % 20)) - i14 : Nat) : Int), .int .i64 ((z.toNat : Nat) : Int)] 70), (m, .map arr14 clk14)]) (fun φ60 => []) s trivial (fun φ60 => by kernel_rfl) ?_
    intro φ60 w60 s
    obtain ⟨aw, cw, hvw⟩ := row_shape hi14_2
    have hrw9 := hi14_2
    rw [hvw] at hrw9 ⊢
    have hL61 : ∀ e ∈ Fw14, e ∈ ([(d, .cells #[.map (some m), .int .i64 5000, .int .i64 ((List.length W14 : Nat) : Int), .bool false, .bool (decide ((1 + (k % 20)) ≤ i14)), .int .i64 (((1 + (k % 20)) - i14 : Nat) : Int), .int .i64 ((z.toNat : Nat) : Int)] 70), (m, .map arr14 clk14)] ++ (F14 ++ Fw14)) := mem_w
    refine callL_rule (H := ([(d, .cells #[.map (some m), .int .i64 5000, .int .i64 ((List.length W14 : Nat) : Int), .bool false, .bool (decide ((1 + (k % 20)) ≤ i14)), .int .i64 (((1 + (k % 20)) - i14 : Nat) : Int), .int .i64 ((z.toNat : Nat) : Int)] 70), (m, .map arr14 clk14)] ++ (F14 ++ Fw14))) (R := fun v => v = .bool true) (some 88) s (IM.all I58 Fw14) (all_le s hL61) (all_sub hL61) (equalS_c (BSl.mono (all_le s hL61) hb58) (row_all hrw9 (fun e he => all_get s hL61 e he))) (by kernel_rfl) ?_
    intro v61 w61 h61 s
    obtain rfl := h61
    refine ops_rule (C := []) [(d, .cells #[.map (some m), .int .i64 5000, .int .i64 ((List.length W14 : Nat) : Int), .bool false, .bool (decide ((1 + (k % 20)) ≤ i14)), .int .i64 (((1 + (k % 20)) - i14 : Nat) : Int), .int .i64 ((z.toNat : Nat) : Int)] 70), (m, .map arr14 clk14)] (F14 ++ Fw14) 3 [] 0 (fun φ62 => [(91, .pointer (some ⟨d, 0, none⟩)), (90, .bool false), (89, .bool false)]) (fun φ62 => [(d, .cells #[.map (some m), .int .i64 5000, .int .i64 ((List.length W14 : Nat) : Int), .bool false, .bool (decide ((1 + (k % 20)) ≤ i14)), .int .i64 (((1 + (k % 20)) - i14 : Nat) : Int), .int .i64 ((z.toNat : Nat) : Int)] 70), (m, .map arr14 clk14)]) (fun φ62 => []) s trivial (fun φ62 => by kernel_rfl) ?_
    intro φ62 w62 s
    refine callB_rule (b := (d, .cells #[.map (some m), .int .i64 5000, .int .i64 ((List.length W14 : Nat) : Int), .bool false, .bool (decide ((1 + (k % 20)) ≤ i14)), .int .i64 (((1 + (k % 20)) - i14 : Nat) : Int), .int .i64 ((z.toNat : Nat) : Int)] 70)) (H := [(d, .cells #[.map (some m), .int .i64 5000, .int .i64 ((List.length W14 : Nat) : Int), .bool false, .bool (decide ((1 + (k % 20)) ≤ i14)), .int .i64 (((1 + (k % 20)) - i14 : Nat) : Int), .int .i64 ((z.toNat : Nat) : Int)] 70), (m, .map arr14 clk14)]) (F := (F14 ++ Fw14)) (Hr := [(m, .map arr14 clk14)]) (some 92) 0 s (by kernel_rfl) (by kernel_rfl) (up_c) (by kernel_rfl) ?_
    rintro v63 I63 w63 b63 le63 - h63 s
    replace hL := SSl.mono le63 hL
    replace hL8 := SSl.mono le63 hL8
    replace hle13 := leMono le63 hle13
    replace hb58 := BSl.mono le63 hb58
    obtain ⟨rfl, rfl⟩ := h63
    refine ops_rule (C := []) [(d, .cells #[.map (some m), .int .i64 5000, .int .i64 ((List.length W14 : Nat) : Int), .bool false, .bool (decide ((1 + (k % 20)) ≤ i14)), .int .i64 (((1 + (k % 20)) - i14 : Nat) : Int), .int .i64 ((z.toNat : Nat) : Int)] 70), (m, .map arr14 clk14)] (F14 ++ Fw14) 4 [] 0 (fun φ64 => [(96, .bool (decide ((((min L.length 20) : Nat) : Int) < ((1 + (k % 20) : Nat) : Int)))), (95, .int .i64 ((1 + (k % 20) : Nat) : Int)), (94, .int .i64 (((min L.length 20) : Nat) : Int)), (93, .slice a (min L.length 20) c)]) (fun φ64 => [(d, .cells #[.map (some m), .int .i64 5000, .int .i64 ((List.length W14 : Nat) : Int), .bool false, .bool (decide ((1 + (k % 20)) ≤ i14)), .int .i64 (((1 + (k % 20)) - i14 : Nat) : Int), .int .i64 ((z.toNat : Nat) : Int)] 70), (m, .map arr14 clk14)]) (fun φ64 => []) s trivial (fun φ64 => by kernel_rfl) ?_
    intro φ64 w64 s
    rw [nat_lss (a := (min L.length 20)) (b := (1 + (k % 20)))]
    rcases Bool.eq_false_or_eq_true (decide ((1 + (k % 20)) ≤ i14)) with hc65 | hc65
    ·
      rw [hc65]
      rw [hc65] at s
      rcases Bool.eq_false_or_eq_true (decide ((min L.length 20) < (1 + (k % 20)))) with hc66 | hc66
      ·
        exact absurd (of_decide_eq_true hc66) (by have h6 := hi14_0; have hq0 := of_decide_eq_false hc16; have hq1 := of_decide_eq_true hc65; omega)
      ·
        rw [hc66]
        refine ops_rule (C := []) [(d, .cells #[.map (some m), .int .i64 5000, .int .i64 ((List.length W14 : Nat) : Int), .bool false, .bool true, .int .i64 (((1 + (k % 20)) - i14 : Nat) : Int), .int .i64 ((z.toNat : Nat) : Int)] 70), (m, .map arr14 clk14)] (F14 ++ Fw14) 2 [] 0 (fun φ67 => [(98, .bool false), (97, .bool false)]) (fun φ67 => [(d, .cells #[.map (some m), .int .i64 5000, .int .i64 ((List.length W14 : Nat) : Int), .bool false, .bool true, .int .i64 (((1 + (k % 20)) - i14 : Nat) : Int), .int .i64 ((z.toNat : Nat) : Int)] 70), (m, .map arr14 clk14)]) (fun φ67 => []) s trivial (fun φ67 => by kernel_rfl) ?_
        intro φ67 w67 s
        refine ops_done (by kernel_rfl) ?_
        refine cond_false_rule (b := false) (by kernel_rfl) rfl ?_
        refine wp_skip ?_
        refine wp_seq ?_
        refine region_rule ?_
        refine ops_rule (C := []) [(d, .cells #[.map (some m), .int .i64 5000, .int .i64 ((List.length W14 : Nat) : Int), .bool false, .bool true, .int .i64 (((1 + (k % 20)) - i14 : Nat) : Int), .int .i64 ((z.toNat : Nat) : Int)] 70), (m, .map arr14 clk14)] (F14 ++ Fw14) 1 [] 0 (fun φ68 => [(99, .pointer (some ⟨d, 0, none⟩))]) (fun φ68 => [(d, .cells #[.map (some m), .int .i64 5000, .int .i64 ((List.length W14 : Nat) : Int), .bool false, .bool true, .int .i64 (((1 + (k % 20)) - i14 : Nat) : Int), .int .i64 ((z.toNat : Nat) : Int)] 70), (m, .map arr14 clk14)]) (fun φ68 => []) s trivial (fun φ68 => by kernel_rfl) ?_
        intro φ68 w68 s
        refine callB_rule (b := (d, .cells #[.map (some m), .int .i64 5000, .int .i64 ((List.length W14 : Nat) : Int), .bool false, .bool true, .int .i64 (((1 + (k % 20)) - i14 : Nat) : Int), .int .i64 ((z.toNat : Nat) : Int)] 70)) (H := [(d, .cells #[.map (some m), .int .i64 5000, .int .i64 ((List.length W14 : Nat) : Int), .bool false, .bool true, .int .i64 (((1 + (k % 20)) - i14 : Nat) : Int), .int .i64 ((z.toNat : Nat) : Int)] 70), (m, .map arr14 clk14)]) (F := (F14 ++ Fw14)) (Hr := [(m, .map arr14 clk14)]) (some 100) 0 s (by kernel_rfl) (by kernel_rfl) (on_c) (by kernel_rfl) ?_
        rintro v69 I69 w69 b69 le69 - h69 s
        replace hL := SSl.mono le69 hL
        replace hL8 := SSl.mono le69 hL8
        replace hle13 := leMono le69 hle13
        replace hb58 := BSl.mono le69 hb58
        obtain ⟨rfl, rfl⟩ := h69
        refine ops_done (by kernel_rfl) ?_
        refine wp_seq ?_
        refine region_rule ?_
        refine ops_rule (C := []) [(d, .cells #[.map (some m), .int .i64 5000, .int .i64 ((List.length W14 : Nat) : Int), .bool false, .bool false, .int .i64 0, .int .i64 0] 70), (m, .map arr14 clk14)] (F14 ++ Fw14) 2 [] 1 (fun φ70 => [(102, .slice (some ⟨(φ70 0), 0, none⟩) 1 1), (101, .pointer (some ⟨d, 0, none⟩))]) (fun φ70 => [(d, .cells #[.map (some m), .int .i64 5000, .int .i64 ((List.length W14 : Nat) : Int), .bool false, .bool false, .int .i64 0, .int .i64 0] 70), (m, .map arr14 clk14), ((φ70 0), .cells #[.int .u8 1] 5)]) (fun φ70 => []) s trivial (fun φ70 => by kernel_rfl) ?_
        intro φ70 w70 s
        obtain ⟨I71, le71, hk71, s⟩ := s.freezeAt 2 (φ70 0) (.cells #[.int .u8 1] 5) ([(d, .cells #[.map (some m), .int .i64 5000, .int .i64 ((List.length W14 : Nat) : Int), .bool false, .bool false, .int .i64 0, .int .i64 0] 70), (m, .map arr14 clk14)] ++ (F14 ++ Fw14)) (by kernel_rfl) (by kernel_rfl)
        replace hL := SSl.mono le71 hL
        replace hL8 := SSl.mono le71 hL8
        replace hle13 := leMono le71 hle13
        replace hb58 := BSl.mono le71 hb58
        refine callD_rule (d0 := (d, .cells #[.map (some m), .int .i64 5000, .int .i64 ((List.length W14 : Nat) : Int), .bool false, .bool false, .int .i64 0, .int .i64 0] 70)) (m0 := (m, .map arr14 clk14)) (Hr := []) (F := F14) (Fw := Fw14) (some 103) s (appGo_c (room := 5000) (used := List.length W14) (armed := 0) (torn := 0) (k := 7) (q := [1]) (bsl_lit (l := ([1] : List UInt8)) hk71 (by kernel_rfl) rfl) hi14_1 (by have h7 := hi14_5; have h6 := hi14_0; omega) (by decide) (by decide) (by rw [hi14_3]; have h7 := hi14_5; have h6 := hi14_0; simp only [List.length_cons, List.length_nil]; omega) (by have h7 := hi14_5; have h6 := hi14_0; simp only [List.length_cons, List.length_nil]; omega) (by rfl)) (by kernel_rfl) ?_
        rintro v72 I72 w72 d72 m72 F72 le72 ⟨arr72, clk72, rfl, rfl, rfl, hM72⟩ s
        replace hL := SSl.mono le72 hL
        replace hL8 := SSl.mono le72 hL8
        replace hle13 := leMono le72 hle13
        replace hb58 := BSl.mono le72 hb58
        replace hk71 := le72 _ _ hk71
        rw [hi14_4] at hM72
        replace s : St _ _ _ _ _ ([(d, .cells #[.map (some m), .int .i64 5000, .int .i64 ((List.length W14 + 1 : Nat) : Int), .bool false, .bool false, .int .i64 0, .int .i64 0] 70), (m, .map arr72 clk72)] ++ (F72 ++ Fw14)) := s
        replace hM72 : MapP (mput es14 7 (W14 ++ [1])) arr72 F72 := hM72
        refine ops_rule (C := []) [(d, .cells #[.map (some m), .int .i64 5000, .int .i64 ((List.length W14 + 1 : Nat) : Int), .bool false, .bool false, .int .i64 0, .int .i64 0] 70), (m, .map arr72 clk72)] (F72 ++ Fw14) 3 [] 0 (fun φ73 => [(106, .pointer (some ⟨d, 0, none⟩)), (105, .bool true), (104, .bool true)]) (fun φ73 => [(d, .cells #[.map (some m), .int .i64 5000, .int .i64 ((List.length W14 + 1 : Nat) : Int), .bool false, .bool false, .int .i64 0, .int .i64 0] 70), (m, .map arr72 clk72)]) (fun φ73 => []) s trivial (fun φ73 => by kernel_rfl) ?_
        intro φ73 w73 s
        refine callB_rule (b := (d, .cells #[.map (some m), .int .i64 5000, .int .i64 ((List.length W14 + 1 : Nat) : Int), .bool false, .bool false, .int .i64 0, .int .i64 0] 70)) (H := [(d, .cells #[.map (some m), .int .i64 5000, .int .i64 ((List.length W14 + 1 : Nat) : Int), .bool false, .bool false, .int .i64 0, .int .i64 0] 70), (m, .map arr72 clk72)]) (F := (F72 ++ Fw14)) (Hr := [(m, .map arr72 clk72)]) (some 107) 0 s (by kernel_rfl) (by kernel_rfl) (armed_c (armed := 0)) (by kernel_rfl) ?_
        rintro v74 I74 w74 b74 le74 - h74 s
        replace hL := SSl.mono le74 hL
        replace hL8 := SSl.mono le74 hL8
        replace hle13 := leMono le74 hle13
        replace hb58 := BSl.mono le74 hb58
        replace hk71 := le74 _ _ hk71
        obtain ⟨rfl, rfl⟩ := h74
        refine ops_rule (C := []) [(d, .cells #[.map (some m), .int .i64 5000, .int .i64 ((List.length W14 + 1 : Nat) : Int), .bool false, .bool false, .int .i64 0, .int .i64 0] 70), (m, .map arr72 clk72)] (F72 ++ Fw14) 4 [] 0 (fun φ75 => [(111, .pointer (some ⟨d, 0, none⟩)), (110, .bool true), (109, .bool true), (108, .bool true)]) (fun φ75 => [(d, .cells #[.map (some m), .int .i64 5000, .int .i64 ((List.length W14 + 1 : Nat) : Int), .bool false, .bool false, .int .i64 0, .int .i64 0] 70), (m, .map arr72 clk72)]) (fun φ75 => []) s trivial (fun φ75 => by kernel_rfl) ?_
        intro φ75 w75 s
        refine callB_rule (b := (d, .cells #[.map (some m), .int .i64 5000, .int .i64 ((List.length W14 + 1 : Nat) : Int), .bool false, .bool false, .int .i64 0, .int .i64 0] 70)) (H := [(d, .cells #[.map (some m), .int .i64 5000, .int .i64 ((List.length W14 + 1 : Nat) : Int), .bool false, .bool false, .int .i64 0, .int .i64 0] 70), (m, .map arr72 clk72)]) (F := (F72 ++ Fw14)) (Hr := [(m, .map arr72 clk72)]) (some 112) 0 s (by kernel_rfl) (by kernel_rfl) (used_c (used := List.length W14 + 1)) (by kernel_rfl) ?_
        rintro v76 I76 w76 b76 le76 - h76 s
        replace hL := SSl.mono le76 hL
        replace hL8 := SSl.mono le76 hL8
        replace hle13 := leMono le76 hle13
        replace hb58 := BSl.mono le76 hb58
        replace hk71 := le76 _ _ hk71
        obtain ⟨rfl, rfl⟩ := h76
        refine ops_rule (C := []) [(d, .cells #[.map (some m), .int .i64 5000, .int .i64 ((List.length W14 + 1 : Nat) : Int), .bool false, .bool false, .int .i64 0, .int .i64 0] 70), (m, .map arr72 clk72)] (F72 ++ Fw14) 6 [] 0 (fun φ77 => [(6, .bool (((List.length W14 + 1 : Nat) : Int) == (IntKind.wrap .i64 ((((List.length W14) : Nat) : Int) + ((1 : Nat) : Int))))), (117, .bool (((List.length W14 + 1 : Nat) : Int) == (IntKind.wrap .i64 ((((List.length W14) : Nat) : Int) + ((1 : Nat) : Int))))), (116, .bool (((List.length W14 + 1 : Nat) : Int) == (IntKind.wrap .i64 ((((List.length W14) : Nat) : Int) + ((1 : Nat) : Int))))), (115, .int .i64 (IntKind.wrap .i64 ((((List.length W14) : Nat) : Int) + ((1 : Nat) : Int)))), (114, .int .i64 (((List.length W14) : Nat) : Int)), (113, .slice aw (List.length W14) cw)]) (fun φ77 => [(d, .cells #[.map (some m), .int .i64 5000, .int .i64 ((List.length W14 + 1 : Nat) : Int), .bool false, .bool false, .int .i64 0, .int .i64 0] 70), (m, .map arr72 clk72)]) (fun φ77 => []) s trivial (fun φ77 => by kernel_rfl) ?_
        intro φ77 w77 s
        rw [nat_addI (a := (List.length W14)) (b := 1) (by have h6 := hi14_0; have h7 := hi14_5;  have hq0 := of_decide_eq_false hc16; have hq1 := of_decide_eq_true hc65; have hq2 := of_decide_eq_false hc66; (try simp only [List.length_drop, List.length_take, List.length_append, List.length_cons, List.length_nil]); omega)]
        rw [nat_eql (a := (List.length W14 + 1)) (b := ((List.length W14) + 1))]
        refine ops_done (by kernel_rfl) ?_
        refine wp_ret ?_
        refine ret_rule (C := []) [(d, .cells #[.map (some m), .int .i64 5000, .int .i64 ((List.length W14 + 1 : Nat) : Int), .bool false, .bool false, .int .i64 0, .int .i64 0] 70), (m, .map arr72 clk72)] (F72 ++ Fw14) (.bool (decide ((List.length W14 + 1) = ((List.length W14) + 1)))) [] [] s trivial (by kernel_rfl) ?_
        exact ⟨_, _, _, rfl, s, congrArg Value.bool (decide_eq_true rfl)⟩
    ·
      rw [hc65]
      rw [hc65] at s
      rcases Bool.eq_false_or_eq_true (decide ((min L.length 20) < (1 + (k % 20)))) with hc78 | hc78
      ·
        rw [hc78]
        refine ops_rule (C := []) [(d, .cells #[.map (some m), .int .i64 5000, .int .i64 ((List.length W14 : Nat) : Int), .bool false, .bool false, .int .i64 (((1 + (k % 20)) - i14 : Nat) : Int), .int .i64 ((z.toNat : Nat) : Int)] 70), (m, .map arr14 clk14)] (F14 ++ Fw14) 2 [] 0 (fun φ79 => [(98, .bool false), (97, .bool false)]) (fun φ79 => [(d, .cells #[.map (some m), .int .i64 5000, .int .i64 ((List.length W14 : Nat) : Int), .bool false, .bool false, .int .i64 (((1 + (k % 20)) - i14 : Nat) : Int), .int .i64 ((z.toNat : Nat) : Int)] 70), (m, .map arr14 clk14)]) (fun φ79 => []) s trivial (fun φ79 => by kernel_rfl) ?_
        intro φ79 w79 s
        refine ops_done (by kernel_rfl) ?_
        refine cond_false_rule (b := false) (by kernel_rfl) rfl ?_
        refine wp_skip ?_
        refine wp_seq ?_
        refine region_rule ?_
        refine ops_rule (C := []) [(d, .cells #[.map (some m), .int .i64 5000, .int .i64 ((List.length W14 : Nat) : Int), .bool false, .bool false, .int .i64 (((1 + (k % 20)) - i14 : Nat) : Int), .int .i64 ((z.toNat : Nat) : Int)] 70), (m, .map arr14 clk14)] (F14 ++ Fw14) 1 [] 0 (fun φ80 => [(99, .pointer (some ⟨d, 0, none⟩))]) (fun φ80 => [(d, .cells #[.map (some m), .int .i64 5000, .int .i64 ((List.length W14 : Nat) : Int), .bool false, .bool false, .int .i64 (((1 + (k % 20)) - i14 : Nat) : Int), .int .i64 ((z.toNat : Nat) : Int)] 70), (m, .map arr14 clk14)]) (fun φ80 => []) s trivial (fun φ80 => by kernel_rfl) ?_
        intro φ80 w80 s
        refine callB_rule (b := (d, .cells #[.map (some m), .int .i64 5000, .int .i64 ((List.length W14 : Nat) : Int), .bool false, .bool false, .int .i64 (((1 + (k % 20)) - i14 : Nat) : Int), .int .i64 ((z.toNat : Nat) : Int)] 70)) (H := [(d, .cells #[.map (some m), .int .i64 5000, .int .i64 ((List.length W14 : Nat) : Int), .bool false, .bool false, .int .i64 (((1 + (k % 20)) - i14 : Nat) : Int), .int .i64 ((z.toNat : Nat) : Int)] 70), (m, .map arr14 clk14)]) (F := (F14 ++ Fw14)) (Hr := [(m, .map arr14 clk14)]) (some 100) 0 s (by kernel_rfl) (by kernel_rfl) (on_c) (by kernel_rfl) ?_
        rintro v81 I81 w81 b81 le81 - h81 s
        replace hL := SSl.mono le81 hL
        replace hL8 := SSl.mono le81 hL8
        replace hle13 := leMono le81 hle13
        replace hb58 := BSl.mono le81 hb58
        obtain ⟨rfl, rfl⟩ := h81
        refine ops_done (by kernel_rfl) ?_
        refine wp_seq ?_
        refine region_rule ?_
        refine ops_rule (C := []) [(d, .cells #[.map (some m), .int .i64 5000, .int .i64 ((List.length W14 : Nat) : Int), .bool false, .bool false, .int .i64 0, .int .i64 0] 70), (m, .map arr14 clk14)] (F14 ++ Fw14) 2 [] 1 (fun φ82 => [(102, .slice (some ⟨(φ82 0), 0, none⟩) 1 1), (101, .pointer (some ⟨d, 0, none⟩))]) (fun φ82 => [(d, .cells #[.map (some m), .int .i64 5000, .int .i64 ((List.length W14 : Nat) : Int), .bool false, .bool false, .int .i64 0, .int .i64 0] 70), (m, .map arr14 clk14), ((φ82 0), .cells #[.int .u8 1] 5)]) (fun φ82 => []) s trivial (fun φ82 => by kernel_rfl) ?_
        intro φ82 w82 s
        obtain ⟨I83, le83, hk83, s⟩ := s.freezeAt 2 (φ82 0) (.cells #[.int .u8 1] 5) ([(d, .cells #[.map (some m), .int .i64 5000, .int .i64 ((List.length W14 : Nat) : Int), .bool false, .bool false, .int .i64 0, .int .i64 0] 70), (m, .map arr14 clk14)] ++ (F14 ++ Fw14)) (by kernel_rfl) (by kernel_rfl)
        replace hL := SSl.mono le83 hL
        replace hL8 := SSl.mono le83 hL8
        replace hle13 := leMono le83 hle13
        replace hb58 := BSl.mono le83 hb58
        refine callD_rule (d0 := (d, .cells #[.map (some m), .int .i64 5000, .int .i64 ((List.length W14 : Nat) : Int), .bool false, .bool false, .int .i64 0, .int .i64 0] 70)) (m0 := (m, .map arr14 clk14)) (Hr := []) (F := F14) (Fw := Fw14) (some 103) s (appGo_c (room := 5000) (used := List.length W14) (armed := 0) (torn := 0) (k := 7) (q := [1]) (bsl_lit (l := ([1] : List UInt8)) hk83 (by kernel_rfl) rfl) hi14_1 (by have h7 := hi14_5; have h6 := hi14_0; omega) (by decide) (by decide) (by rw [hi14_3]; have h7 := hi14_5; have h6 := hi14_0; simp only [List.length_cons, List.length_nil]; omega) (by have h7 := hi14_5; have h6 := hi14_0; simp only [List.length_cons, List.length_nil]; omega) (by rfl)) (by kernel_rfl) ?_
        rintro v84 I84 w84 d84 m84 F84 le84 ⟨arr84, clk84, rfl, rfl, rfl, hM84⟩ s
        replace hL := SSl.mono le84 hL
        replace hL8 := SSl.mono le84 hL8
        replace hle13 := leMono le84 hle13
        replace hb58 := BSl.mono le84 hb58
        replace hk83 := le84 _ _ hk83
        rw [hi14_4] at hM84
        replace s : St _ _ _ _ _ ([(d, .cells #[.map (some m), .int .i64 5000, .int .i64 ((List.length W14 + 1 : Nat) : Int), .bool false, .bool false, .int .i64 0, .int .i64 0] 70), (m, .map arr84 clk84)] ++ (F84 ++ Fw14)) := s
        replace hM84 : MapP (mput es14 7 (W14 ++ [1])) arr84 F84 := hM84
        refine ops_rule (C := []) [(d, .cells #[.map (some m), .int .i64 5000, .int .i64 ((List.length W14 + 1 : Nat) : Int), .bool false, .bool false, .int .i64 0, .int .i64 0] 70), (m, .map arr84 clk84)] (F84 ++ Fw14) 3 [] 0 (fun φ85 => [(106, .pointer (some ⟨d, 0, none⟩)), (105, .bool true), (104, .bool true)]) (fun φ85 => [(d, .cells #[.map (some m), .int .i64 5000, .int .i64 ((List.length W14 + 1 : Nat) : Int), .bool false, .bool false, .int .i64 0, .int .i64 0] 70), (m, .map arr84 clk84)]) (fun φ85 => []) s trivial (fun φ85 => by kernel_rfl) ?_
        intro φ85 w85 s
        refine callB_rule (b := (d, .cells #[.map (some m), .int .i64 5000, .int .i64 ((List.length W14 + 1 : Nat) : Int), .bool false, .bool false, .int .i64 0, .int .i64 0] 70)) (H := [(d, .cells #[.map (some m), .int .i64 5000, .int .i64 ((List.length W14 + 1 : Nat) : Int), .bool false, .bool false, .int .i64 0, .int .i64 0] 70), (m, .map arr84 clk84)]) (F := (F84 ++ Fw14)) (Hr := [(m, .map arr84 clk84)]) (some 107) 0 s (by kernel_rfl) (by kernel_rfl) (armed_c (armed := 0)) (by kernel_rfl) ?_
        rintro v86 I86 w86 b86 le86 - h86 s
        replace hL := SSl.mono le86 hL
        replace hL8 := SSl.mono le86 hL8
        replace hle13 := leMono le86 hle13
        replace hb58 := BSl.mono le86 hb58
        replace hk83 := le86 _ _ hk83
        obtain ⟨rfl, rfl⟩ := h86
        refine ops_rule (C := []) [(d, .cells #[.map (some m), .int .i64 5000, .int .i64 ((List.length W14 + 1 : Nat) : Int), .bool false, .bool false, .int .i64 0, .int .i64 0] 70), (m, .map arr84 clk84)] (F84 ++ Fw14) 4 [] 0 (fun φ87 => [(111, .pointer (some ⟨d, 0, none⟩)), (110, .bool true), (109, .bool true), (108, .bool true)]) (fun φ87 => [(d, .cells #[.map (some m), .int .i64 5000, .int .i64 ((List.length W14 + 1 : Nat) : Int), .bool false, .bool false, .int .i64 0, .int .i64 0] 70), (m, .map arr84 clk84)]) (fun φ87 => []) s trivial (fun φ87 => by kernel_rfl) ?_
        intro φ87 w87 s
        refine callB_rule (b := (d, .cells #[.map (some m), .int .i64 5000, .int .i64 ((List.length W14 + 1 : Nat) : Int), .bool false, .bool false, .int .i64 0, .int .i64 0] 70)) (H := [(d, .cells #[.map (some m), .int .i64 5000, .int .i64 ((List.length W14 + 1 : Nat) : Int), .bool false, .bool false, .int .i64 0, .int .i64 0] 70), (m, .map arr84 clk84)]) (F := (F84 ++ Fw14)) (Hr := [(m, .map arr84 clk84)]) (some 112) 0 s (by kernel_rfl) (by kernel_rfl) (used_c (used := List.length W14 + 1)) (by kernel_rfl) ?_
        rintro v88 I88 w88 b88 le88 - h88 s
        replace hL := SSl.mono le88 hL
        replace hL8 := SSl.mono le88 hL8
        replace hle13 := leMono le88 hle13
        replace hb58 := BSl.mono le88 hb58
        replace hk83 := le88 _ _ hk83
        obtain ⟨rfl, rfl⟩ := h88
        refine ops_rule (C := []) [(d, .cells #[.map (some m), .int .i64 5000, .int .i64 ((List.length W14 + 1 : Nat) : Int), .bool false, .bool false, .int .i64 0, .int .i64 0] 70), (m, .map arr84 clk84)] (F84 ++ Fw14) 6 [] 0 (fun φ89 => [(6, .bool (((List.length W14 + 1 : Nat) : Int) == (IntKind.wrap .i64 ((((List.length W14) : Nat) : Int) + ((1 : Nat) : Int))))), (117, .bool (((List.length W14 + 1 : Nat) : Int) == (IntKind.wrap .i64 ((((List.length W14) : Nat) : Int) + ((1 : Nat) : Int))))), (116, .bool (((List.length W14 + 1 : Nat) : Int) == (IntKind.wrap .i64 ((((List.length W14) : Nat) : Int) + ((1 : Nat) : Int))))), (115, .int .i64 (IntKind.wrap .i64 ((((List.length W14) : Nat) : Int) + ((1 : Nat) : Int)))), (114, .int .i64 (((List.length W14) : Nat) : Int)), (113, .slice aw (List.length W14) cw)]) (fun φ89 => [(d, .cells #[.map (some m), .int .i64 5000, .int .i64 ((List.length W14 + 1 : Nat) : Int), .bool false, .bool false, .int .i64 0, .int .i64 0] 70), (m, .map arr84 clk84)]) (fun φ89 => []) s trivial (fun φ89 => by kernel_rfl) ?_
        intro φ89 w89 s
        rw [nat_addI (a := (List.length W14)) (b := 1) (by have h6 := hi14_0; have h7 := hi14_5;  have hq0 := of_decide_eq_false hc16; have hq1 := of_decide_eq_false hc65; have hq2 := of_decide_eq_true hc78; (try simp only [List.length_drop, List.length_take, List.length_append, List.length_cons, List.length_nil]); omega)]
        rw [nat_eql (a := (List.length W14 + 1)) (b := ((List.length W14) + 1))]
        refine ops_done (by kernel_rfl) ?_
        refine wp_ret ?_
        refine ret_rule (C := []) [(d, .cells #[.map (some m), .int .i64 5000, .int .i64 ((List.length W14 + 1 : Nat) : Int), .bool false, .bool false, .int .i64 0, .int .i64 0] 70), (m, .map arr84 clk84)] (F84 ++ Fw14) (.bool (decide ((List.length W14 + 1) = ((List.length W14) + 1)))) [] [] s trivial (by kernel_rfl) ?_
        exact ⟨_, _, _, rfl, s, congrArg Value.bool (decide_eq_true rfl)⟩
      ·
        exact absurd (of_decide_eq_false hc78) (by have h6 := hi14_0; have hq0 := of_decide_eq_false hc16; have hq1 := of_decide_eq_false hc65; omega)

end Go.Proofs.Ytccjlkjadnghgaa
