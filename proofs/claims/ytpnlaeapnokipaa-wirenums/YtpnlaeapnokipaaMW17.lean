/- Numbers and texts in bytes. -/
import Derived.Test.YtpnlaeapnokipaaMW3
import Derived.Test.YtpnlaeapnokipaaMB3
import Derived.Test.YtpnlaeapnokipaaMS10
import Derived.Laws.MakeOwn
import Derived.Test.YtpnlaeapnokipaaMC2
import Derived.Test.YtpnlaeapnokipaaMB7
import Derived.Test.YtpnlaeapnokipaaMC6
set_option linter.all false
set_option maxRecDepth 100000
namespace Go.Proofs.Ytpnlaeapnokipaa
open Go.RowKit Go.Sep
attribute [local irreducible] Go.wpList Go.Code.wp

theorem row_oneU (g : Nat) {x : Nat} (h : x < 256) : RowH 5 1 (.slice (some ⟨g, 0, none⟩) 1 1) 1 (([UInt8.ofNat x] : List UInt8).map bV) [(g, .cells #[.int .u8 ((x : Nat) : Int)] 5)] :=
  ⟨rfl, .inr ⟨g, 1, _, rfl, rfl, Nat.le_refl _, by decide, rfl, by show [Value.int .u8 ((x : Nat) : Int)] = [bV (UInt8.ofNat x)]; rw [cell_byte h]⟩⟩
theorem src_str {l : List UInt8} {w : World} : Src Try.prog 1 9 (.string ⟨l.toArray⟩) l.length (l.map bV) w := by
  have h := Src.ofString w under9 ⟨l.toArray⟩
  have e : Go.byteCells ⟨l.toArray⟩ = l.map bV := rfl
  rw [e] at h; exact h
theorem bandn8_lt {a b : Nat} : bandn 8 a b < 256 := BitVec.isLt _
theorem bor8_lt' {a b : Nat} : bor 8 a b < 256 := BitVec.isLt _

set_option maxHeartbeats 2000000 in
theorem numB_r {I : IM} {l : List UInt8} {a : Option Addr} {m c : Nat} (hl : BSl I l (.slice a m c)) (hn9 : l.length ≤ 900000) {n : Nat} (hn : n < 18446744073709551616) : FunM Try.prog 58 #[.slice a m c, .int .u64 ((n : Nat) : Int)] I [] (fun v J F => RowH 5 1 v (l ++ encF 9 n).length ((l ++ encF 9 n).map bV) F) := by
  obtain ⟨rfl, -⟩ := hl.cap
  refine enterM_rule 26 [(0, .slice a l.length c), (1, .int .u64 ((n : Nat) : Int))] Try.func58 rfl (by kernel_rfl) ?_
  intro w s
  refine wp_seq ?_
  refine region_rule ?_
  refine ops_rule (C := []) [] [] 1 [] 0 (fun φ1 => [(4, .slice none 0 0)]) (fun φ1 => []) (fun φ1 => []) s trivial (fun φ1 => by kernel_rfl) ?_
  intro φ1 w1 s
  refine ops_done (by kernel_rfl) ?_
  refine wp_seq ?_
  refine region_rule ?_
  refine ops_rule (C := []) [] [] 5 [] 0 (fun φ2 => [(9, .int .i64 ((l.length : Nat) : Int)), (8, .slice a l.length c), (7, .int .i64 ((l.length : Nat) : Int)), (6, .slice a l.length c), (5, .slice a l.length c)]) (fun φ2 => []) (fun φ2 => []) s trivial (fun φ2 => by kernel_rfl) ?_
  intro φ2 w2 s
  refine sem_rule (Instr.sliceAt 34 (.slice a l.length c) none (some (.int .i64 ((l.length : Nat) : Int))) (some (.int .i64 ((l.length : Nat) : Int)))) (some 10) (.slice a l.length l.length) (by kernel_rfl) (run_to3 (by have hcp := (BSl.cap hl).2; (try simp only [List.length_drop, List.length_take, List.length_append, List.length_cons, List.length_nil] at hcp ⊢);   (try simp only [List.length_drop, List.length_take, List.length_append, List.length_cons, List.length_nil]); omega) (by have hcp := (BSl.cap hl).2; (try simp only [List.length_drop, List.length_take, List.length_append, List.length_cons, List.length_nil] at hcp ⊢);   (try simp only [List.length_drop, List.length_take, List.length_append, List.length_cons, List.length_nil]); omega)) ?_
  refine ops_rule (C := []) [] [] 1 [] 0 (fun φ3 => [(0, .slice a l.length l.length)]) (fun φ3 => []) (fun φ3 => []) s trivial (fun φ3 => by kernel_rfl) ?_
  intro φ3 w3 s
  refine ops_done (by kernel_rfl) ?_
  refine wp_seq ?_
  refine wp_block ?_
  have hle4 := IM.Le.refl I
  refine loop_rule (fun (x : List UInt8 × Nat × Value × List OB) => [(0, x.2.2.1), (1, .int .u64 ((x.2.1 : Nat) : Int))]) (fun (x : List UInt8 × Nat × Value × List OB) => [] ++ x.2.2.2) (fun m (x : List UInt8 × Nat × Value × List OB) J => IM.Le I J ∧ x.1 ++ encF m x.2.1 = l ++ encF 9 n ∧ x.2.1 < 2 ^ (m * 7 + 1) ∧ List.length x.1 + m ≤ l.length + 9 ∧ x.2.1 < 18446744073709551616 ∧ RowA J x.1 x.2.2.1 x.2.2.2) (9) (l, n, .slice a l.length l.length, []) s (by kernel_rfl) (List.Sublist.refl _) ⟨IM.Le.refl _, rfl, hn, (Nat.le_refl _), hn, Or.inr ⟨rfl, a, rfl, (bsl_clip hl)⟩⟩ ?_
  rintro m5 ⟨cur5, nn5, v5, F5⟩ I5 w5 ev5 s ⟨le5, hi5_0, hi5_1, hi5_2, hi5_3, hi5_4⟩
  try dsimp only at s hi5_0 hi5_1 hi5_2 hi5_3 hi5_4 ⊢
  replace hl := BSl.mono le5 hl
  replace hle4 := leMono le5 hle4
  refine wp_seq ?_
  refine wp_seq ?_
  refine region_rule ?_
  refine ops_rule (C := []) [] F5 2 [] 0 (fun φ6 => [(12, .bool (decide (((nn5 : Nat) : Int) ≥ ((128 : Nat) : Int)))), (11, .int .u64 ((nn5 : Nat) : Int))]) (fun φ6 => []) (fun φ6 => []) s trivial (fun φ6 => by kernel_rfl) ?_
  intro φ6 w6 s
  rw [nat_geq (a := nn5) (b := 128)]
  refine ops_done (by kernel_rfl) ?_
  rcases Bool.eq_false_or_eq_true (decide (128 ≤ nn5)) with hc7 | hc7
  ·
    rw [hc7]
    refine cond_true_rule (b := true) (by kernel_rfl) rfl ?_
    refine wp_skip ?_
    refine wp_block ?_
    refine wp_seq ?_
    refine region_rule ?_
    refine ops_rule (C := []) [] F5 2 [] 0 (fun φ8 => [(14, .int .u64 ((nn5 : Nat) : Int)), (13, v5)]) (fun φ8 => []) (fun φ8 => []) s trivial (fun φ8 => by kernel_rfl) ?_
    intro φ8 w8 s
    refine sem_rule (convert 27 5 (.int .u64 ((nn5 : Nat) : Int))) (some 15) (.int .u8 ((nn5 % 256 : Nat) : Int)) (by kernel_rfl) (run_conv8 (by kernel_rfl) ⟨_, Try.underlying27⟩) ?_
    refine sem_rule (binOp .or 5 (.int .u8 ((nn5 % 256 : Nat) : Int)) (.int .u8 ((128 : Nat) : Int))) (some 16) (.int .u8 ((bor 8 (nn5 % 256) 128 : Nat) : Int)) (by kernel_rfl) (run_bit8.2.2.1) ?_
    refine ops_rule (C := []) [] F5 1 [] 1 (fun φ9 => [(17, .slice (some ⟨(φ9 0), 0, none⟩) 1 1)]) (fun φ9 => [((φ9 0), .cells #[.int .u8 ((bor 8 (nn5 % 256) 128 : Nat) : Int)] 5)]) (fun φ9 => []) s trivial (fun φ9 => by kernel_rfl) ?_
    intro φ9 w9 s
    refine append_ruleG (H := [((φ9 0), .cells #[.int .u8 ((bor 8 (nn5 % 256) 128 : Nat) : Int)] 5)]) (RH := fun v' F' => RowH 5 1 v' (cur5.length + 1) (cur5.map bV ++ [.int .u8 ((bor 8 (nn5 % 256) 128 : Nat) : Int)]) F') 34 34 (some 18) (fun ty => append_any (H := [((φ9 0), .cells #[.int .u8 ((bor 8 (nn5 % 256) 128 : Nat) : Int)] 5)]) (F := F5) s hi5_4 (src_own (H := [((φ9 0), .cells #[.int .u8 ((bor 8 (nn5 % 256) 128 : Nat) : Int)] 5)]) s 0 (φ9 0) #[.int .u8 ((bor 8 (nn5 % 256) 128 : Nat) : Int)] 5 34 5 1 1 1 [.int .u8 ((bor 8 (nn5 % 256) 128 : Nat) : Int)] (by kernel_rfl) under34 (by kernel_rfl) (by kernel_rfl) (by kernel_rfl)) (by omega) (by have hn2 := hi5_2; have hn3 := hi5_3; (try simp only [maxLen, List.length_append, List.length_cons, List.length_nil]); omega)) (by kernel_rfl) ?_
    intro v10 w10 F10 s h10
    replace h10 : RowH 5 1 v10 ((cur5 ++ ([UInt8.ofNat (bor 8 (nn5 % 256) 128)] : List UInt8)).length) ((cur5 ++ ([UInt8.ofNat (bor 8 (nn5 % 256) 128)] : List UInt8)).map bV) F10 := row_snoc (x := cur5) (y := ([UInt8.ofNat (bor 8 (nn5 % 256) 128)] : List UInt8)) h10 (by simp only [List.map_cons, List.map_nil]; exact cells_bytes1 (by exact bor8_lt'))
    refine ops_rule (C := []) [((φ9 0), .cells #[.int .u8 ((bor 8 (nn5 % 256) 128 : Nat) : Int)] 5)] F10 1 [] 0 (fun φ11 => [(0, v10)]) (fun φ11 => [((φ9 0), .cells #[.int .u8 ((bor 8 (nn5 % 256) 128 : Nat) : Int)] 5)]) (fun φ11 => []) s trivial (fun φ11 => by kernel_rfl) ?_
    intro φ11 w11 s
    refine ops_done (by kernel_rfl) ?_
    refine region_rule ?_
    refine ops_rule (C := []) [((φ9 0), .cells #[.int .u8 ((bor 8 (nn5 % 256) 128 : Nat) : Int)] 5)] F10 1 [] 0 (fun φ12 => [(19, .int .u64 ((nn5 : Nat) : Int))]) (fun φ12 => [((φ9 0), .cells #[.int .u8 ((bor 8 (nn5 % 256) 128 : Nat) : Int)] 5)]) (fun φ12 => []) s trivial (fun φ12 => by kernel_rfl) ?_
    intro φ12 w12 s
    refine sem_rule (binOp .shr 27 (.int .u64 ((nn5 : Nat) : Int)) (.int .u64 ((7 : Nat) : Int))) (some 20) (.int .u64 ((nn5 / 2 ^ 7 : Nat) : Int)) (by kernel_rfl) (run_shrU (by show _ < 18446744073709551616; have hn2 := hi5_2; have hn3 := hi5_3; have hq0 := of_decide_eq_true hc7; omega)) ?_
    refine ops_rule (C := []) [((φ9 0), .cells #[.int .u8 ((bor 8 (nn5 % 256) 128 : Nat) : Int)] 5)] F10 1 [] 0 (fun φ13 => [(1, .int .u64 ((nn5 / 2 ^ 7 : Nat) : Int))]) (fun φ13 => [((φ9 0), .cells #[.int .u8 ((bor 8 (nn5 % 256) 128 : Nat) : Int)] 5)]) (fun φ13 => []) s trivial (fun φ13 => by kernel_rfl) ?_
    intro φ13 w13 s
    refine ops_done (by kernel_rfl) ?_
    have hq9 : ¬ nn5 < 128 := (by have := of_decide_eq_true hc7; omega)
    have hs9 := enc_step hi5_0 hi5_1 hq9
    have hm9 := m_pos hi5_1 hq9
    exact ⟨⟨m5 - 1, (cur5 ++ ([UInt8.ofNat (bor 8 (nn5 % 256) 128)] : List UInt8), nn5 / 2 ^ 7, v10, F10), _, _, _, by omega, rfl, s, (List.Sublist.append (List.Sublist.cons _ List.Sublist.slnil) (List.Sublist.refl _)), by kernel_rfl, hle4, hs9.1, hs9.2, by have := hi5_2; show List.length (cur5 ++ ([UInt8.ofNat (bor 8 (nn5 % 256) 128)] : List UInt8)) + (m5 - 1) ≤ l.length + 9; rw [List.length_append]; simp only [List.length_cons, List.length_nil]; omega, Nat.lt_of_le_of_lt (Nat.div_le_self _ _) hi5_3, Or.inl h10⟩⟩
  ·
    rw [hc7]
    refine cond_false_rule (b := false) (by kernel_rfl) rfl ?_
    refine wp_exit ?_
    refine wp_seq ?_
    refine region_rule ?_
    refine ops_rule (C := []) [] F5 2 [] 0 (fun φ14 => [(22, .int .u64 ((nn5 : Nat) : Int)), (21, v5)]) (fun φ14 => []) (fun φ14 => []) s trivial (fun φ14 => by kernel_rfl) ?_
    intro φ14 w14 s
    refine sem_rule (convert 27 5 (.int .u64 ((nn5 : Nat) : Int))) (some 23) (.int .u8 ((nn5 % 256 : Nat) : Int)) (by kernel_rfl) (run_conv8 (by kernel_rfl) ⟨_, Try.underlying27⟩) ?_
    refine ops_rule (C := []) [] F5 1 [] 1 (fun φ15 => [(24, .slice (some ⟨(φ15 0), 0, none⟩) 1 1)]) (fun φ15 => [((φ15 0), .cells #[.int .u8 ((nn5 % 256 : Nat) : Int)] 5)]) (fun φ15 => []) s trivial (fun φ15 => by kernel_rfl) ?_
    intro φ15 w15 s
    refine append_ruleG (H := [((φ15 0), .cells #[.int .u8 ((nn5 % 256 : Nat) : Int)] 5)]) (RH := fun v' F' => RowH 5 1 v' (cur5.length + 1) (cur5.map bV ++ [.int .u8 ((nn5 % 256 : Nat) : Int)]) F') 34 34 (some 25) (fun ty => append_any (H := [((φ15 0), .cells #[.int .u8 ((nn5 % 256 : Nat) : Int)] 5)]) (F := F5) s hi5_4 (src_own (H := [((φ15 0), .cells #[.int .u8 ((nn5 % 256 : Nat) : Int)] 5)]) s 0 (φ15 0) #[.int .u8 ((nn5 % 256 : Nat) : Int)] 5 34 5 1 1 1 [.int .u8 ((nn5 % 256 : Nat) : Int)] (by kernel_rfl) under34 (by kernel_rfl) (by kernel_rfl) (by kernel_rfl)) (by omega) (by have hn2 := hi5_2; have hn3 := hi5_3; (try simp only [maxLen, List.length_append, List.length_cons, List.length_nil]); omega)) (by kernel_rfl) ?_
    intro v16 w16 F16 s h16
    replace h16 : RowH 5 1 v16 ((cur5 ++ ([UInt8.ofNat (nn5 % 256)] : List UInt8)).length) ((cur5 ++ ([UInt8.ofNat (nn5 % 256)] : List UInt8)).map bV) F16 := row_snoc (x := cur5) (y := ([UInt8.ofNat (nn5 % 256)] : List UInt8)) h16 (by simp only [List.map_cons, List.map_nil]; exact cells_bytes1 (by have hn2 := hi5_2; have hn3 := hi5_3; have hq0 := of_decide_eq_false hc7; omega))
    refine ops_rule (C := []) [((φ15 0), .cells #[.int .u8 ((nn5 % 256 : Nat) : Int)] 5)] F16 1 [] 0 (fun φ17 => [(4, v16)]) (fun φ17 => [((φ15 0), .cells #[.int .u8 ((nn5 % 256 : Nat) : Int)] 5)]) (fun φ17 => []) s trivial (fun φ17 => by kernel_rfl) ?_
    intro φ17 w17 s
    refine ops_done (by kernel_rfl) ?_
    refine wp_ret ?_
    refine ret_rule (C := []) [((φ15 0), .cells #[.int .u8 ((nn5 % 256 : Nat) : Int)] 5)] F16 (v16) [] [] s trivial (by kernel_rfl) ?_
    replace s := s.drop (List.sublist_append_right [((φ15 0), .cells #[.int .u8 ((nn5 % 256 : Nat) : Int)] 5)] F16)
    exact ⟨_, _, _, rfl, s, (by have e9 := h16; have h8 := hi5_0; rw [encF_stop (by have := of_decide_eq_false hc7; omega)] at h8; rw [h8] at e9; exact e9)⟩

set_option maxHeartbeats 2000000 in
theorem textB_r {I : IM} {l : List UInt8} {a : Option Addr} {m c : Nat} (hl : BSl I l (.slice a m c)) (hn9 : l.length ≤ 900000) {ss : List UInt8} (hss : ss.length ≤ 1000) : FunM Try.prog 57 #[.slice a m c, .string ⟨(ss).toArray⟩] I [] (fun v J F => RowH 5 1 v ((l ++ encF 9 ss.length) ++ ss).length (((l ++ encF 9 ss.length) ++ ss).map bV) F) := by
  obtain ⟨rfl, -⟩ := hl.cap
  refine enterM_rule 12 [(0, .slice a l.length c), (1, .string ⟨(ss).toArray⟩)] Try.func57 rfl (by kernel_rfl) ?_
  intro w s
  refine wp_seq ?_
  refine region_rule ?_
  refine ops_rule (C := []) [] [] 1 [] 0 (fun φ1 => [(4, .slice none 0 0)]) (fun φ1 => []) (fun φ1 => []) s trivial (fun φ1 => by kernel_rfl) ?_
  intro φ1 w1 s
  refine ops_done (by kernel_rfl) ?_
  refine wp_seq ?_
  refine region_rule ?_
  refine ops_rule (C := []) [] [] 4 [] 0 (fun φ2 => [(8, .int .u64 (IntKind.wrap .u64 (((ss).length : Nat) : Int))), (7, .int .i64 (((ss).length : Nat) : Int)), (6, .string ⟨(ss).toArray⟩), (5, .slice a l.length c)]) (fun φ2 => []) (fun φ2 => []) s trivial (fun φ2 => by kernel_rfl) ?_
  intro φ2 w2 s
  rw [nat_wrapU (a := ((ss).length)) (by   (try simp only [List.length_drop, List.length_take, List.length_append, List.length_cons, List.length_nil]); omega)]
  refine callF_rule (H := []) (F := []) (some 9) s (numB_r (n := (ss).length) hl (by omega) (by   (try simp only [List.length_drop, List.length_take, List.length_append, List.length_cons, List.length_nil]); omega)) (by kernel_rfl) ?_
  intro v3 I3 w3 F3 le3 h3 s
  replace hl := BSl.mono le3 hl
  refine ops_rule (C := []) [] F3 1 [] 0 (fun φ4 => [(10, .string ⟨(ss).toArray⟩)]) (fun φ4 => []) (fun φ4 => []) s trivial (fun φ4 => by kernel_rfl) ?_
  intro φ4 w4 s
  refine append_rule (H := []) (F := F3) 34 9 5 Try.t5 (.int .u8 0) 1 1 (some 11) s Try.underlying34 (by kernel_rfl) (by kernel_rfl) (by kernel_rfl) (by kernel_rfl) (by kernel_rfl) (by decide) h3 (src_str (l := ss)) (by have := (encF_len 9 (ss).length).2; (try simp only [maxLen, List.length_append]); omega) (by have := (encF_len 9 (ss).length).2; (try simp only [maxLen, List.length_append]); omega) (by kernel_rfl) ?_
  intro v5 w5 F5 s h5
  replace h5 : RowH 5 1 v5 (((l ++ encF 9 ((ss).length)) ++ ss).length) (((l ++ encF 9 ((ss).length)) ++ ss).map bV) F5 := row_app (x := (l ++ encF 9 ((ss).length))) (y := ss) h5
  refine ops_rule (C := []) [] F5 1 [] 0 (fun φ6 => [(4, v5)]) (fun φ6 => []) (fun φ6 => []) s trivial (fun φ6 => by kernel_rfl) ?_
  intro φ6 w6 s
  refine ops_done (by kernel_rfl) ?_
  refine wp_ret ?_
  refine ret_rule (C := []) [] F5 (v5) [] [] s trivial (by kernel_rfl) ?_
  replace s := s.drop (List.sublist_append_right [] F5)
  exact ⟨_, _, _, rfl, s, h5⟩

theorem refnum0 {I : IM} {f n : Nat} (h : n < 128) : FunM Try.prog 60 #[.int .u64 ((n : Nat) : Int)] I [] (fun v J F => RowH 5 1 v (encF f n).length ((encF f n).map bV) F) := by
  refine enterM_rule 17 [(0, .int .u64 ((n : Nat) : Int))] Try.func60 rfl (by kernel_rfl) ?_
  intro w s
  refine wp_seq ?_
  refine region_rule ?_
  refine ops_rule (C := []) [] [] 1 [] 0 (fun φ1 => [(2, .slice none 0 0)]) (fun φ1 => []) (fun φ1 => []) s trivial (fun φ1 => by kernel_rfl) ?_
  intro φ1 w1 s
  refine ops_done (by kernel_rfl) ?_
  refine wp_seq ?_
  refine wp_seq ?_
  refine region_rule ?_
  refine ops_rule (C := []) [] [] 2 [] 0 (fun φ2 => [(4, .bool (decide (((n : Nat) : Int) < ((128 : Nat) : Int)))), (3, .int .u64 ((n : Nat) : Int))]) (fun φ2 => []) (fun φ2 => []) s trivial (fun φ2 => by kernel_rfl) ?_
  intro φ2 w2 s
  rw [nat_lss (a := n) (b := 128)]
  refine ops_done (by kernel_rfl) ?_
  rcases Bool.eq_false_or_eq_true (decide (n < 128)) with hc3 | hc3
  ·
    rw [hc3]
    refine cond_true_rule (b := true) (by kernel_rfl) rfl ?_
    refine wp_seq ?_
    refine region_rule ?_
    refine ops_rule (C := []) [] [] 1 [] 0 (fun φ4 => [(5, .int .u64 ((n : Nat) : Int))]) (fun φ4 => []) (fun φ4 => []) s trivial (fun φ4 => by kernel_rfl) ?_
    intro φ4 w4 s
    refine sem_rule (convert 27 5 (.int .u64 ((n : Nat) : Int))) (some 6) (.int .u8 ((n % 256 : Nat) : Int)) (by kernel_rfl) (run_conv8 (by kernel_rfl) ⟨_, Try.underlying27⟩) ?_
    refine ops_rule (C := []) [] [] 2 [] 1 (fun φ5 => [(2, .slice (some ⟨(φ5 0), 0, none⟩) 1 1), (7, .slice (some ⟨(φ5 0), 0, none⟩) 1 1)]) (fun φ5 => [((φ5 0), .cells #[.int .u8 ((n % 256 : Nat) : Int)] 5)]) (fun φ5 => []) s trivial (fun φ5 => by kernel_rfl) ?_
    intro φ5 w5 s
    refine ops_done (by kernel_rfl) ?_
    refine wp_ret ?_
    refine ret_rule (C := []) [((φ5 0), .cells #[.int .u8 ((n % 256 : Nat) : Int)] 5)] [] (.slice (some ⟨(φ5 0), 0, none⟩) 1 1) [] [] s trivial (by kernel_rfl) ?_
    exact ⟨_, _, _, rfl, s, (by rw [encF_stop (of_decide_eq_true hc3)]; exact row_oneU (φ5 0) (by omega))⟩
  ·
    exact absurd (of_decide_eq_false hc3) (fun q => q h)

theorem refnumS {I : IM} {f n : Nat} (h : ¬ n < 128) (hn : n < 18446744073709551616) (hf : f ≤ 100) (ih : ∀ {I : IM}, FunM Try.prog 60 #[.int .u64 (((n / 128) : Nat) : Int)] I [] (fun v J F => RowH 5 1 v (encF f (n / 128)).length ((encF f (n / 128)).map bV) F)) : FunM Try.prog 60 #[.int .u64 ((n : Nat) : Int)] I [] (fun v J F => RowH 5 1 v (encF (f + 1) n).length ((encF (f + 1) n).map bV) F) := by
  refine enterM_rule 17 [(0, .int .u64 ((n : Nat) : Int))] Try.func60 rfl (by kernel_rfl) ?_
  intro w s
  refine wp_seq ?_
  refine region_rule ?_
  refine ops_rule (C := []) [] [] 1 [] 0 (fun φ1 => [(2, .slice none 0 0)]) (fun φ1 => []) (fun φ1 => []) s trivial (fun φ1 => by kernel_rfl) ?_
  intro φ1 w1 s
  refine ops_done (by kernel_rfl) ?_
  refine wp_seq ?_
  refine wp_seq ?_
  refine region_rule ?_
  refine ops_rule (C := []) [] [] 2 [] 0 (fun φ2 => [(4, .bool (decide (((n : Nat) : Int) < ((128 : Nat) : Int)))), (3, .int .u64 ((n : Nat) : Int))]) (fun φ2 => []) (fun φ2 => []) s trivial (fun φ2 => by kernel_rfl) ?_
  intro φ2 w2 s
  rw [nat_lss (a := n) (b := 128)]
  refine ops_done (by kernel_rfl) ?_
  rcases Bool.eq_false_or_eq_true (decide (n < 128)) with hc3 | hc3
  ·
    exact absurd (of_decide_eq_true hc3) h
  ·
    rw [hc3]
    refine cond_false_rule (b := false) (by kernel_rfl) rfl ?_
    refine wp_skip ?_
    refine wp_seq ?_
    refine region_rule ?_
    refine ops_rule (C := []) [] [] 3 [] 0 (fun φ4 => [(10, .int .u64 (IntKind.wrap .u64 ((Int.tmod ((n : Nat) : Int) ((128 : Nat) : Int)) + ((128 : Nat) : Int)))), (9, .int .u64 (Int.tmod ((n : Nat) : Int) ((128 : Nat) : Int))), (8, .int .u64 ((n : Nat) : Int))]) (fun φ4 => []) (fun φ4 => []) s trivial (fun φ4 => by kernel_rfl) ?_
    intro φ4 w4 s
    rw [nat_rem (a := n) (b := 128)]
    rw [nat_addU (a := (n % 128)) (b := 128) (by  have hq0 := of_decide_eq_false hc3; omega)]
    refine sem_rule (convert 27 5 (.int .u64 (((n % 128) + 128 : Nat) : Int))) (some 11) (.int .u8 ((((n % 128) + 128) % 256 : Nat) : Int)) (by kernel_rfl) (run_conv8 (by kernel_rfl) ⟨_, Try.underlying27⟩) ?_
    refine ops_rule (C := []) [] [] 3 [] 1 (fun φ5 => [(14, .int .u64 (IntKind.wrap .u64 (Int.tdiv ((n : Nat) : Int) ((128 : Nat) : Int)))), (13, .int .u64 ((n : Nat) : Int)), (12, .slice (some ⟨(φ5 0), 0, none⟩) 1 1)]) (fun φ5 => [((φ5 0), .cells #[.int .u8 ((((n % 128) + 128) % 256 : Nat) : Int)] 5)]) (fun φ5 => []) s trivial (fun φ5 => by kernel_rfl) ?_
    intro φ5 w5 s
    rw [nat_quoU (a := n) (b := 128) (by  have hq0 := of_decide_eq_false hc3; omega)]
    refine call_rule (some 15) s (fun_of_rowB (ih )) (by kernel_rfl) ?_
    intro v6 I6 w6 le6 h6 s
    obtain ⟨a6, c6, rfl, h6_0⟩ := h6
    refine append_rule (H := []) (F := [((φ5 0), .cells #[.int .u8 ((((n % 128) + 128) % 256 : Nat) : Int)] 5)]) 34 34 5 Try.t5 (.int .u8 0) 1 1 (some 16) s Try.underlying34 (by kernel_rfl) (by kernel_rfl) (by kernel_rfl) (by kernel_rfl) (by kernel_rfl) (by decide) (row_oneU (φ5 0) (by  have hq0 := of_decide_eq_false hc3; omega)) (src_bsl s.sub h6_0) (by have := (encF_len f (n / 128)).2; (try simp only [maxLen, List.length_append, List.length_cons, List.length_nil]); omega) (by have := (encF_len f (n / 128)).2; (try simp only [maxLen, List.length_append, List.length_cons, List.length_nil]); omega) (by kernel_rfl) ?_
    intro v7 w7 F7 s h7
    replace h7 : RowH 5 1 v7 ((([UInt8.ofNat (((n % 128) + 128) % 256)] : List UInt8) ++ (encF f (n / 128))).length) ((([UInt8.ofNat (((n % 128) + 128) % 256)] : List UInt8) ++ (encF f (n / 128))).map bV) F7 := row_app (x := ([UInt8.ofNat (((n % 128) + 128) % 256)] : List UInt8)) (y := (encF f (n / 128))) h7
    refine ops_rule (C := []) [] F7 1 [] 0 (fun φ8 => [(2, v7)]) (fun φ8 => []) (fun φ8 => []) s trivial (fun φ8 => by kernel_rfl) ?_
    intro φ8 w8 s
    refine ops_done (by kernel_rfl) ?_
    refine wp_ret ?_
    refine ret_rule (C := []) [] F7 (v7) [] [] s trivial (by kernel_rfl) ?_
    replace s := s.drop (List.sublist_append_right [] F7)
    exact ⟨_, _, _, rfl, s, (by rw [encF_go h]; have e9 := h7; rw [show (n % 128 + 128) % 256 = n % 128 + 128 by omega] at e9; exact e9)⟩

theorem refnumF_r : ∀ (f : Nat) {I : IM} {n : Nat}, f ≤ 100 → n < 18446744073709551616 → n < 2 ^ (f * 7 + 1) → FunM Try.prog 60 #[.int .u64 ((n : Nat) : Int)] I [] (fun v J F => RowH 5 1 v (encF f n).length ((encF f n).map bV) F)
  | 0, I, n, _, _, h => refnum0 (by rw [Nat.zero_mul, Nat.zero_add, Nat.pow_one] at h; omega)
  | f + 1, I, n, hf, hn, h => by
    by_cases q : n < 128
    · exact refnum0 q
    · exact refnumS q hn (by omega) (refnumF_r f (by omega) (Nat.lt_of_le_of_lt (Nat.div_le_self _ _) hn) (div_pow h))
theorem refnum6_r {I : IM} {n : Nat} (hn : n < 18446744073709551616) : FunM Try.prog 60 #[.int .u64 ((n : Nat) : Int)] I [] (fun v J F => RowH 5 1 v (encF 9 n).length ((encF 9 n).map bV) F) := refnumF_r 9 (by decide) hn hn

set_option maxHeartbeats 2000000 in
theorem reftext_r {I : IM} {ss : List UInt8} (hss : ss.length ≤ 1000) : FunM Try.prog 61 #[.string ⟨(ss).toArray⟩] I [] (fun v J F => RowH 5 1 v (encF 9 ss.length ++ ss).length ((encF 9 ss.length ++ ss).map bV) F) := by
  refine enterM_rule 10 [(0, .string ⟨(ss).toArray⟩)] Try.func61 rfl (by kernel_rfl) ?_
  intro w s
  refine wp_seq ?_
  refine region_rule ?_
  refine ops_rule (C := []) [] [] 1 [] 0 (fun φ1 => [(2, .slice none 0 0)]) (fun φ1 => []) (fun φ1 => []) s trivial (fun φ1 => by kernel_rfl) ?_
  intro φ1 w1 s
  refine ops_done (by kernel_rfl) ?_
  refine wp_seq ?_
  refine region_rule ?_
  refine ops_rule (C := []) [] [] 3 [] 0 (fun φ2 => [(5, .int .u64 (IntKind.wrap .u64 (((ss).length : Nat) : Int))), (4, .int .i64 (((ss).length : Nat) : Int)), (3, .string ⟨(ss).toArray⟩)]) (fun φ2 => []) (fun φ2 => []) s trivial (fun φ2 => by kernel_rfl) ?_
  intro φ2 w2 s
  rw [nat_wrapU (a := ((ss).length)) (by   (try simp only [List.length_drop, List.length_take, List.length_append, List.length_cons, List.length_nil]); omega)]
  refine callF_rule (H := []) (F := []) (some 6) s (refnum6_r (n := (ss).length) (by omega)) (by kernel_rfl) ?_
  intro v3 I3 w3 F3 le3 h3 s
  refine ops_rule (C := []) [] F3 1 [] 0 (fun φ4 => [(7, .string ⟨(ss).toArray⟩)]) (fun φ4 => []) (fun φ4 => []) s trivial (fun φ4 => by kernel_rfl) ?_
  intro φ4 w4 s
  obtain ⟨a5, c5, I5, w5, hr5, le5, s, hb5⟩ := s2b s ss
  refine sem_rule (convert 9 34 (.string ⟨(ss).toArray⟩)) (some 8) (.slice a5 (List.length ss) c5) (by kernel_rfl) hr5 ?_
  refine append_rule (H := []) (F := F3) 34 34 5 Try.t5 (.int .u8 0) 1 1 (some 9) s Try.underlying34 (by kernel_rfl) (by kernel_rfl) (by kernel_rfl) (by kernel_rfl) (by kernel_rfl) (by decide) h3 (src_bsl s.sub hb5) (by have := (encF_len 9 (ss).length).2; (try simp only [maxLen, List.length_append]); omega) (by have := (encF_len 9 (ss).length).2; (try simp only [maxLen, List.length_append]); omega) (by kernel_rfl) ?_
  intro v6 w6 F6 s h6
  replace h6 : RowH 5 1 v6 (((encF 9 ((ss).length)) ++ ss).length) (((encF 9 ((ss).length)) ++ ss).map bV) F6 := row_app (x := (encF 9 ((ss).length))) (y := ss) h6
  refine ops_rule (C := []) [] F6 1 [] 0 (fun φ7 => [(2, v6)]) (fun φ7 => []) (fun φ7 => []) s trivial (fun φ7 => by kernel_rfl) ?_
  intro φ7 w7 s
  refine ops_done (by kernel_rfl) ?_
  refine wp_ret ?_
  refine ret_rule (C := []) [] F6 (v6) [] [] s trivial (by kernel_rfl) ?_
  replace s := s.drop (List.sublist_append_right [] F6)
  exact ⟨_, _, _, rfl, s, h6⟩

set_option maxHeartbeats 2000000 in
theorem number_c {I : IM} {l rest : List UInt8} {a : Option Addr} {m c n : Nat} (hl : BSl I l (.slice a m c)) (hn9 : l.length ≤ 1000000) (h : l = encF 9 n ++ rest) (hn : n < 18446744073709551616) : Fun Try.prog 75 #[.slice a m c] I (fun v J => v = .tuple #[.int .u64 ((n : Nat) : Int), .int .i64 (((encF 9 n).length : Nat) : Int)]) := by
  obtain ⟨rfl, -⟩ := hl.cap
  refine enter_rule 49 [(0, .slice a l.length c)] Try.func75 rfl (by kernel_rfl) ?_
  intro w s
  refine wp_seq ?_
  refine region_rule ?_
  refine ops_rule (C := []) [] [] 2 [] 0 (fun φ1 => [(3, .int .i64 0), (2, .int .u64 0)]) (fun φ1 => []) (fun φ1 => []) s trivial (fun φ1 => by kernel_rfl) ?_
  intro φ1 w1 s
  refine ops_done (by kernel_rfl) ?_
  refine wp_seq ?_
  refine region_rule ?_
  refine ops_rule (C := []) [] [] 1 [] 0 (fun φ2 => [(4, .int .u64 0)]) (fun φ2 => []) (fun φ2 => []) s trivial (fun φ2 => by kernel_rfl) ?_
  intro φ2 w2 s
  refine ops_done (by kernel_rfl) ?_
  refine wp_seq ?_
  refine wp_seq ?_
  refine region_rule ?_
  refine ops_rule (C := []) [] [] 4 [] 0 (fun φ3 => [(12, .int .i64 0), (11, .int .i64 (if ((10 : Nat) : Int) < ((l.length : Nat) : Int) then ((10 : Nat) : Int) else ((l.length : Nat) : Int))), (10, .int .i64 ((l.length : Nat) : Int)), (9, .slice a l.length c)]) (fun φ3 => []) (fun φ3 => []) s trivial (fun φ3 => by kernel_rfl) ?_
  intro φ3 w3 s
  rw [nat_min (a := l.length) (b := 10)]
  refine ops_done (by kernel_rfl) ?_
  refine wp_block ?_
  have hle4 := IM.Le.refl I
  refine loop_rule (fun (x : Nat × Nat) => [(0, .slice a l.length c), (11, .int .i64 ((min l.length 10 : Nat) : Int)), (4, .int .u64 ((x.2 : Nat) : Int)), (12, .int .i64 ((x.1 : Nat) : Int))]) (fun (x : Nat × Nat) => []) (fun m (x : Nat × Nat) J => IM.Le I J ∧ x.1 + m = 10 ∧ Dec l rest n x.1 x.2) (10) (0, 0) s (by kernel_rfl) List.Sublist.slnil ⟨IM.Le.refl _, rfl, Dec.start h hn⟩ ?_
  rintro m5 ⟨i5, acc5⟩ I5 w5 ev5 s ⟨le5, hi5_0, hi5_1⟩
  try dsimp only at s hi5_0 hi5_1 ⊢
  replace hl := BSl.mono le5 hl
  replace hle4 := leMono le5 hle4
  refine wp_seq ?_
  refine region_rule ?_
  refine ops_rule (C := []) [] [] 1 [] 0 (fun φ6 => [(13, .bool (decide (((i5 : Nat) : Int) < ((min l.length 10 : Nat) : Int))))]) (fun φ6 => []) (fun φ6 => []) s trivial (fun φ6 => by kernel_rfl) ?_
  intro φ6 w6 s
  rw [nat_lss (a := i5) (b := (min l.length 10))]
  refine ops_done (by kernel_rfl) ?_
  refine wp_seq ?_
  rcases Bool.eq_false_or_eq_true (decide (i5 < (min l.length 10))) with hc7 | hc7
  ·
    rw [hc7]
    refine cond_true_rule (b := true) (by kernel_rfl) rfl ?_
    refine wp_skip ?_
    refine wp_seq ?_
    refine wp_block ?_
    refine wp_seq ?_
    refine region_rule ?_
    refine ops_rule (C := []) [] [] 2 [] 0 (fun φ8 => [(5, .int .i64 ((i5 : Nat) : Int)), (14, .int .i64 ((i5 : Nat) : Int))]) (fun φ8 => []) (fun φ8 => []) s trivial (fun φ8 => by kernel_rfl) ?_
    intro φ8 w8 s
    refine ops_done (by kernel_rfl) ?_
    refine wp_seq ?_
    refine region_rule ?_
    refine ops_rule (C := []) [] [] 2 [] 0 (fun φ9 => [(16, .int .i64 ((i5 : Nat) : Int)), (15, .slice a l.length c)]) (fun φ9 => []) (fun φ9 => []) s trivial (fun φ9 => by kernel_rfl) ?_
    intro φ9 w9 s
    refine sem_rule (Instr.indexAt 34 (.slice a l.length c) (.int .i64 ((i5 : Nat) : Int))) (some 17) (.pointer (pAt a i5)) (by kernel_rfl) (bsl_idx hl (by have hd0 := hi5_1.within; have hd1 := hi5_1.le; have hq0 := of_decide_eq_true hc7; omega)) ?_
    refine sem_rule (Instr.loadAt 5 (.pointer (pAt a i5))) (some 18) (.int .u8 (((l.getD i5 0).toNat : Nat) : Int)) (by kernel_rfl) (bsl_ld s.sub hl (by have hd0 := hi5_1.within; have hd1 := hi5_1.le; have hq0 := of_decide_eq_true hc7; omega)) ?_
    refine ops_rule (C := []) [] [] 1 [] 0 (fun φ10 => [(6, .int .u8 (((l.getD i5 0).toNat : Nat) : Int))]) (fun φ10 => []) (fun φ10 => []) s trivial (fun φ10 => by kernel_rfl) ?_
    intro φ10 w10 s
    refine ops_done (by kernel_rfl) ?_
    refine wp_seq ?_
    refine region_rule ?_
    refine ops_rule (C := []) [] [] 2 [] 0 (fun φ11 => [(20, .int .u8 (((l.getD i5 0).toNat : Nat) : Int)), (19, .int .u64 ((acc5 : Nat) : Int))]) (fun φ11 => []) (fun φ11 => []) s trivial (fun φ11 => by kernel_rfl) ?_
    intro φ11 w11 s
    refine sem_rule (binOp .andNot 5 (.int .u8 (((l.getD i5 0).toNat : Nat) : Int)) (.int .u8 ((128 : Nat) : Int))) (some 21) (.int .u8 ((bandn 8 ((l.getD i5 0).toNat) 128 : Nat) : Int)) (by kernel_rfl) (run_bit8.2.2.2) ?_
    refine ops_rule (C := []) [] [] 3 [] 0 (fun φ12 => [(24, .int .i64 (IntKind.wrap .i64 (((i5 : Nat) : Int) * ((7 : Nat) : Int)))), (23, .int .i64 ((i5 : Nat) : Int)), (22, .int .u64 (IntKind.wrap .u64 ((bandn 8 ((l.getD i5 0).toNat) 128 : Nat) : Int)))]) (fun φ12 => []) (fun φ12 => []) s trivial (fun φ12 => by kernel_rfl) ?_
    intro φ12 w12 s
    rw [nat_mulI (a := i5) (b := 7) (by have hd0 := hi5_1.within; have hd1 := hi5_1.le; have hq0 := of_decide_eq_true hc7; omega)]
    rw [nat_wrapU (a := (bandn 8 ((l.getD i5 0).toNat) 128)) (by have := bandn8_lt (a := (l.getD i5 0).toNat) (b := 128); omega)]
    refine sem_rule (binOp .shl 27 (.int .u64 ((bandn 8 ((l.getD i5 0).toNat) 128 : Nat) : Int)) (.int .i64 ((i5 * 7 : Nat) : Int))) (some 25) (.int .u64 ((bshl 64 (bandn 8 ((l.getD i5 0).toNat) 128) (i5 * 7) : Nat) : Int)) (by kernel_rfl) (run_shlU (.inr (.inr (.inl rfl)))) ?_
    refine sem_rule (binOp .or 27 (.int .u64 ((acc5 : Nat) : Int)) (.int .u64 ((bshl 64 (bandn 8 ((l.getD i5 0).toNat) 128) (i5 * 7) : Nat) : Int))) (some 26) (.int .u64 ((bor 64 acc5 (bshl 64 (bandn 8 ((l.getD i5 0).toNat) 128) (i5 * 7)) : Nat) : Int)) (by kernel_rfl) (run_bit64.2.2.1) ?_
    refine ops_rule (C := []) [] [] 1 [] 0 (fun φ13 => [(4, .int .u64 ((bor 64 acc5 (bshl 64 (bandn 8 ((l.getD i5 0).toNat) 128) (i5 * 7)) : Nat) : Int))]) (fun φ13 => []) (fun φ13 => []) s trivial (fun φ13 => by kernel_rfl) ?_
    intro φ13 w13 s
    refine ops_done (by kernel_rfl) ?_
    refine wp_seq ?_
    refine wp_seq ?_
    refine region_rule ?_
    refine ops_rule (C := []) [] [] 2 [] 0 (fun φ14 => [(28, .bool (decide ((((l.getD i5 0).toNat : Nat) : Int) ≥ ((128 : Nat) : Int)))), (27, .int .u8 (((l.getD i5 0).toNat : Nat) : Int))]) (fun φ14 => []) (fun φ14 => []) s trivial (fun φ14 => by kernel_rfl) ?_
    intro φ14 w14 s
    rw [nat_geq (a := ((l.getD i5 0).toNat)) (b := 128)]
    refine ops_done (by kernel_rfl) ?_
    rcases Bool.eq_false_or_eq_true (decide (128 ≤ ((l.getD i5 0).toNat))) with hc15 | hc15
    ·
      rw [hc15]
      refine cond_true_rule (b := true) (by kernel_rfl) rfl ?_
      refine wp_exit ?_
      refine region_rule ?_
      refine ops_rule (C := []) [] [] 2 [] 0 (fun φ16 => [(12, .int .i64 (IntKind.wrap .i64 (((i5 : Nat) : Int) + ((1 : Nat) : Int)))), (48, .int .i64 (IntKind.wrap .i64 (((i5 : Nat) : Int) + ((1 : Nat) : Int))))]) (fun φ16 => []) (fun φ16 => []) s trivial (fun φ16 => by kernel_rfl) ?_
      intro φ16 w16 s
      rw [nat_addI (a := i5) (b := 1) (by have hd0 := hi5_1.within; have hd1 := hi5_1.le; have hq0 := of_decide_eq_true hc7; have hq1 := of_decide_eq_true hc15; omega)]
      refine ops_done (by kernel_rfl) ?_
      have hs9 := Dec.step hn hi5_1 (of_decide_eq_true hc15)
      exact ⟨⟨m5 - 1, (i5 + 1, bor 64 acc5 (bshl 64 (bandn 8 ((l.getD i5 0).toNat) 128) (i5 * 7))), _, _, _, by have := hi5_0; have := hi5_1.le; omega, rfl, s, List.Sublist.slnil, by kernel_rfl, hle4, by have := hi5_0; have := hi5_1.le; show i5 + 1 + (m5 - 1) = 10; omega, hs9⟩⟩
    ·
      rw [hc15]
      refine cond_false_rule (b := false) (by kernel_rfl) rfl ?_
      refine wp_skip ?_
      refine wp_seq ?_
      refine region_rule ?_
      refine ops_rule (C := []) [] [] 3 [] 0 (fun φ17 => [(31, .bool (decide (((i5 : Nat) : Int) > ((0 : Nat) : Int)))), (30, .bool (decide (((i5 : Nat) : Int) > ((0 : Nat) : Int)))), (29, .int .i64 ((i5 : Nat) : Int))]) (fun φ17 => []) (fun φ17 => []) s trivial (fun φ17 => by kernel_rfl) ?_
      intro φ17 w17 s
      rw [nat_gtr (a := i5) (b := 0)]
      rcases Bool.eq_false_or_eq_true (decide (0 < i5)) with hc18 | hc18
      ·
        rw [hc18]
        refine ops_rule (C := []) [] [] 4 [] 0 (fun φ19 => [(7, .bool ((((l.getD i5 0).toNat : Nat) : Int) == ((0 : Nat) : Int))), (34, .bool ((((l.getD i5 0).toNat : Nat) : Int) == ((0 : Nat) : Int))), (33, .bool ((((l.getD i5 0).toNat : Nat) : Int) == ((0 : Nat) : Int))), (32, .int .u8 (((l.getD i5 0).toNat : Nat) : Int))]) (fun φ19 => []) (fun φ19 => []) s trivial (fun φ19 => by kernel_rfl) ?_
        intro φ19 w19 s
        rw [nat_eql (a := ((l.getD i5 0).toNat)) (b := 0)]
        refine ops_done (by kernel_rfl) ?_
        refine wp_seq ?_
        refine region_rule ?_
        refine ops_rule (C := []) [] [] 3 [] 0 (fun φ20 => [(37, .bool (((i5 : Nat) : Int) == ((9 : Nat) : Int))), (36, .bool (((i5 : Nat) : Int) == ((9 : Nat) : Int))), (35, .int .i64 ((i5 : Nat) : Int))]) (fun φ20 => []) (fun φ20 => []) s trivial (fun φ20 => by kernel_rfl) ?_
        intro φ20 w20 s
        rw [nat_eql (a := i5) (b := 9)]
        rcases Bool.eq_false_or_eq_true (decide (i5 = 9)) with hc21 | hc21
        ·
          rw [hc21]
          refine ops_rule (C := []) [] [] 4 [] 0 (fun φ22 => [(8, .bool (decide ((((l.getD i5 0).toNat : Nat) : Int) > ((1 : Nat) : Int)))), (40, .bool (decide ((((l.getD i5 0).toNat : Nat) : Int) > ((1 : Nat) : Int)))), (39, .bool (decide ((((l.getD i5 0).toNat : Nat) : Int) > ((1 : Nat) : Int)))), (38, .int .u8 (((l.getD i5 0).toNat : Nat) : Int))]) (fun φ22 => []) (fun φ22 => []) s trivial (fun φ22 => by kernel_rfl) ?_
          intro φ22 w22 s
          rw [nat_gtr (a := ((l.getD i5 0).toNat)) (b := 1)]
          refine ops_done (by kernel_rfl) ?_
          refine wp_seq ?_
          refine wp_seq ?_
          refine region_rule ?_
          refine ops_rule (C := []) [] [] 2 [] 0 (fun φ23 => [(42, .bool (decide (((l.getD i5 0).toNat) = 0))), (41, .bool (decide (((l.getD i5 0).toNat) = 0)))]) (fun φ23 => []) (fun φ23 => []) s trivial (fun φ23 => by kernel_rfl) ?_
          intro φ23 w23 s
          rcases Bool.eq_false_or_eq_true (decide (((l.getD i5 0).toNat) = 0)) with hc24 | hc24
          ·
            exact absurd (And.intro (of_decide_eq_true hc18) (of_decide_eq_true hc24)) (Dec.stop hn hi5_1 (of_decide_eq_false hc15)).2.2.1
          ·
            rw [hc24]
            refine ops_rule (C := []) [] [] 2 [] 0 (fun φ25 => [(44, .bool (decide (1 < ((l.getD i5 0).toNat)))), (43, .bool (decide (1 < ((l.getD i5 0).toNat))))]) (fun φ25 => []) (fun φ25 => []) s trivial (fun φ25 => by kernel_rfl) ?_
            intro φ25 w25 s
            refine ops_done (by kernel_rfl) ?_
            rcases Bool.eq_false_or_eq_true (decide (1 < ((l.getD i5 0).toNat))) with hc26 | hc26
            ·
              exact absurd (And.intro (of_decide_eq_true hc21) (of_decide_eq_true hc26)) (Dec.stop hn hi5_1 (of_decide_eq_false hc15)).2.2.2
            ·
              rw [hc26]
              refine cond_false_rule (b := false) (by kernel_rfl) rfl ?_
              refine wp_skip ?_
              refine wp_seq ?_
              refine region_rule ?_
              refine ops_rule (C := []) [] [] 5 [] 0 (fun φ27 => [(3, .int .i64 (IntKind.wrap .i64 (((i5 : Nat) : Int) + ((1 : Nat) : Int)))), (2, .int .u64 ((bor 64 acc5 (bshl 64 (bandn 8 ((l.getD i5 0).toNat) 128) (i5 * 7)) : Nat) : Int)), (47, .int .i64 (IntKind.wrap .i64 (((i5 : Nat) : Int) + ((1 : Nat) : Int)))), (46, .int .i64 ((i5 : Nat) : Int)), (45, .int .u64 ((bor 64 acc5 (bshl 64 (bandn 8 ((l.getD i5 0).toNat) 128) (i5 * 7)) : Nat) : Int))]) (fun φ27 => []) (fun φ27 => []) s trivial (fun φ27 => by kernel_rfl) ?_
              intro φ27 w27 s
              rw [nat_addI (a := i5) (b := 1) (by have hd0 := hi5_1.within; have hd1 := hi5_1.le; have hq0 := of_decide_eq_true hc7; have hq1 := of_decide_eq_false hc15; have hq2 := of_decide_eq_true hc18; have hq3 := of_decide_eq_true hc21; have hq4 := of_decide_eq_false hc24; have hq5 := of_decide_eq_false hc26; omega)]
              refine ops_done (by kernel_rfl) ?_
              refine wp_ret ?_
              refine ret_rule (C := []) [] [] (.tuple #[.int .u64 ((bor 64 acc5 (bshl 64 (bandn 8 ((l.getD i5 0).toNat) 128) (i5 * 7)) : Nat) : Int), .int .i64 ((i5 + 1 : Nat) : Int)]) [] [] s trivial (by kernel_rfl) ?_
              exact ⟨_, _, _, rfl, s, (by have h9 := Dec.stop hn hi5_1 (of_decide_eq_false hc15); rw [h9.1, h9.2.1])⟩
        ·
          rw [hc21]
          refine ops_rule (C := []) [] [] 4 [] 0 (fun φ28 => [(8, .bool false), (40, .bool false), (39, undef), (38, undef)]) (fun φ28 => []) (fun φ28 => []) s trivial (fun φ28 => by kernel_rfl) ?_
          intro φ28 w28 s
          refine ops_done (by kernel_rfl) ?_
          refine wp_seq ?_
          refine wp_seq ?_
          refine region_rule ?_
          refine ops_rule (C := []) [] [] 2 [] 0 (fun φ29 => [(42, .bool (decide (((l.getD i5 0).toNat) = 0))), (41, .bool (decide (((l.getD i5 0).toNat) = 0)))]) (fun φ29 => []) (fun φ29 => []) s trivial (fun φ29 => by kernel_rfl) ?_
          intro φ29 w29 s
          rcases Bool.eq_false_or_eq_true (decide (((l.getD i5 0).toNat) = 0)) with hc30 | hc30
          ·
            exact absurd (And.intro (of_decide_eq_true hc18) (of_decide_eq_true hc30)) (Dec.stop hn hi5_1 (of_decide_eq_false hc15)).2.2.1
          ·
            rw [hc30]
            refine ops_rule (C := []) [] [] 2 [] 0 (fun φ31 => [(44, .bool false), (43, .bool false)]) (fun φ31 => []) (fun φ31 => []) s trivial (fun φ31 => by kernel_rfl) ?_
            intro φ31 w31 s
            refine ops_done (by kernel_rfl) ?_
            refine cond_false_rule (b := false) (by kernel_rfl) rfl ?_
            refine wp_skip ?_
            refine wp_seq ?_
            refine region_rule ?_
            refine ops_rule (C := []) [] [] 5 [] 0 (fun φ32 => [(3, .int .i64 (IntKind.wrap .i64 (((i5 : Nat) : Int) + ((1 : Nat) : Int)))), (2, .int .u64 ((bor 64 acc5 (bshl 64 (bandn 8 ((l.getD i5 0).toNat) 128) (i5 * 7)) : Nat) : Int)), (47, .int .i64 (IntKind.wrap .i64 (((i5 : Nat) : Int) + ((1 : Nat) : Int)))), (46, .int .i64 ((i5 : Nat) : Int)), (45, .int .u64 ((bor 64 acc5 (bshl 64 (bandn 8 ((l.getD i5 0).toNat) 128) (i5 * 7)) : Nat) : Int))]) (fun φ32 => []) (fun φ32 => []) s trivial (fun φ32 => by kernel_rfl) ?_
            intro φ32 w32 s
            rw [nat_addI (a := i5) (b := 1) (by have hd0 := hi5_1.within; have hd1 := hi5_1.le; have hq0 := of_decide_eq_true hc7; have hq1 := of_decide_eq_false hc15; have hq2 := of_decide_eq_true hc18; have hq3 := of_decide_eq_false hc21; have hq4 := of_decide_eq_false hc30; omega)]
            refine ops_done (by kernel_rfl) ?_
            refine wp_ret ?_
            refine ret_rule (C := []) [] [] (.tuple #[.int .u64 ((bor 64 acc5 (bshl 64 (bandn 8 ((l.getD i5 0).toNat) 128) (i5 * 7)) : Nat) : Int), .int .i64 ((i5 + 1 : Nat) : Int)]) [] [] s trivial (by kernel_rfl) ?_
            exact ⟨_, _, _, rfl, s, (by have h9 := Dec.stop hn hi5_1 (of_decide_eq_false hc15); rw [h9.1, h9.2.1])⟩
      ·
        rw [hc18]
        refine ops_rule (C := []) [] [] 4 [] 0 (fun φ33 => [(7, .bool false), (34, .bool false), (33, undef), (32, undef)]) (fun φ33 => []) (fun φ33 => []) s trivial (fun φ33 => by kernel_rfl) ?_
        intro φ33 w33 s
        refine ops_done (by kernel_rfl) ?_
        refine wp_seq ?_
        refine region_rule ?_
        refine ops_rule (C := []) [] [] 3 [] 0 (fun φ34 => [(37, .bool (((i5 : Nat) : Int) == ((9 : Nat) : Int))), (36, .bool (((i5 : Nat) : Int) == ((9 : Nat) : Int))), (35, .int .i64 ((i5 : Nat) : Int))]) (fun φ34 => []) (fun φ34 => []) s trivial (fun φ34 => by kernel_rfl) ?_
        intro φ34 w34 s
        rw [nat_eql (a := i5) (b := 9)]
        rcases Bool.eq_false_or_eq_true (decide (i5 = 9)) with hc35 | hc35
        ·
          rw [hc35]
          refine ops_rule (C := []) [] [] 4 [] 0 (fun φ36 => [(8, .bool (decide ((((l.getD i5 0).toNat : Nat) : Int) > ((1 : Nat) : Int)))), (40, .bool (decide ((((l.getD i5 0).toNat : Nat) : Int) > ((1 : Nat) : Int)))), (39, .bool (decide ((((l.getD i5 0).toNat : Nat) : Int) > ((1 : Nat) : Int)))), (38, .int .u8 (((l.getD i5 0).toNat : Nat) : Int))]) (fun φ36 => []) (fun φ36 => []) s trivial (fun φ36 => by kernel_rfl) ?_
          intro φ36 w36 s
          rw [nat_gtr (a := ((l.getD i5 0).toNat)) (b := 1)]
          refine ops_done (by kernel_rfl) ?_
          refine wp_seq ?_
          refine wp_seq ?_
          refine region_rule ?_
          refine ops_rule (C := []) [] [] 4 [] 0 (fun φ37 => [(44, .bool (decide (1 < ((l.getD i5 0).toNat)))), (43, .bool (decide (1 < ((l.getD i5 0).toNat)))), (42, .bool false), (41, .bool false)]) (fun φ37 => []) (fun φ37 => []) s trivial (fun φ37 => by kernel_rfl) ?_
          intro φ37 w37 s
          refine ops_done (by kernel_rfl) ?_
          rcases Bool.eq_false_or_eq_true (decide (1 < ((l.getD i5 0).toNat))) with hc38 | hc38
          ·
            exact absurd (And.intro (of_decide_eq_true hc35) (of_decide_eq_true hc38)) (Dec.stop hn hi5_1 (of_decide_eq_false hc15)).2.2.2
          ·
            rw [hc38]
            refine cond_false_rule (b := false) (by kernel_rfl) rfl ?_
            refine wp_skip ?_
            refine wp_seq ?_
            refine region_rule ?_
            refine ops_rule (C := []) [] [] 5 [] 0 (fun φ39 => [(3, .int .i64 (IntKind.wrap .i64 (((i5 : Nat) : Int) + ((1 : Nat) : Int)))), (2, .int .u64 ((bor 64 acc5 (bshl 64 (bandn 8 ((l.getD i5 0).toNat) 128) (i5 * 7)) : Nat) : Int)), (47, .int .i64 (IntKind.wrap .i64 (((i5 : Nat) : Int) + ((1 : Nat) : Int)))), (46, .int .i64 ((i5 : Nat) : Int)), (45, .int .u64 ((bor 64 acc5 (bshl 64 (bandn 8 ((l.getD i5 0).toNat) 128) (i5 * 7)) : Nat) : Int))]) (fun φ39 => []) (fun φ39 => []) s trivial (fun φ39 => by kernel_rfl) ?_
            intro φ39 w39 s
            rw [nat_addI (a := i5) (b := 1) (by have hd0 := hi5_1.within; have hd1 := hi5_1.le; have hq0 := of_decide_eq_true hc7; have hq1 := of_decide_eq_false hc15; have hq2 := of_decide_eq_false hc18; have hq3 := of_decide_eq_true hc35; have hq4 := of_decide_eq_false hc38; omega)]
            refine ops_done (by kernel_rfl) ?_
            refine wp_ret ?_
            refine ret_rule (C := []) [] [] (.tuple #[.int .u64 ((bor 64 acc5 (bshl 64 (bandn 8 ((l.getD i5 0).toNat) 128) (i5 * 7)) : Nat) : Int), .int .i64 ((i5 + 1 : Nat) : Int)]) [] [] s trivial (by kernel_rfl) ?_
            exact ⟨_, _, _, rfl, s, (by have h9 := Dec.stop hn hi5_1 (of_decide_eq_false hc15); rw [h9.1, h9.2.1])⟩
        ·
          rw [hc35]
          refine ops_rule (C := []) [] [] 4 [] 0 (fun φ40 => [(8, .bool false), (40, .bool false), (39, undef), (38, undef)]) (fun φ40 => []) (fun φ40 => []) s trivial (fun φ40 => by kernel_rfl) ?_
          intro φ40 w40 s
          refine ops_done (by kernel_rfl) ?_
          refine wp_seq ?_
          refine wp_seq ?_
          refine region_rule ?_
          refine ops_rule (C := []) [] [] 4 [] 0 (fun φ41 => [(44, .bool false), (43, .bool false), (42, .bool false), (41, .bool false)]) (fun φ41 => []) (fun φ41 => []) s trivial (fun φ41 => by kernel_rfl) ?_
          intro φ41 w41 s
          refine ops_done (by kernel_rfl) ?_
          refine cond_false_rule (b := false) (by kernel_rfl) rfl ?_
          refine wp_skip ?_
          refine wp_seq ?_
          refine region_rule ?_
          refine ops_rule (C := []) [] [] 5 [] 0 (fun φ42 => [(3, .int .i64 (IntKind.wrap .i64 (((i5 : Nat) : Int) + ((1 : Nat) : Int)))), (2, .int .u64 ((bor 64 acc5 (bshl 64 (bandn 8 ((l.getD i5 0).toNat) 128) (i5 * 7)) : Nat) : Int)), (47, .int .i64 (IntKind.wrap .i64 (((i5 : Nat) : Int) + ((1 : Nat) : Int)))), (46, .int .i64 ((i5 : Nat) : Int)), (45, .int .u64 ((bor 64 acc5 (bshl 64 (bandn 8 ((l.getD i5 0).toNat) 128) (i5 * 7)) : Nat) : Int))]) (fun φ42 => []) (fun φ42 => []) s trivial (fun φ42 => by kernel_rfl) ?_
          intro φ42 w42 s
          rw [nat_addI (a := i5) (b := 1) (by have hd0 := hi5_1.within; have hd1 := hi5_1.le; have hq0 := of_decide_eq_true hc7; have hq1 := of_decide_eq_false hc15; have hq2 := of_decide_eq_false hc18; have hq3 := of_decide_eq_false hc35; omega)]
          refine ops_done (by kernel_rfl) ?_
          refine wp_ret ?_
          refine ret_rule (C := []) [] [] (.tuple #[.int .u64 ((bor 64 acc5 (bshl 64 (bandn 8 ((l.getD i5 0).toNat) 128) (i5 * 7)) : Nat) : Int), .int .i64 ((i5 + 1 : Nat) : Int)]) [] [] s trivial (by kernel_rfl) ?_
          exact ⟨_, _, _, rfl, s, (by have h9 := Dec.stop hn hi5_1 (of_decide_eq_false hc15); rw [h9.1, h9.2.1])⟩
  ·
    exact absurd (of_decide_eq_false hc7) (fun q => q (by have := hi5_1.within; have := hi5_1.le; omega))

end Go.Proofs.Ytpnlaeapnokipaa
