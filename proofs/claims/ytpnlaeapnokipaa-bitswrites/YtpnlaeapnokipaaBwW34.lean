/- Bits are written, as many as one likes. -/
import Derived.Test.YtpnlaeapnokipaaBwW31
import Derived.Test.YtpnlaeapnokipaaBwC13
import Derived.Test.YtpnlaeapnokipaaBwB5
import Derived.Test.YtpnlaeapnokipaaBwW28
import Derived.Test.YtpnlaeapnokipaaBwC12
import Derived.Test.YtpnlaeapnokipaaBwB10
import Derived.Test.YtpnlaeapnokipaaBwS12
import Derived.Test.YtpnlaeapnokipaaBwW13
import Derived.Scope
import Derived.Test.YtpnlaeapnokipaaBwC15
set_option linter.all false
set_option maxRecDepth 100000
namespace Go.Proofs.Ytpnlaeapnokipaa
open Go.RowKit Go.Sep
attribute [local irreducible] Go.wpList Go.Code.wp

theorem heldK_c {I : IM} {z : Int} {k : Nat} (hz : clampN z = k) : Fun Try.prog 62 #[.int .i64 z] I (fun v J => v = .int .i64 ((k : Nat) : Int)) := by subst hz; exact heldA_c
theorem withinK_c {I : IM} {z : Int} {k : Nat} (hz : clampN z = k) : Fun Try.prog 64 #[.int .i64 z] I (fun v J => v = .int .i64 ((k : Nat) : Int)) := by subst hz; exact withinA_c

set_option maxHeartbeats 2000000 in
theorem putZ_c {I : IM} {b cnt : Nat} {bs : List Bool} {v0 : Value} {F : List OB} (hc : cnt = bs.length) (hl9 : bs.length ≤ 900000) (h : RowH 5 1 v0 (pk bs).length ((pk bs).map bV) F) {n k : Nat} {z : Int} (hz : clampN z = k) (hn : n < 18446744073709551616) (hk : k ≤ 64) : FunM Try.prog 16 #[.pointer (some ⟨b, 0, none⟩), .int .u64 ((n : Nat) : Int), .int .i64 z] I ((b, .cells #[v0, .int .i64 ((cnt : Nat) : Int)] 96) :: F) (fun v J H' => ∃ (b' : OB) (F' : List OB), H' = b' :: F' ∧ b'.1 = b ∧ ∃ v', v = .tuple #[] ∧ b' = (b, .cells #[v', .int .i64 ((cnt + k : Nat) : Int)] 96) ∧ RowH 5 1 v' (pk (bs ++ putBits n k)).length ((pk (bs ++ putBits n k)).map bV) F') := by
  refine enterM_rule 25 [(0, .pointer (some ⟨b, 0, none⟩)), (1, .int .u64 ((n : Nat) : Int)), (2, .int .i64 z)] Try.func16 rfl (by kernel_rfl) ?_
  intro w s
  refine wp_seq ?_
  refine wp_seq ?_
  refine region_rule ?_
  refine ops_rule (C := []) [(b, .cells #[v0, .int .i64 ((cnt : Nat) : Int)] 96)] F 2 [] 0 (fun φ1 => [(8, .bool false), (7, .pointer (some ⟨b, 0, none⟩))]) (fun φ1 => [(b, .cells #[v0, .int .i64 ((cnt : Nat) : Int)] 96)]) (fun φ1 => []) s trivial (fun φ1 => by kernel_rfl) ?_
  intro φ1 w1 s
  refine ops_done (by kernel_rfl) ?_
  refine cond_false_rule (b := false) (by kernel_rfl) rfl ?_
  refine wp_skip ?_
  refine wp_seq ?_
  refine region_rule ?_
  refine ops_rule (C := []) [(b, .cells #[v0, .int .i64 ((cnt : Nat) : Int)] 96)] F 1 [] 0 (fun φ2 => [(9, .int .i64 z)]) (fun φ2 => [(b, .cells #[v0, .int .i64 ((cnt : Nat) : Int)] 96)]) (fun φ2 => []) s trivial (fun φ2 => by kernel_rfl) ?_
  intro φ2 w2 s
  refine call_rule (some 10) s (heldK_c hz) (by kernel_rfl) ?_
  intro v3 I3 w3 le3 h3 s
  obtain rfl := h3
  refine ops_rule (C := []) [(b, .cells #[v0, .int .i64 ((cnt : Nat) : Int)] 96)] F 1 [] 0 (fun φ4 => [(2, .int .i64 ((k : Nat) : Int))]) (fun φ4 => [(b, .cells #[v0, .int .i64 ((cnt : Nat) : Int)] 96)]) (fun φ4 => []) s trivial (fun φ4 => by kernel_rfl) ?_
  intro φ4 w4 s
  refine ops_done (by kernel_rfl) ?_
  refine wp_seq ?_
  refine region_rule ?_
  refine ops_rule (C := []) [(b, .cells #[v0, .int .i64 ((cnt : Nat) : Int)] 96)] F 2 [] 0 (fun φ5 => [(12, .int .i64 0), (11, .int .i64 ((k : Nat) : Int))]) (fun φ5 => [(b, .cells #[v0, .int .i64 ((cnt : Nat) : Int)] 96)]) (fun φ5 => []) s trivial (fun φ5 => by kernel_rfl) ?_
  intro φ5 w5 s
  refine ops_done (by kernel_rfl) ?_
  refine wp_block ?_
  have hrw0 : RowH 5 1 v0 (pk (wr bs n k 0)).length ((pk (wr bs n k 0)).map bV) F := row_cast h (congrArg pk wr_zero.symm)
  have hle6 := IM.Le.refl I3
  refine loop_rule (fun (x : Nat × Value × List OB) => [(0, .pointer (some ⟨b, 0, none⟩)), (1, .int .u64 ((n : Nat) : Int)), (2, .int .i64 ((k : Nat) : Int)), (11, .int .i64 ((k : Nat) : Int)), (12, .int .i64 ((x.1 : Nat) : Int))]) (fun (x : Nat × Value × List OB) => [(b, .cells #[x.2.1, .int .i64 ((cnt + x.1 : Nat) : Int)] 96)] ++ x.2.2) (fun m (x : Nat × Value × List OB) J => IM.Le I3 J ∧ x.1 + m = k ∧ RowH 5 1 x.2.1 (pk (wr bs n k x.1)).length ((pk (wr bs n k x.1)).map bV) x.2.2) (k) (0, v0, F) s (by kernel_rfl) (List.Sublist.refl _) ⟨IM.Le.refl _, Nat.zero_add _, hrw0⟩ ?_
  rintro m7 ⟨i7, v7, F7⟩ I7 w7 ev7 s ⟨le7, hi7_0, hi7_1⟩
  try dsimp only at s hi7_0 hi7_1 ⊢
  replace hle6 := leMono le7 hle6
  refine wp_seq ?_
  refine region_rule ?_
  refine ops_rule (C := []) [(b, .cells #[v7, .int .i64 ((cnt + i7 : Nat) : Int)] 96)] F7 1 [] 0 (fun φ8 => [(13, .bool (decide (((i7 : Nat) : Int) < ((k : Nat) : Int))))]) (fun φ8 => [(b, .cells #[v7, .int .i64 ((cnt + i7 : Nat) : Int)] 96)]) (fun φ8 => []) s trivial (fun φ8 => by kernel_rfl) ?_
  intro φ8 w8 s
  rw [nat_lss (a := i7) (b := k)]
  refine ops_done (by kernel_rfl) ?_
  refine wp_seq ?_
  rcases Bool.eq_false_or_eq_true (decide (i7 < k)) with hc9 | hc9
  ·
    rw [hc9]
    refine cond_true_rule (b := true) (by kernel_rfl) rfl ?_
    refine wp_skip ?_
    refine wp_seq ?_
    refine wp_block ?_
    refine wp_seq ?_
    refine region_rule ?_
    refine ops_rule (C := []) [(b, .cells #[v7, .int .i64 ((cnt + i7 : Nat) : Int)] 96)] F7 2 [] 0 (fun φ10 => [(6, .int .i64 ((i7 : Nat) : Int)), (14, .int .i64 ((i7 : Nat) : Int))]) (fun φ10 => [(b, .cells #[v7, .int .i64 ((cnt + i7 : Nat) : Int)] 96)]) (fun φ10 => []) s trivial (fun φ10 => by kernel_rfl) ?_
    intro φ10 w10 s
    refine ops_done (by kernel_rfl) ?_
    refine region_rule ?_
    refine ops_rule (C := []) [(b, .cells #[v7, .int .i64 ((cnt + i7 : Nat) : Int)] 96)] F7 6 [] 0 (fun φ11 => [(20, .int .i64 (IntKind.wrap .i64 ((IntKind.wrap .i64 (((k : Nat) : Int) - ((1 : Nat) : Int))) - ((i7 : Nat) : Int)))), (19, .int .i64 ((i7 : Nat) : Int)), (18, .int .i64 (IntKind.wrap .i64 (((k : Nat) : Int) - ((1 : Nat) : Int)))), (17, .int .i64 ((k : Nat) : Int)), (16, .int .u64 ((n : Nat) : Int)), (15, .pointer (some ⟨b, 0, none⟩))]) (fun φ11 => [(b, .cells #[v7, .int .i64 ((cnt + i7 : Nat) : Int)] 96)]) (fun φ11 => []) s trivial (fun φ11 => by kernel_rfl) ?_
    intro φ11 w11 s
    rw [nat_subI (a := k) (b := 1) (by have hi0 := hi7_0; have hq0 := of_decide_eq_true hc9; omega) (by have hi0 := hi7_0; have hq0 := of_decide_eq_true hc9; omega)]
    rw [nat_subI (a := (k - 1)) (b := i7) (by have hi0 := hi7_0; have hq0 := of_decide_eq_true hc9; omega) (by have hi0 := hi7_0; have hq0 := of_decide_eq_true hc9; omega)]
    refine sem_rule (binOp .shr 27 (.int .u64 ((n : Nat) : Int)) (.int .i64 (((k - 1) - i7 : Nat) : Int))) (some 21) (.int .u64 ((n / 2 ^ ((k - 1) - i7) : Nat) : Int)) (by kernel_rfl) (run_shrU (by show _ < 18446744073709551616; have hi0 := hi7_0; have hq0 := of_decide_eq_true hc9; omega)) ?_
    refine sem_rule (binOp .and 27 (.int .u64 ((n / 2 ^ ((k - 1) - i7) : Nat) : Int)) (.int .u64 ((1 : Nat) : Int))) (some 22) (.int .u64 ((band 64 (n / 2 ^ ((k - 1) - i7)) 1 : Nat) : Int)) (by kernel_rfl) (run_bit64.2.1) ?_
    refine callH_rule (b := (b, .cells #[v7, .int .i64 ((cnt + i7 : Nat) : Int)] 96)) (H := [(b, .cells #[v7, .int .i64 ((cnt + i7 : Nat) : Int)] 96)]) (F := F7) (Hr := []) (some 23) 0 s (by kernel_rfl) (by kernel_rfl) (add_c (b := b) (cnt := cnt + i7) (bs := (wr bs n k i7)) (x := band 64 (n / 2 ^ ((k - 1) - i7)) 1) (by rw [wr_len]; omega) (by rw [wr_len]; have hq0 := of_decide_eq_true hc9; have hi0 := hi7_0; omega) hi7_1 (bit_two hn)) (by kernel_rfl) ?_
    rintro v12 I12 w12 b12 F12 le12 - h12 s
    replace hle6 := leMono le12 hle6
    obtain ⟨v12, rfl, rfl, hr12⟩ := h12
    refine ops_done (by kernel_rfl) ?_
    refine region_rule ?_
    refine ops_rule (C := []) [(b, .cells #[v12, .int .i64 ((cnt + i7 + 1 : Nat) : Int)] 96)] F12 2 [] 0 (fun φ13 => [(12, .int .i64 (IntKind.wrap .i64 (((i7 : Nat) : Int) + ((1 : Nat) : Int)))), (24, .int .i64 (IntKind.wrap .i64 (((i7 : Nat) : Int) + ((1 : Nat) : Int))))]) (fun φ13 => [(b, .cells #[v12, .int .i64 ((cnt + i7 + 1 : Nat) : Int)] 96)]) (fun φ13 => []) s trivial (fun φ13 => by kernel_rfl) ?_
    intro φ13 w13 s
    rw [nat_addI (a := i7) (b := 1) (by have hi0 := hi7_0; have hq0 := of_decide_eq_true hc9; omega)]
    refine ops_done (by kernel_rfl) ?_
    have hq9 := of_decide_eq_true hc9
    have hrw9 : RowH 5 1 v12 (pk (wr bs n k (i7 + 1))).length ((pk (wr bs n k (i7 + 1))).map bV) F12 := row_cast hr12 (congrArg pk ((congrArg (fun q => wr bs n k i7 ++ [q]) (bit_eq (n := n) hn)).trans wr_succ))
    exact ⟨⟨m7 - 1, (i7 + 1, v12, F12), _, _, _, by omega, rfl, s, (List.Sublist.append (List.Sublist.cons₂ _ List.Sublist.slnil) (List.Sublist.refl _)), by kernel_rfl, hle6, by show i7 + 1 + (m7 - 1) = k; omega, hrw9⟩⟩
  ·
    rw [hc9]
    refine cond_false_rule (b := false) (by kernel_rfl) rfl ?_
    refine wp_exit ?_
    refine end_rule (C := []) [(b, .cells #[v7, .int .i64 ((cnt + i7 : Nat) : Int)] 96)] F7 (.tuple #[]) [] [] s trivial (by kernel_rfl) ?_
    have hq9 := of_decide_eq_false hc9
    have hi9 := hi7_0
    obtain rfl : k = i7 := (by omega)
    exact ⟨_, _, _, rfl, s, ⟨_, _, rfl, rfl, _, rfl, rfl, hi7_1⟩⟩

set_option maxHeartbeats 2000000 in
theorem refputZ_r {I : IM} {l : List Bool} {a : Option Addr} {m c : Nat} (hl : BoS I l (.slice a m c)) (hn9 : l.length ≤ 1000000) {n k : Nat} {z : Int} (hz : clampN z = k) (hn : n < 18446744073709551616) (hk : k ≤ 64) : FunM Try.prog 17 #[.slice a m c, .int .u64 ((n : Nat) : Int), .int .i64 z] I [] (fun v J F => RowH 4 1 v (l ++ putBits n k).length ((l ++ putBits n k).map Value.bool) F) := by
  obtain ⟨rfl, -⟩ := hl.cap
  refine enterM_rule 28 [(0, .slice a l.length c), (1, .int .u64 ((n : Nat) : Int)), (2, .int .i64 z)] Try.func17 rfl (by kernel_rfl) ?_
  intro w s
  refine wp_seq ?_
  refine region_rule ?_
  refine ops_rule (C := []) [] [] 1 [] 0 (fun φ1 => [(6, .slice none 0 0)]) (fun φ1 => []) (fun φ1 => []) s trivial (fun φ1 => by kernel_rfl) ?_
  intro φ1 w1 s
  refine ops_done (by kernel_rfl) ?_
  refine wp_seq ?_
  refine region_rule ?_
  refine ops_rule (C := []) [] [] 1 [] 0 (fun φ2 => [(7, .slice none 0 0)]) (fun φ2 => []) (fun φ2 => []) s trivial (fun φ2 => by kernel_rfl) ?_
  intro φ2 w2 s
  refine ops_done (by kernel_rfl) ?_
  refine wp_seq ?_
  refine wp_seq ?_
  refine region_rule ?_
  refine ops_rule (C := []) [] [] 1 [] 0 (fun φ3 => [(8, .int .i64 0)]) (fun φ3 => []) (fun φ3 => []) s trivial (fun φ3 => by kernel_rfl) ?_
  intro φ3 w3 s
  refine ops_done (by kernel_rfl) ?_
  refine wp_block ?_
  have hle4 := IM.Le.refl I
  refine loop_rule (fun (x : Nat × Nat × Option Addr × Nat) => [(0, .slice a l.length c), (2, .int .i64 z), (8, .int .i64 ((x.1 : Nat) : Int)), (1, .int .u64 ((x.2.1 : Nat) : Int)), (7, .slice x.2.2.1 (List.length (putBits n x.1)) x.2.2.2)]) (fun (x : Nat × Nat × Option Addr × Nat) => []) (fun m (x : Nat × Nat × Option Addr × Nat) J => IM.Le I J ∧ x.1 + m = k ∧ x.2.1 = n / 2 ^ x.1 ∧ BoS J (putBits n x.1) (.slice x.2.2.1 (List.length (putBits n x.1)) x.2.2.2)) (k) (0, n, none, 0) s (by kernel_rfl) List.Sublist.slnil ⟨IM.Le.refl _, Nat.zero_add _, (Nat.div_one n).symm, bos_nil _⟩ ?_
  rintro m5 ⟨i5, nn5, a5, c5⟩ I5 w5 ev5 s ⟨le5, hi5_0, hi5_1, hi5_2⟩
  try dsimp only at s hi5_0 hi5_1 hi5_2 ⊢
  replace hl := BoS.mono le5 hl
  replace hle4 := leMono le5 hle4
  refine wp_seq ?_
  refine wp_seq ?_
  refine region_rule ?_
  refine ops_rule (C := []) [] [] 2 [] 0 (fun φ6 => [(10, .int .i64 z), (9, .int .i64 ((i5 : Nat) : Int))]) (fun φ6 => []) (fun φ6 => []) s trivial (fun φ6 => by kernel_rfl) ?_
  intro φ6 w6 s
  refine call_rule (some 11) s (withinK_c hz) (by kernel_rfl) ?_
  intro v7 I7 w7 le7 h7 s
  replace hl := BoS.mono le7 hl
  replace hle4 := leMono le7 hle4
  replace hi5_2 := BoS.mono le7 hi5_2
  obtain rfl := h7
  refine ops_rule (C := []) [] [] 1 [] 0 (fun φ8 => [(12, .bool (decide (((i5 : Nat) : Int) < ((k : Nat) : Int))))]) (fun φ8 => []) (fun φ8 => []) s trivial (fun φ8 => by kernel_rfl) ?_
  intro φ8 w8 s
  rw [nat_lss (a := i5) (b := k)]
  refine ops_done (by kernel_rfl) ?_
  rcases Bool.eq_false_or_eq_true (decide (i5 < k)) with hc9 | hc9
  ·
    rw [hc9]
    refine cond_true_rule (b := true) (by kernel_rfl) rfl ?_
    refine wp_skip ?_
    refine wp_seq ?_
    refine wp_block ?_
    refine wp_seq ?_
    refine region_rule ?_
    refine ops_rule (C := []) [] [] 5 [] 1 (fun φ10 => [(19, .slice a5 (List.length (putBits n i5)) c5), (18, .slice (some ⟨(φ10 0), 0, none⟩) 1 1), (17, .bool ((Int.tmod ((nn5 : Nat) : Int) ((2 : Nat) : Int)) == ((1 : Nat) : Int))), (16, .int .u64 (Int.tmod ((nn5 : Nat) : Int) ((2 : Nat) : Int))), (15, .int .u64 ((nn5 : Nat) : Int))]) (fun φ10 => [((φ10 0), .cells #[.bool ((Int.tmod ((nn5 : Nat) : Int) ((2 : Nat) : Int)) == ((1 : Nat) : Int))] 4)]) (fun φ10 => []) s trivial (fun φ10 => by kernel_rfl) ?_
    intro φ10 w10 s
    rw [nat_rem (a := nn5) (b := 2)] at s ⊢
    rw [nat_eql (a := (nn5 % 2)) (b := 1)] at s ⊢
    refine append_rule (H := []) (F := [((φ10 0), .cells #[.bool (decide ((nn5 % 2) = 1))] 4)]) 26 26 4 Try.t4 (.bool false) 1 1 (some 20) s Try.underlying26 (by kernel_rfl) (by kernel_rfl) (by kernel_rfl) (by kernel_rfl) (by kernel_rfl) (by decide) (row_oneB (φ10 0) (decide ((nn5 % 2) = 1))) (src_bos s.sub hi5_2) (by have hq8 := of_decide_eq_true hc9; (try simp only [maxLen, List.length_append, List.length_cons, List.length_nil, putBits_len]); omega) (by have hq8 := of_decide_eq_true hc9; (try simp only [maxLen, List.length_append, List.length_cons, List.length_nil, putBits_len]); omega) (by kernel_rfl) ?_
    intro v11 w11 F11 s h11
    replace h11 : RowH 4 1 v11 ((([decide ((nn5 % 2) = 1)] : List Bool) ++ (putBits n i5)).length) ((([decide ((nn5 % 2) = 1)] : List Bool) ++ (putBits n i5)).map Value.bool) F11 := row_appB (x := ([decide ((nn5 % 2) = 1)] : List Bool)) (y := (putBits n i5)) h11
    obtain ⟨I12, le12, hb12, s⟩ := freeze_rowB (H := []) (F := F11) s h11
    replace hl := BoS.mono le12 hl
    replace hle4 := leMono le12 hle4
    replace hi5_2 := BoS.mono le12 hi5_2
    replace hb12 := bos_eq (l2 := (putBits n (i5 + 1))) hb12 (by rw [putBits_succ, hi5_1]; rfl)
    obtain ⟨a12, c12, hv12, hc12, hb12⟩ := hb12.open
    subst hv12
    refine ops_rule (C := []) [] [] 1 [] 0 (fun φ13 => [(7, .slice a12 (List.length (putBits n (i5 + 1))) c12)]) (fun φ13 => []) (fun φ13 => []) s trivial (fun φ13 => by kernel_rfl) ?_
    intro φ13 w13 s
    refine ops_done (by kernel_rfl) ?_
    refine region_rule ?_
    refine ops_rule (C := []) [] [] 3 [] 0 (fun φ14 => [(1, .int .u64 (IntKind.wrap .u64 (Int.tdiv ((nn5 : Nat) : Int) ((2 : Nat) : Int)))), (22, .int .u64 (IntKind.wrap .u64 (Int.tdiv ((nn5 : Nat) : Int) ((2 : Nat) : Int)))), (21, .int .u64 ((nn5 : Nat) : Int))]) (fun φ14 => []) (fun φ14 => []) s trivial (fun φ14 => by kernel_rfl) ?_
    intro φ14 w14 s
    rw [nat_quoU (a := nn5) (b := 2) (by have hnn := hi5_1; have hnd := Nat.div_le_self n (2 ^ i5); have hq0 := of_decide_eq_true hc9; omega)]
    refine ops_done (by kernel_rfl) ?_
    refine region_rule ?_
    refine ops_rule (C := []) [] [] 3 [] 0 (fun φ15 => [(8, .int .i64 (IntKind.wrap .i64 (((i5 : Nat) : Int) + ((1 : Nat) : Int)))), (14, .int .i64 (IntKind.wrap .i64 (((i5 : Nat) : Int) + ((1 : Nat) : Int)))), (13, .int .i64 ((i5 : Nat) : Int))]) (fun φ15 => []) (fun φ15 => []) s trivial (fun φ15 => by kernel_rfl) ?_
    intro φ15 w15 s
    rw [nat_addI (a := i5) (b := 1) (by have hnn := hi5_1; have hnd := Nat.div_le_self n (2 ^ i5); have hq0 := of_decide_eq_true hc9; omega)]
    refine ops_done (by kernel_rfl) ?_
    have hq9 := of_decide_eq_true hc9
    exact ⟨⟨m5 - 1, (i5 + 1, nn5 / 2, a12, c12), _, _, _, by omega, rfl, s, List.Sublist.slnil, by kernel_rfl, hle4, by show i5 + 1 + (m5 - 1) = k; omega, by show nn5 / 2 = _; rw [hi5_1, Nat.div_div_eq_div_mul, Nat.pow_succ], hb12⟩⟩
  ·
    rw [hc9]
    refine cond_false_rule (b := false) (by kernel_rfl) rfl ?_
    refine wp_exit ?_
    refine wp_seq ?_
    refine region_rule ?_
    refine ops_rule (C := []) [] [] 2 [] 1 (fun φ16 => [(24, .slice a l.length c), (23, .slice (some ⟨(φ16 0), 0, none⟩) 0 0)]) (fun φ16 => [((φ16 0), .cells #[] 4)]) (fun φ16 => []) s trivial (fun φ16 => by kernel_rfl) ?_
    intro φ16 w16 s
    refine append_rule (H := []) (F := [((φ16 0), .cells #[] 4)]) 26 26 4 Try.t4 (.bool false) 1 1 (some 25) s Try.underlying26 (by kernel_rfl) (by kernel_rfl) (by kernel_rfl) (by kernel_rfl) (by kernel_rfl) (by decide) (row_newB (φ16 0)) (src_bos s.sub hl) (by  (try simp only [maxLen, List.length_append, List.length_cons, List.length_nil, putBits_len]); omega) (by  (try simp only [maxLen, List.length_append, List.length_cons, List.length_nil, putBits_len]); omega) (by kernel_rfl) ?_
    intro v17 w17 F17 s h17
    replace h17 : RowH 4 1 v17 ((l).length) ((l).map Value.bool) F17 := row_appB (x := []) (y := l) h17
    refine ops_rule (C := []) [] F17 1 [] 0 (fun φ18 => [(26, .slice a5 (List.length (putBits n i5)) c5)]) (fun φ18 => []) (fun φ18 => []) s trivial (fun φ18 => by kernel_rfl) ?_
    intro φ18 w18 s
    refine append_rule (H := []) (F := F17) 26 26 4 Try.t4 (.bool false) 1 1 (some 27) s Try.underlying26 (by kernel_rfl) (by kernel_rfl) (by kernel_rfl) (by kernel_rfl) (by kernel_rfl) (by decide) h17 (src_bos s.sub hi5_2) (by  (try simp only [maxLen, List.length_append, List.length_cons, List.length_nil, putBits_len]); omega) (by  (try simp only [maxLen, List.length_append, List.length_cons, List.length_nil, putBits_len]); omega) (by kernel_rfl) ?_
    intro v19 w19 F19 s h19
    replace h19 : RowH 4 1 v19 ((l ++ (putBits n i5)).length) ((l ++ (putBits n i5)).map Value.bool) F19 := row_appB (x := l) (y := (putBits n i5)) h19
    refine ops_rule (C := []) [] F19 1 [] 0 (fun φ20 => [(6, v19)]) (fun φ20 => []) (fun φ20 => []) s trivial (fun φ20 => by kernel_rfl) ?_
    intro φ20 w20 s
    refine ops_done (by kernel_rfl) ?_
    refine wp_ret ?_
    refine ret_rule (C := []) [] F19 (v19) [] [] s trivial (by kernel_rfl) ?_
    replace s := s.drop (List.sublist_append_right [] F19)
    exact ⟨_, _, _, rfl, s, (by have h8 := of_decide_eq_false hc9; have e8 : k = i5 := (by omega); rw [e8]; exact h19)⟩

theorem refputZ_c {I : IM} {l : List Bool} {a : Option Addr} {m c : Nat} (hl : BoS I l (.slice a m c)) (hn9 : l.length ≤ 1000000) {n k : Nat} {z : Int} (hz : clampN z = k) (hn : n < 18446744073709551616) (hk : k ≤ 64) : Fun Try.prog 17 #[.slice a m c, .int .u64 ((n : Nat) : Int), .int .i64 z] I (fun v J => boR (l ++ putBits n k) v J) := fun_of_rowBo (refputZ_r hl hn9 hz hn hk)

end Go.Proofs.Ytpnlaeapnokipaa
